import PyProof.Rows.All
import Wide.All
import OpenK.AllK
import Wide.FinOn
import Lean
import PyProof.EqAt
import PyProof.EqKinds
import PyProof.TupleCall
import PyProof.NeKinds
import KE.KDictSum
import PyProof.DictCompW
import KE.KDictOf
import PyProof.AttrMissHeap
import PyProof.DictIter
import KE.KRevSl
import PyProof.EnumFor
import PyProof.EnumMake
import PyProof.EnumStmt
import PyProof.StrLawsTight
import PyProof.StrLawsLines
import PyProof.ZipIter
import PyProof.Rows.ZipGen
import PyProof.Rows.SortShell
import PySem.Challenge.RW_cutmeet_k91_writings
set_option Elab.async false
set_option linter.all false
set_option maxRecDepth 100000
namespace L2
open PySem PySem.Spec PyProof.Rows
abbrev Key:=Sum Int Str
def keyIs:Key->Value->Bool
 | .inl k,v=>Value.isInt k v
 | .inr x,v=>Value.isStrOf x v
def keyH (w:World):Key->Int
 | .inl k=>hashInt k
 | .inr x=>hashStr w x
theorem keyIs_shape:∀ {k:Key} {v:Value},keyIs k v=true->(∃ i t,k=Sum.inl i/\v=Value.int i t)\/(∃ x t,k=Sum.inr x/\v=Value.str x t)
 | .inl i,v,h=>by
  obtain ⟨t,e⟩:=Value.isInt_shape (k:=i) (v:=v) h
  exact .inl ⟨i,t,rfl,e⟩
 | .inr x,v,h=>by
  obtain ⟨t,e⟩:=Value.isStrOf_shape (x:=x) (v:=v) h
  exact .inr ⟨x,t,rfl,e⟩
theorem key_ll (a b:Int):decide ((Sum.inl a:Key)=Sum.inl b)=(a == b):=by
 by_cases e:a=b
 ·subst e;simp
 ·have h:¬ (Sum.inl a:Key)=Sum.inl b:=fun q=>e (Sum.inl.inj q)
  rw [decide_eq_false h]
  exact (beq_eq_false_iff_ne.mpr e).symm
theorem key_rr (a b:Str):decide ((Sum.inr a:Key)=Sum.inr b)=decide (a=b):=by
 by_cases e:a=b
 ·subst e;simp
 ·have h:¬ (Sum.inr a:Key)=Sum.inr b:=fun q=>e (Sum.inr.inj q)
  rw [decide_eq_false h,decide_eq_false e]
theorem key_lr (a:Int) (b:Str):decide ((Sum.inl a:Key)=Sum.inr b)=false:=decide_eq_false (fun q=>nomatch q)
theorem key_rl (a:Str) (b:Int):decide ((Sum.inr a:Key)=Sum.inl b)=false:=decide_eq_false (fun q=>nomatch q)
def mixKind (prog:Program) (w:World):PySem.KeyKind prog w Key where
 is:=keyIs
 hash:=keyH w
 inj:=fun v a b ha hb=>by
  rcases keyIs_shape ha with ⟨i,t,rfl,rfl⟩ | ⟨x,t,rfl,rfl⟩
  ·rcases keyIs_shape hb with ⟨j,u,rfl,e⟩ | ⟨y,u,rfl,e⟩
   ·injection e with e1 _;rw [e1]
   ·exact nomatch e
  ·rcases keyIs_shape hb with ⟨j,u,rfl,e⟩ | ⟨y,u,rfl,e⟩
   ·exact nomatch e
   ·injection e with e1 _;rw [e1]
 byValue:=fun k v h=>by
  rcases keyIs_shape h with ⟨i,t,rfl,rfl⟩ | ⟨x,t,rfl,rfl⟩<;>rfl
 pyHash:=fun hv h=>by
  rcases keyIs_shape hv with ⟨i,t,rfl,rfl⟩ | ⟨x,t,rfl,rfl⟩
  ·exact wpAny_pyHash_int h
  ·exact wpAny_pyHash_str h
 eqBool:=fun hu hv h=>by
  rcases keyIs_shape hu with ⟨i,t,rfl,rfl⟩ | ⟨x,t,rfl,rfl⟩
  ·rcases keyIs_shape hv with ⟨j,u,rfl,rfl⟩ | ⟨y,u,rfl,rfl⟩
   ·rw [key_ll] at h;exact wpAny_eqBool_int h
   ·rw [key_lr] at h;exact SeqAt.EqAt.int_str i t y u _ _ _ _ h
  ·rcases keyIs_shape hv with ⟨j,u,rfl,rfl⟩ | ⟨y,u,rfl,rfl⟩
   ·rw [key_rl] at h;exact SeqAt.EqAt.str_int x t j u _ _ _ _ h
   ·rw [key_rr] at h;exact wpAny_eqBool_str h
 «strs»:=fun k x t v h=>by
  rcases keyIs_shape h with ⟨i,u,rfl,e⟩ | ⟨y,u,rfl,e⟩
  ·exact nomatch e
  ·injection e with e1 _
   subst e1
   cases v<;>rfl
inductive V where
 | non | bl (b:Bool) | int (i:Int) | str (x:Str) | byt (b:Array UInt8) | flt (b:UInt64) | ref (a:Addr) | ty (n:String)
 deriving DecidableEq
def RelV:V->Value->Prop
 | .non,u=>u=Value.none
 | .bl b,u=>u=Value.bool b
 | .int i,u=>∃ t,u=Value.int i t
 | .str x,u=>∃ t,u=Value.str x t
 | .byt b,u=>∃ t,u=Value.bytes b t
 | .flt b,u=>∃ t,u=Value.float b t
 | .ref a,u=>u=Value.ref a
 | .ty n,u=>u=Value.type n
abbrev Vals:List V->List Value->Prop:=Paired RelV
theorem Vals.length {xs:List V} {us:List Value} (r:Vals xs us):xs.length=us.length:=Paired.length r
theorem Vals.get:∀ {xs:List V} {us:List Value} {i:Nat} {x:V},Vals xs us->xs[i]?=some x->∃ u,us[i]?=some u/\RelV x u
 | _,_,_,_,.nil,e=>by simp at e
 | _,_,0,_,.cons r _,e=>by simp at e;subst e;exact ⟨_,rfl,r⟩
 | _,_,i+1,x,.cons _ t,e=>by
  obtain ⟨u,h1,h2⟩:=Vals.get (i:=i) (x:=x) t (by simpa using e)
  exact ⟨u,by simpa using h1,h2⟩
theorem Vals.set {x:V} {u:Value} (r:RelV x u):∀ {xs:List V} {us:List Value} (i:Nat),Vals xs us->Vals (xs.set i x) (us.set i u)
 | _,_,_,.nil=>.nil
 | _,_,0,.cons _ t=>.cons r t
 | _,_,i+1,.cons q t=>.cons q (Vals.set r i t)
theorem Vals.append:∀ {xs ys:List V} {us ws:List Value},Vals xs us->Vals ys ws->Vals (xs++ys) (us++ws)
 | _,_,_,_,.nil,s=>s
 | _,_,_,_,.cons r t,s=>.cons r (Vals.append t s)
theorem Vals.take:∀ {xs:List V} {us:List Value} (n:Nat),Vals xs us->Vals (xs.take n) (us.take n)
 | _,_,0,_=>.nil
 | _,_,_+1,.nil=>.nil
 | _,_,n+1,.cons r t=>.cons r (Vals.take n t)
theorem Vals.drop:∀ {xs:List V} {us:List Value} (n:Nat),Vals xs us->Vals (xs.drop n) (us.drop n)
 | _,_,0,r=>r
 | _,_,_+1,.nil=>.nil
 | _,_,n+1,.cons _ t=>Vals.drop n t
def RelO:Option V->Option Value->Prop
 | some v,some u=>RelV v u
 | none,none=>True
 | _,_=>False
def KV {κ:Type}:List (κ × V)->List (κ × Value)->Prop:=Paired fun (p:κ × V) (q:κ × Value)=>p.1=q.1/\RelV p.2 q.2
def kV:Key->V
 | .inl i=>.int i
 | .inr x=>.str x
inductive HO where
  | lst (xs:List V)
  | tup (xs:List V)
  | dK (kvs:List (Key × V)) | dT (kvs:List (List Key × V))
  | set (S:Int->Bool) (n:Nat)
  | ins (C dx:Addr) (fs:List (Str × V))
  | own (x:Addr)
  | xd (fs:List (Str × V))
  | met (f x:Addr)
  | rng (lo hi:Int)
  | frz (o:Obj) (u:HO)
  | tbl (ps:Array Value)
  | ext (φ:Heap->Prop)
abbrev Hp:=Addr->Option HO
def upd (H:Hp) (a:Addr) (o:HO):Hp:=fun b=>if b=a then some o else H b
theorem upd_same {H:Hp} {a:Addr} {o:HO}:upd H a o a=some o:=by unfold upd;rw [if_pos rfl]
theorem upd_ne {H:Hp} {a b:Addr} {o:HO} (h:b≠a):upd H a o b=H b:=by unfold upd;rw [if_neg h]
theorem upd_upd {H:Hp} {a:Addr} {o u:HO}:upd (upd H a o) a u=upd H a u:=by
 funext b;unfold upd;split<;>rfl
theorem ne_of {H:Hp} {a b:Addr} {o u:HO} (h:H a=some o) (h':H b=some u) (d:o≠u):a≠b:=by
 intro e;subst e;rw [h] at h';exact d (Option.some.inj h')
theorem ne_of_none {H:Hp} {a b:Addr} {o:HO} (h:H a=some o) (h':H b=none):a≠b:=by
 intro e;subst e;rw [h] at h';cases h'
section
variable (P:Program) (w:World)
def ObjOk (H:Hp) (h:Heap) (a:Addr):HO->Prop
 | .lst xs=>xs.length<=sizeLine/\∃ (its:List Value) (n:Nat),Vals xs its/\h.get? a=some { cls:=.type "list",data:=.seq its.toArray n }
 | .tup xs=>xs.length<=sizeLine/\∃ its:List Value,Vals xs its/\IsTup h a its.toArray
 | .dK kvs=>kvs.length<=sizeLine/\(a == sysModules)=false/\∃ vs,KV kvs vs/\h.DictOf (mixKind P w) a vs
 | .dT kvs=>kvs.length<=sizeLine/\(a == sysModules)=false/\∃ xs:List (List Key × Addr × Value),
   Paired (fun (p:List Key × V) (q:List Key × Addr × Value)=>p.1=q.1/\H q.2.1=some (.tup (p.1.map kV))/\RelV p.2 q.2.2) kvs xs /\
   ∃ o es ep,h.get? a=some o/\o.ExactDict/\o.data=.dict es ep/\es.toList=xs.map (entryOfKey (tupleKind (mixKind P w)))/\(xs.map (·.1)).Nodup
 | .set S n=>h.SetOf (intKind P w) a S n
 | .ins C dx fs=>H dx=some (.own a)/\fs.length<=1000/\dx≠a/\h.get? a=some (PySem.W.instObj C dx) /\
   ∃ mA,h.Ns1 dx mA/\(∀ f,RelO (fs.lookup f) (mA f))/\PySem.Within mA (fs.map (·.1))
 | .own _=>∃ o,h.get? a=some o
 | .xd fs=>∃ mA,h.Ns1 a mA/\∀ f,RelO (fs.lookup f) (mA f)
 | .rng lo hi=>∃ t u v,h.get? a=some { cls:=.type "range",data:=.fields #[.int lo t,.int hi u,.int 1 v] }
 | .frz o u=>h.get? a=some o/\ObjOk H h a u
 | .tbl ps=>h.get? a=some { cls:=.none,data:=.fields ps }
 | .met f x=>h.get? a=some (PySem.W.methodObj (.ref f) (.ref x))
 | .ext φ=>φ h/\(∃ o,h.get? a=some o)/\∀ h1 h2:Heap,φ h1->(∀ o,h1.get? a=some o->h2.get? a=some o)->φ h2
def HOk (H:Hp) (h:Heap):Prop:=∀ a o,H a=some o->ObjOk P w H h a o
end
section
variable {P:Program} {w:World} {H H':Hp} {h h':Heap} {a:Addr} {o:HO}
theorem ObjOk.lt (x:ObjOk P w H h a o):a < h.objs.size:=by
 cases o with
 | lst xs=>obtain ⟨_,_,_,_,e⟩:=x;exact Heap.lt_size e
 | tup xs=>obtain ⟨_,_,_,p⟩:=x;exact p.lt
 | dK kvs=>obtain ⟨_,_,_,_,o,_,_,e,_⟩:=x;exact Heap.lt_size e
 | dT kvs=>obtain ⟨_,_,_,_,o,_,_,e,_⟩:=x;exact Heap.lt_size e
 | set S n=>obtain ⟨o,_,_,_,e,_⟩:=x;exact Heap.lt_size e
 | ins C dx fs=>obtain ⟨_,_,_,e,_⟩:=x;exact Heap.lt_size e
 | own y=>obtain ⟨_,e⟩:=x;exact Heap.lt_size e
 | xd fs=>obtain ⟨_,⟨_,_,_,e,_⟩,_⟩:=x;exact Heap.lt_size e
 | rng lo hi=>obtain ⟨_,_,_,e⟩:=x;exact Heap.lt_size e
 | frz ob u=>obtain ⟨e,_⟩:=x;exact Heap.lt_size e
 | tbl ps=>exact Heap.lt_size (show h.get? a=some _ from x)
 | met f y=>exact Heap.lt_size (show h.get? a=some _ from x)
 | ext φ=>obtain ⟨_,⟨_,e⟩,_⟩:=x;exact Heap.lt_size e
theorem Paired.mapP {α β:Type} {F G:α->β->Prop}:∀ {l₁:List α} {l₂:List β},Paired F l₁ l₂->(∀ a b,F a b->G a b)->Paired G l₁ l₂
 | _,_,.nil,_=>.nil
 | _,_,.cons r t,f=>.cons (f _ _ r) (Paired.mapP t f)
theorem ObjOk.stay (x:ObjOk P w H h a o) (k:∀ b u,(b=a\/H b=some (.own a))->h.get? b=some u->h'.get? b=some u)
  (ho:∀ b,H b=some (.own a)->H' b=some (.own a)) (ht:∀ b xs,H b=some (.tup xs)->H' b=some (.tup xs)):ObjOk P w H' h' a o:=by
 induction o with
 | lst xs=>obtain ⟨z,its,n,r,e⟩:=x;exact ⟨z,its,n,r,k _ _ (.inl rfl) e⟩
 | tup xs=>obtain ⟨z,its,r,ob,e,c⟩:=x;exact ⟨z,its,r,ob,k _ _ (.inl rfl) e,c⟩
 | dK kvs=>obtain ⟨z,y,vs,r,ob,es,ep,e,c⟩:=x;exact ⟨z,y,vs,r,ob,es,ep,k _ _ (.inl rfl) e,c⟩
 | dT kvs =>
  obtain ⟨z,y,xs,r,ob,es,ep,e,c⟩:=x
  exact ⟨z,y,xs,Paired.mapP r fun p q z=>⟨z.1,ht _ _ z.2.1,z.2.2⟩,ob,es,ep,k _ _ (.inl rfl) e,c⟩
 | set S n=>obtain ⟨ob,es,ep,t,e,c⟩:=x;exact ⟨ob,es,ep,t,k _ _ (.inl rfl) e,c⟩
 | ins C dx fs =>
  obtain ⟨d,z,ne,e,mA,⟨od,es,ep,e2,c⟩,r⟩:=x
  exact ⟨ho _ d,z,ne,k _ _ (.inl rfl) e,mA,⟨od,es,ep,k _ _ (.inr d) e2,c⟩,r⟩
 | own y=>obtain ⟨ob,e⟩:=x;exact ⟨ob,k _ _ (.inl rfl) e⟩
 | xd fs=>obtain ⟨mA,⟨od,es,ep,e,c⟩,r⟩:=x;exact ⟨mA,⟨od,es,ep,k _ _ (.inl rfl) e,c⟩,r⟩
 | rng lo hi=>obtain ⟨t,u,v,e⟩:=x;exact ⟨t,u,v,k _ _ (.inl rfl) e⟩
 | frz ob u ih=>obtain ⟨e,q⟩:=x;exact ⟨k _ _ (.inl rfl) e,ih q⟩
 | tbl ps =>
  have e:h.get? a=some { cls:=.none,data:=.fields ps }:=x
  show h'.get? a=some { cls:=.none,data:=.fields ps }
  exact k a _ (.inl rfl) e
 | met f y =>
  have e:h.get? a=some (PySem.W.methodObj (.ref f) (.ref y)):=x
  show h'.get? a=some (PySem.W.methodObj (.ref f) (.ref y))
  exact k a _ (.inl rfl) e
 | ext φ=>obtain ⟨p,⟨o,e⟩,st⟩:=x;exact ⟨st _ _ p fun o q=>k _ _ (.inl rfl) q,⟨o,k _ _ (.inl rfl) e⟩,st⟩
theorem HOk.lt (x:HOk P w H h) (e:H a=some o):a < h.objs.size:=(x a o e).lt
theorem HOk.fresh (x:HOk P w H h) (e:h.objs.size<=a):H a=none:=by
 cases q:H a with
 | none=>rfl
 | some u=>exact absurd (Nat.lt_of_lt_of_le (x.lt q) e) (Nat.lt_irrefl _)
theorem HOk.kept (x:HOk P w H h) (k:∀ b u,h.get? b=some u->h'.get? b=some u):HOk P w H h':=fun a o e =>
 (x a o e).stay (fun b u _ q=>k b u q) (fun _ q=>q) fun _ _ q=>q
theorem HOk.laid (x:HOk P w H h) (k:∀ b u,h.get? b=some u->h'.get? b=some u) (hp:h.objs.size<=a) (new:ObjOk P w (upd H a o) h' a o):HOk P w (upd H a o) h':=fun b u e=>by
 have hn:=x.fresh hp
 by_cases hb:b=a
 ·subst hb;rw [upd_same] at e;cases e;exact new
 ·rw [upd_ne hb] at e
  exact (x b u e).stay (fun c v _ q=>k c v q) (fun c q=>by rw [upd_ne (ne_of_none q hn)];exact q) fun c xs q=>by rw [upd_ne (ne_of_none q hn)];exact q
end
def Rd (H:Hp) (a:Addr) (u:HO):Prop:=H a=some u\/∃ o,H a=some (.frz o u)
theorem Rd.ok {P:Program} {w:World} {H:Hp} {h:Heap} {a:Addr} {u:HO} (r:Rd H a u) (x:HOk P w H h):ObjOk P w H h a u:=by
 rcases r with r | ⟨o,r⟩
 ·exact x a u r
 ·obtain ⟨_,q⟩:=x a _ r
  exact q
def Mut:Option HO->Prop
 | some (.lst _)=>True
 | some (.dK _)=>True
 | some (.dT _)=>True
 | some (.set _ _)=>True
 | some (.ins _ _ _)=>True
 | some (.ext _)=>True
 | _=>False
section
variable {P:Program} {w:World} {H:Hp} {h h':Heap} {x e:Addr} {o':HO}
theorem HOk.write (ok:HOk P w H h) (mu:Mut (H x)) (he:e=x\/H e=some (.own x)) (k:∀ b u,b≠e->h.get? b=some u->h'.get? b=some u) (heo:∃ u,h'.get? e=some u)
  (new:ObjOk P w (upd H x o') h' x o'):HOk P w (upd H x o') h':=fun b u q=>by
 have nown:∀ c y,H c=some (.own y)->c≠x:=fun c y r z=>by subst z;rw [r] at mu;exact mu
 have ntup:∀ c xs,H c=some (.tup xs)->c≠x:=fun c xs r z=>by subst z;rw [r] at mu;exact mu
 by_cases hb:b=x
 ·subst hb;rw [upd_same] at q;cases q;exact new
 ·rw [upd_ne hb] at q
  by_cases hbe:b=e
  ·have q':H b=some (.own x):=by
    rcases he with z | z
    ·exact absurd (hbe.trans z) hb
    ·rw [hbe];exact z
   rw [q] at q';cases q'
   obtain ⟨v,hv⟩:=heo
   exact ⟨v,by rw [hbe];exact hv⟩
  ·refine (ok b u q).stay (fun c v hc r=>k c v ?_ r) (fun c r=>by rw [upd_ne (nown c b r)];exact r) fun c xs r=>by rw [upd_ne (ntup c xs r)];exact r
   rcases hc with rfl | hc
   ·exact hbe
   ·rintro rfl
    rcases he with z | z
    ·exact nown c b hc z
    ·rw [hc] at z;cases z;exact hb rfl
end
structure Un (fs ex:List Addr) (H H':Hp) (h h':Heap):Prop where
 keep:∀ b o,h.get? b=some o->H b=none->b ∉ fs->b ∉ ex->h'.get? b=some o
 slot:∀ b o,h.get? b=some o->H b=none->b∈fs->b ∉ ex->∃ sl,h'.get? b=some { o with slots:=sl }
 free:∀ b o,h.get? b=some o->H b=none->b ∉ ex->H' b=none
 there:∀ b o,h.get? b=some o->b ∉ ex->∃ o',h'.get? b=some o'
 tups:∀ b xs,H b=some (.tup xs)->H' b=some (.tup xs)
 frzs:∀ b o u,H b=some (.frz o u)->H' b=some (.frz o u)
 tbls:∀ b ps,H b=some (.tbl ps)->∃ more,H' b=some (.tbl (ps++more))
section
variable {fs fs' ex ex':List Addr} {H H1 H2:Hp} {h h1 h2 h':Heap} {a x e:Addr} {o:HO}
theorem Un.any (u:Un fs ex H H1 h h1) {b:Addr} {ob:Obj} (q:h.get? b=some ob) (n:H b=none) (hx:b ∉ ex):∃ sl,h1.get? b=some { ob with slots:=sl }:=by
 by_cases hb:b∈fs
 ·exact u.slot b ob q n hb hx
 ·exact ⟨ob.slots,u.keep b ob q n hb hx⟩
theorem Un.kept (k:∀ b u,h.get? b=some u->h'.get? b=some u):Un fs ex H H h h' :=
 ⟨fun b ob q _ _ _=>k b ob q,fun b ob q _ _ _=>⟨ob.slots,k b ob q⟩,fun _ _ _ n _=>n,fun b ob q _=>⟨ob,k b ob q⟩,fun _ _ q=>q,fun _ _ _ q=>q,fun _ ps q=>⟨#[],by rw [q];simp⟩⟩
theorem Un.refl:Un fs ex H H h h:=Un.kept fun _ _ q=>q
theorem Un.laid (k:∀ b u,h.get? b=some u->h'.get? b=some u) (hp:h.objs.size<=a) (hn:H a=none):Un fs ex H (upd H a o) h h' where
 keep:=fun b u q _ _ _=>k b u q
 slot:=fun b u q _ _ _=>⟨u.slots,k b u q⟩
 free:=fun b u q n _=>by rw [upd_ne (Nat.ne_of_lt (Nat.lt_of_lt_of_le (Heap.lt_size q) hp))];exact n
 there:=fun b u q _=>⟨u,k b u q⟩
 tups:=fun b xs q=>by rw [upd_ne (ne_of_none q hn)];exact q
 frzs:=fun b u xs q=>by rw [upd_ne (ne_of_none q hn)];exact q
 tbls:=fun b ps q=>⟨#[],by rw [upd_ne (ne_of_none q hn),q];simp⟩
theorem Un.write (mu:Mut (H x)) (he:e=x\/H e=some (.own x)) (k:∀ b u,b≠e->h.get? b=some u->h'.get? b=some u) (heo:∃ u,h'.get? e=some u):Un fs ex H (upd H x o) h h':=by
 have hx:∀ b,H b=none->b≠x:=fun b n z=>by subst z;rw [n] at mu;exact mu
 have hb:∀ b,H b=none->b≠e:=fun b n z=>by
  subst z
  rcases he with r | r
  ·exact hx b n r
  ·rw [n] at r;cases r
 have hm:∀ b u,H b=some u->¬ Mut (some u)->b≠x:=fun b u q nm z=>by subst z;rw [q] at mu;exact nm mu
 refine ⟨fun b u q n _ _=>k b u (hb b n) q,fun b u q n _ _=>⟨u.slots,k b u (hb b n) q⟩,fun b u q n _=>by rw [upd_ne (hx b n)];exact n,fun b u q _=>?_,
  fun b xs q=>by rw [upd_ne (hm b _ q fun z=>z)];exact q,fun b u xs q=>by rw [upd_ne (hm b _ q fun z=>z)];exact q,fun b ps q=>⟨#[],by rw [upd_ne (hm b _ q fun z=>z),q];simp⟩⟩
 by_cases hbe:b=e
 ·subst hbe;exact heo
 ·exact ⟨u,k b u hbe q⟩
end
def trk (h:Heap) (H:Hp):List Addr:=(List.range h.objs.size).filter fun a=>(H a).isSome
def hidT (h:Heap) (H:Hp):Heap:=PySem.W.hideAll h (trk h H)
theorem hidT_size (h:Heap) (H:Hp):(hidT h H).objs.size=h.objs.size:=PySem.W.hideAll_size _ _
theorem hidT_get {h:Heap} {H:Hp} {b:Addr} {o:Obj} (e:h.get? b=some o) (n:H b=none):(hidT h H).get? b=some o :=
 PySem.W.hideAll_get _ e fun hm=>by
  have q:(H b).isSome=true:=(List.mem_filter.mp hm).2
  rw [n] at q;simp at q
theorem of_hidT {h:Heap} {H:Hp} {b:Addr} {o:Obj} (e:(hidT h H).get? b=some o):h.get? b=some o/\H b=none:=by
 have e':h.get? b=some o:=PySem.W.of_hideAll (trk h H) e
 refine ⟨e',?_⟩
 cases q:H b with
 | none=>rfl
 | some x =>
  have hm:b∈trk h H:=List.mem_filter.mpr ⟨List.mem_range.mpr (Heap.lt_size e'),by simp [q]⟩
  have z:(hidT h H).get? b=none:=PySem.W.hideAll_none (trk h H) hm
  rw [z] at e;cases e
def allNews (g h:Heap) (L:Addr):List (Addr × Obj):=(List.range h.objs.size).filterMap fun a=>if a=L\/(g.get? a).isSome=true then none else (h.get? a).map fun o=>(a,o)
def rest (g h:Heap) (L d:Addr):List (Addr × Obj):=(allNews g h L).filter fun p=>decide (p.1≠d)
structure Mod (K:PySem.W.Frag) (mg:Str->Option Value) (base:Heap):Prop where
 kin:K.In base
 glob:base.Ns mainGlobals mg
 blt:∃ mb,base.Ns builtinsNs mb/\∀ x:Str,x≠"__name__" -> mb x=bootBuiltins x
 nolimit:base.NoLimit
structure Cx where
 prog:Program
 w:World
 K:PySem.W.Frag
 mg:Str->Option Value
 base:Heap
 A:Around
 N:List Str
 s₀:Shared
 H₀:Hp
 env:Env
 outer:List Env
 stack:List Env
 ex:List Addr
 fn:Str->Bool
 calm:Bool
 pn:List (Addr × Obj)
 xe:Value->Shared->Prop
def frs (l:List Env):List Addr:=l.filterMap (·.frame)
abbrev Cx.fs (X:Cx):List Addr:=frs X.outer
def Vis (sc:Scope) (x:Str):Prop:=sc.names.lookup x=some .local\/sc.names.lookup x=some .cell\/sc.names.lookup x=some .free
def Loc (sc:Scope) (x:Str):Prop:=sc.names.lookup x=some .local\/sc.names.lookup x=some .cell
def Look (env:Env) (h:Heap) (m:Str->Option Value) (x:Str) (u:Value):Prop :=
 (env.kindOf x=some .local/\m x=some u)\/((env.kindOf x=some .cell\/env.kindOf x=some .free)/\∃ c,env.cells.lookup x=some c/\h.IsCell c (some u))
structure Cx.Ok (X:Cx):Prop where
 mod:Mod X.K X.mg X.base
 kind:X.env.scope.kind=.function
 glob:X.env.globals=mainGlobals
 blt:X.env.builtins=builtinsNs
 above:X.s₀.heap.objs.size<=X.env.locals
 inj:∀ x y c,X.env.cells.lookup x=some c->X.env.cells.lookup y=some c->x=y
 has:∀ x,(X.env.kindOf x=some .cell\/X.env.kindOf x=some .free)->∃ c,X.env.cells.lookup x=some c
 cab:∀ x c,X.fn x=true->X.env.cells.lookup x=some c->X.s₀.heap.objs.size<=c
 hd:X.calm=true->X.A.handled=none
 frames:X.A.frames=some X.stack
 stk:X.stack=X.outer\/(X.stack=X.env::X.outer/\X.env.frame=some X.env.locals)
 exf:∀ b∈X.ex,b≠X.env.locals/\∀ x c,X.env.cells.lookup x=some c->c≠b
 bs:∀ b o,X.base.get? b=some o->X.s₀.heap.get? b=some o/\X.H₀ b=none
 bsz:X.base.objs.size<=X.s₀.heap.objs.size
 noex:∀ b o,X.base.get? b=some o->b ∉ X.ex
 exfs:∀ b∈X.ex,b ∉ X.fs
 funs:X.s₀.heap.FunFrames X.base X.outer
 frf:∀ b∈X.fs,X.H₀ b=none
structure Inv (X:Cx) (pins:List (Addr × Obj)) (σ:List (Option V)) (H:Hp) (s:Shared):Prop where
 ok:X.Ok
 os:s.os=X.s₀.os
 bare:AllBare s.gens
 base:Un X.fs X.ex X.H₀ H X.s₀.heap s.heap
 loc:∃ m,s.heap.Ns X.env.locals m/\∀ (i:Nat) (x:Str) (v:V),X.N[i]?=some x->σ[i]?=some (some v)->Vis X.env.scope x->∃ u,RelV v u/\Look X.env s.heap m x u
 cell:∀ x c,X.env.cells.lookup x=some c->∃ v,s.heap.IsCell c v
 free:H X.env.locals=none
 freeC:∀ x c,X.env.cells.lookup x=some c->H c=none
 pin:∀ p∈X.pn++pins,s.heap.get? p.1=some p.2/\H p.1=none/\p.1≠X.env.locals/\p.1 ∉ X.fs/\∀ v,p.2.data≠.cell v
 hok:HOk X.prog X.w H s.heap
 len:σ.length=X.N.length
section
variable {X:Cx} {pins:List (Addr × Obj)} {σ:List (Option V)} {H H':Hp} {s:Shared} {h':Heap}
theorem Cx.Ok.nofr (ok:X.Ok) {b:Addr} {o:Obj} (e:X.base.get? b=some o):b ∉ X.fs:=fun hb=>by
 have:=(ok.funs.mem hb).1
 rw [e] at this;cases this
theorem Inv.bs (I:Inv X pins σ H s):∀ b o,X.base.get? b=some o->s.heap.get? b=some o/\H b=none:=fun b o e =>
 ⟨I.base.keep b o (I.ok.bs b o e).1 (I.ok.bs b o e).2 (I.ok.nofr e) (I.ok.noex b o e),I.base.free b o (I.ok.bs b o e).1 (I.ok.bs b o e).2 (I.ok.noex b o e)⟩
theorem Inv.bk (I:Inv X pins σ H s):∀ b o,X.base.get? b=some o->s.heap.get? b=some o:=fun b o e=>(I.bs b o e).1
theorem Inv.mod (I:Inv X pins σ H s):Mod X.K X.mg X.base:=I.ok.mod
theorem Inv.kIn (I:Inv X pins σ H s):X.K.In s.heap:=I.ok.mod.kin.keeps I.bk
theorem Inv.lt (I:Inv X pins σ H s):X.env.locals < s.heap.objs.size:=let ⟨_,hn,_⟩:=I.loc;hn.lt
theorem Inv.sz (I:Inv X pins σ H s):X.s₀.heap.objs.size<=s.heap.objs.size:=Nat.le_trans I.ok.above (Nat.le_of_lt I.lt)
theorem Inv.nofs (I:Inv X pins σ H s) {a:Addr} (h:s.heap.objs.size<=a):a ∉ X.fs:=fun hb=>by
 obtain ⟨_,o,ho,_⟩:=I.ok.funs.mem hb
 exact absurd (Nat.lt_of_lt_of_le (Heap.lt_size ho) (Nat.le_trans I.sz h)) (Nat.lt_irrefl _)
theorem Inv.cne (I:Inv X pins σ H s):∀ x c,X.env.cells.lookup x=some c->c≠X.env.locals:=fun x c e z=>by
 obtain ⟨v,o,ho,hd⟩:=I.cell x c e
 obtain ⟨m,⟨o',es,ep,ho',hd',_⟩,_⟩:=I.loc
 rw [z,ho'] at ho;cases ho;rw [hd'] at hd;cases hd
theorem Inv.funs (I:Inv X pins σ H s):s.heap.FunFrames X.base X.outer:=by
 have all:∀ (l:List Env),(∀ b∈frs l,b∈X.fs)->X.s₀.heap.FunFrames X.base l->s.heap.FunFrames X.base l:=by
  intro l
  induction l with
  | nil=>intro _ _;trivial
  | cons env r ih =>
   intro hs hl
   obtain ⟨hk,⟨L,o,hf,hn,ho,hd⟩,hr⟩:=hl
   have hL:L∈X.fs:=hs L (by unfold frs;rw [List.filterMap_cons,hf];exact List.mem_cons_self)
   obtain ⟨sl,e⟩:=I.base.slot L o ho (I.ok.frf L hL) hL fun z=>I.ok.exfs L z hL
   exact ⟨hk,⟨L,_,hf,hn,e,hd⟩,ih (fun b hb=>hs b (by unfold frs;rw [List.filterMap_cons,hf];exact List.mem_cons_of_mem _ hb)) hr⟩
 exact all X.outer (fun _ hb=>hb) I.ok.funs
theorem Inv.stack (I:Inv X pins σ H s):s.heap.FunFrames X.base X.stack:=by
 rcases I.ok.stk with e | ⟨e,hf⟩
 ·rw [e];exact I.funs
 ·rw [e]
  obtain ⟨m,hn,_⟩:=I.loc
  refine .cons (by rw [I.ok.kind];decide) hf hn ?_ I.funs
  exact Heap.get?_none_of_le (Nat.le_trans I.ok.bsz I.ok.above)
theorem Inv.stkSub (I:Inv X pins σ H s):∀ b∈frs X.stack,b∈X.env.locals::X.fs:=fun b hb=>by
 rcases I.ok.stk with e | ⟨e,hf⟩
 ·rw [e] at hb;exact List.mem_cons_of_mem _ hb
 ·rw [e] at hb
  unfold frs at hb
  rw [List.filterMap_cons,hf] at hb
  exact hb
theorem Inv.stkFree (I:Inv X pins σ H s):∀ b∈frs X.stack,H b=none:=fun b hb=>by
 rcases List.mem_cons.mp (I.stkSub b hb) with e | hb
 ·rw [e];exact I.free
 ·obtain ⟨_,o,ho,_⟩:=I.ok.funs.mem hb
  exact I.base.free b o ho (I.ok.frf b hb) fun z=>I.ok.exfs b z hb
theorem Inv.step {g':Array GenState} {t':Nat} {d':Drawn} {ch:List Addr} (I:Inv X pins σ H s)
  (hch:∀ b∈ch,(b∈X.ex\/X.s₀.heap.objs.size<=b)/\b≠X.env.locals/\(∀ x c,X.env.cells.lookup x=some c->c≠b)/\∀ p∈X.pn++pins,p.1≠b)
  (keep:∀ b o,b≠X.env.locals->b ∉ X.fs->b ∉ ch->s.heap.get? b=some o->H b=none->h'.get? b=some o)
  (slot:∀ b o,b≠X.env.locals->b∈X.fs->b ∉ ch->s.heap.get? b=some o->H b=none->∃ sl,h'.get? b=some { o with slots:=sl }) (free:∀ b o,b ∉ ch->s.heap.get? b=some o->H b=none->H' b=none)
  (there:∀ b o,b ∉ ch->s.heap.get? b=some o->∃ o',h'.get? b=some o')
  (tups:∀ b xs,H b=some (.tup xs)->H' b=some (.tup xs)) (frzs:∀ b o u,H b=some (.frz o u)->H' b=some (.frz o u)) (tbls:∀ b ps,H b=some (.tbl ps)->∃ more,H' b=some (.tbl (ps++more)))
  (ns:∀ m,s.heap.Ns X.env.locals m->h'.Ns X.env.locals m) (hok:HOk X.prog X.w H' h') (hg:AllBare g') :
  Inv X pins σ H' { s with heap:=h',gens:=g',drawn:=d',toks:=t' }:=by
 have neL:∀ b o,X.s₀.heap.get? b=some o->b≠X.env.locals:=fun b o e=>Nat.ne_of_lt (Nat.lt_of_lt_of_le (Heap.lt_size e) I.ok.above)
 have neC:∀ b o,X.s₀.heap.get? b=some o->b ∉ X.ex->b ∉ ch:=fun b o e hx hb=>by
  rcases (hch b hb).1 with z | z
  ·exact hx z
  ·exact absurd (Nat.lt_of_lt_of_le (Heap.lt_size e) z) (Nat.lt_irrefl _)
 have cellK:∀ x c,X.env.cells.lookup x=some c->∀ v,s.heap.IsCell c v->h'.IsCell c v:=fun x c e v ⟨o,ho,hd⟩=>by
  have nch:c ∉ ch:=fun z=>(hch c z).2.2.1 x c e rfl
  by_cases hc:c∈X.fs
  ·obtain ⟨sl,q⟩:=slot c o (I.cne x c e) hc nch ho (I.freeC x c e)
   exact ⟨_,q,hd⟩
  ·exact ⟨o,keep c o (I.cne x c e) hc nch ho (I.freeC x c e),hd⟩
 refine ⟨I.ok,I.os,hg,⟨fun b o e n hb hx=>?_,fun b o e n hb hx=>?_,fun b o e n hx=>?_,fun b o e hx=>?_,fun b xs e=>tups b xs (I.base.tups b xs e),fun b o xs e=>frzs b o xs (I.base.frzs b o xs e),fun b ps e=>?_⟩,?_,fun x c e=>?_,?_,fun x c e=>?_,fun p hp=>?_,hok,I.len⟩
 ·exact keep b o (neL b o e) hb (neC b o e hx) (I.base.keep b o e n hb hx) (I.base.free b o e n hx)
 ·obtain ⟨sl,e1⟩:=I.base.slot b o e n hb hx
  obtain ⟨sl',e2⟩:=slot b _ (neL b o e) hb (neC b o e hx) e1 (I.base.free b o e n hx)
  exact ⟨sl',e2⟩
 ·obtain ⟨o',e1⟩:=I.base.there b o e hx
  exact free b o' (neC b o e hx) e1 (I.base.free b o e n hx)
 ·obtain ⟨o',e1⟩:=I.base.there b o e hx
  exact there b o' (neC b o e hx) e1
 ·obtain ⟨m1,e1⟩:=I.base.tbls b ps e
  obtain ⟨m2,e2⟩:=tbls b _ e1
  exact ⟨m1++m2,by rw [e2,Array.append_assoc]⟩
 ·obtain ⟨m,hn,hl⟩:=I.loc
  refine ⟨m,ns m hn,fun i x v e1 e2 e3=>?_⟩
  obtain ⟨u,r,l⟩:=hl i x v e1 e2 e3
  refine ⟨u,r,?_⟩
  rcases l with l | ⟨k,c,e,z⟩
  ·exact .inl l
  ·exact .inr ⟨k,c,e,cellK x c e _ z⟩
 ·obtain ⟨v,z⟩:=I.cell x c e
  exact ⟨v,cellK x c e v z⟩
 ·obtain ⟨m,⟨o,_,_,ho,_⟩,_⟩:=I.loc
  exact free _ o (fun z=>(hch _ z).2.1 rfl) ho I.free
 ·obtain ⟨v,o,ho,hd⟩:=I.cell x c e
  exact free c o (fun z=>(hch c z).2.2.1 x c e rfl) ho (I.freeC x c e)
 ·obtain ⟨e,n,ne,nf,d⟩:=I.pin p hp
  have nch:p.1 ∉ ch:=fun z=>(hch p.1 z).2.2.2 p hp rfl
  exact ⟨keep p.1 p.2 ne nf nch e n,free p.1 p.2 nch e n,ne,nf,d⟩
theorem Inv.un {t':Nat} (I:Inv X pins σ H s) (u:Un X.fs [] H H' s.heap h') (hok:HOk X.prog X.w H' h'):Inv X pins σ H' { s with heap:=h',toks:=t' }:=by
 obtain ⟨m,⟨o,es,ep,ho,r⟩,_⟩:=id I.loc
 obtain ⟨sl,hL⟩:=u.any ho I.free (by simp)
 exact I.step (g':=s.gens) (d':=s.drawn) (ch:=[]) (fun _ z=>nomatch z) (fun b o _ hb _ e n=>u.keep b o e n hb (by simp)) (fun b o _ hb _ e n=>u.slot b o e n hb (by simp)) (fun b o _ e n=>u.free b o e n (by simp)) (fun b o _ e=>u.there b o e (by simp)) u.tups u.frzs u.tbls (fun m' hm=>by
  obtain ⟨o',es',ep',ho',r'⟩:=hm
  rw [ho] at ho';cases ho'
  exact ⟨_,es',ep',hL,r'⟩) hok I.bare
theorem Inv.call {g':Array GenState} {t':Nat} {d':Drawn} {ch:List Addr} (I:Inv X pins σ H s) (u:Un (frs X.stack) ch H H' s.heap h') (hok:HOk X.prog X.w H' h') (hg:AllBare g')
  (hch:∀ b∈ch,(b∈X.ex\/X.s₀.heap.objs.size<=b)/\b≠X.env.locals/\(∀ x c,X.env.cells.lookup x=some c->c≠b)/\∀ p∈X.pn++pins,p.1≠b) :
  Inv X pins σ H' { s with heap:=h',gens:=g',drawn:=d',toks:=t' }:=by
 obtain ⟨m,⟨o,es,ep,ho,r⟩,_⟩:=id I.loc
 obtain ⟨sl,hL⟩:=u.any ho I.free fun z=>(hch _ z).2.1 rfl
 exact I.step (ch:=ch) hch (fun b o hL hb hc e n=>u.keep b o e n (fun z=>(List.mem_cons.mp (I.stkSub b z)).elim hL hb) hc) (fun b o _ _ hc e n=>u.any e n hc) (fun b o hc e n=>u.free b o e n hc) (fun b o hc e=>u.there b o e hc) u.tups u.frzs u.tbls (fun m' hm=>by
  obtain ⟨o',es',ep',ho',r'⟩:=hm
  rw [ho] at ho';cases ho'
  exact ⟨_,es',ep',hL,r'⟩) hok hg
theorem Inv.turned {t':Nat} {it:Addr} (I:Inv X pins σ H s) (k:∀ b o,b≠it->s.heap.get? b=some o->h'.get? b=some o) (hn:H it=none) (hL:it≠X.env.locals)
  (h1:it∈X.ex\/X.s₀.heap.objs.size<=it) (h2:∀ x c,X.env.cells.lookup x=some c->c≠it) (h3:∀ p∈X.pn++pins,p.1≠it):Inv X pins σ H { s with heap:=h',toks:=t' }:=by
 have nit:∀ b u,H b=some u->b≠it:=fun b u e z=>by rw [z,hn] at e;cases e
 refine I.step (g':=s.gens) (d':=s.drawn) (ch:=[it]) (fun b hb=>?_) (fun b o _ _ hc e _=>k b o (fun z=>hc (by simp [z])) e) (fun b o _ _ hc e _=>⟨o.slots,k b o (fun z=>hc (by simp [z])) e⟩) (fun _ _ _ _ n=>n)
  (fun b o hc e=>⟨o,k b o (fun z=>hc (by simp [z])) e⟩) (fun _ _ e=>e) (fun _ _ _ e=>e) (fun b ps e=>⟨#[],by rw [e];simp⟩) (fun m hm=>?_) (fun b u e=>?_) I.bare
 ·have e:b=it:=by simpa using hb
  subst e
  exact ⟨h1,hL,h2,h3⟩
 ·obtain ⟨o,es,ep,ho,r⟩:=hm
  exact ⟨o,es,ep,k _ o (Ne.symm hL) ho,r⟩
 ·refine (I.hok b u e).stay (fun c v hc q=>k c v ?_ q) (fun _ q=>q) fun _ _ q=>q
  rcases hc with z | z
  ·rw [z];exact nit b u e
  ·exact nit c _ z
theorem Inv.tok (I:Inv X pins σ H s) (t:Nat):Inv X pins σ H { s with toks:=t }:=I.un (h':=s.heap) (t':=t) Un.refl I.hok
theorem Inv.kept {t':Nat} (I:Inv X pins σ H s) (k:∀ b u,s.heap.get? b=some u->h'.get? b=some u):Inv X pins σ H { s with heap:=h',toks:=t' }:=I.un (Un.kept k) (I.hok.kept k)
theorem Inv.laid {a:Addr} {o:HO} {t':Nat} (I:Inv X pins σ H s) (k:∀ b u,s.heap.get? b=some u->h'.get? b=some u) (hp:s.heap.objs.size<=a) (new:ObjOk X.prog X.w (upd H a o) h' a o) :
  Inv X pins σ (upd H a o) { s with heap:=h',toks:=t' }:=I.un (Un.laid k hp (I.hok.fresh hp)) (I.hok.laid k hp new)
theorem Inv.write {x e:Addr} {o:HO} {t':Nat} (I:Inv X pins σ H s) (mu:Mut (H x)) (he:e=x\/H e=some (.own x)) (k:∀ b u,b≠e->s.heap.get? b=some u->h'.get? b=some u) (heo:∃ u,h'.get? e=some u)
  (new:ObjOk X.prog X.w (upd H x o) h' x o):Inv X pins σ (upd H x o) { s with heap:=h',toks:=t' }:=I.un (Un.write mu he k heo) (I.hok.write mu he k heo new)
theorem Inv.weak {σ':List (Option V)} (I:Inv X pins σ H s) (hl:σ'.length=σ.length) (w:∀ (i:Nat) v,σ'[i]?=some (some v)->σ[i]?=some (some v)):Inv X pins σ' H s :=
 ⟨I.ok,I.os,I.bare,I.base,let ⟨m,hn,hl'⟩:=I.loc;⟨m,hn,fun i x v e1 e2 e3=>hl' i x v e1 (w i v e2) e3⟩,I.cell,I.free,I.freeC,I.pin,I.hok,hl.trans I.len⟩
theorem Inv.pins_of {pins':List (Addr × Obj)} (I:Inv X pins σ H s) (h:∀ p∈pins',s.heap.get? p.1=some p.2/\H p.1=none/\p.1≠X.env.locals/\p.1 ∉ X.fs/\∀ v,p.2.data≠.cell v):Inv X pins' σ H s :=
 ⟨I.ok,I.os,I.bare,I.base,I.loc,I.cell,I.free,I.freeC,fun p hp=>(List.mem_append.mp hp).elim (fun z=>I.pin p (List.mem_append_left _ z)) (h p),I.hok,I.len⟩
theorem nodup_ix {N:List Str} (hN:N.Nodup) {i j:Nat} {x:Str} (a:N[i]?=some x) (b:N[j]?=some x):i=j:=by
 obtain ⟨h1,e1⟩:=List.getElem?_eq_some_iff.mp a
 obtain ⟨h2,e2⟩:=List.getElem?_eq_some_iff.mp b
 exact (List.getElem_inj hN).mp (e1.trans e2.symm)
theorem store_ok2 {M:Model} {A:Around} {E:Value->Shared->Prop} {i:Nat} {x:Str} {v:V} {u:Value} {Q:Unit->Shared->Prop} (I:Inv X pins σ H s) (hN:X.N.Nodup) (hi:X.N[i]?=some x) (hx:Loc X.env.scope x) (r:RelV v u)
  (h:∀ s',Inv X pins (σ.set i (some v)) H s'->(∃ a,Heap.SameBut a s.heap s'.heap/\(a=X.env.locals\/X.env.cells.lookup x=some a))->Q () s') (hf:X.fn x=true\/X.env.scope.names.lookup x=some .local:=by first | exact .inl rfl | exact .inr rfl | assumption):wpAny M A (storeName X.env x u) Q E s:=by
 obtain ⟨m,hn,hl⟩:=id I.loc
 have hcls:(X.env.scope.kind == .class || (X.env.scope.kind == .module && X.env.locals != X.env.globals))=false:=by rw [I.ok.kind];rfl
 have hiσ:i < σ.length:=by rw [I.len];exact (List.getElem?_eq_some_iff.mp hi).1
 have cne:=I.cne
 have tracked:∀ {a:Addr} {h':Heap},(∃ o,s.heap.get? a=some o/\H a=none)->Heap.SameBut a s.heap h'->HOk X.prog X.w H h':=fun {a h'} ha hs b ob e=>by
  obtain ⟨_,_,hfree⟩:=ha
  refine (I.hok b ob e).stay (fun c w' hc q=>(hs.2 c ?_).trans q) (fun _ q=>q) fun _ _ q=>q
  rintro rfl
  rcases hc with rfl | hc
  ·rw [hfree] at e;cases e
  ·rw [hfree] at hc;cases hc
 rcases hx with hk | hk
 ·refine wpAny_storeName_local hk hn (fun h' hn' hs=>?_) hcls
  obtain ⟨oL,_,_,hoL,_⟩:=id hn
  refine h _ ⟨I.ok,I.os,I.bare,⟨fun b o e n hb hx=>?_,fun b o e n hb hx=>?_,I.base.free,fun b o e hx=>?_,I.base.tups,I.base.frzs,I.base.tbls⟩,⟨_,hn',fun j y v' e1 e2 e3=>?_⟩,fun y c e=>?_,I.free,I.freeC,fun p hp=>?_,tracked ⟨oL,hoL,I.free⟩ hs,by simpa using I.len⟩ ⟨_,hs,.inl rfl⟩
  ·exact (hs.2 b (Nat.ne_of_lt (Nat.lt_of_lt_of_le (Heap.lt_size e) I.ok.above))).trans (I.base.keep b o e n hb hx)
  ·obtain ⟨sl,e1⟩:=I.base.slot b o e n hb hx
   exact ⟨sl,(hs.2 b (Nat.ne_of_lt (Nat.lt_of_lt_of_le (Heap.lt_size e) I.ok.above))).trans e1⟩
  ·obtain ⟨o',e1⟩:=I.base.there b o e hx
   exact ⟨o',(hs.2 b (Nat.ne_of_lt (Nat.lt_of_lt_of_le (Heap.lt_size e) I.ok.above))).trans e1⟩
  ·by_cases hj:j=i
   ·subst hj
    rw [hi] at e1;cases e1
    rw [List.getElem?_set_self hiσ] at e2
    cases e2
    exact ⟨u,r,.inl ⟨hk,by simp⟩⟩
   ·rw [List.getElem?_set_ne (Ne.symm hj)] at e2
    obtain ⟨u',r',q⟩:=hl j y v' e1 e2 e3
    refine ⟨u',r',?_⟩
    rcases q with ⟨k,e⟩ | ⟨k,c,e,z⟩
    ·refine .inl ⟨k,?_⟩
     have:y≠x:=fun e=>hj (nodup_ix hN e1 (e ▸ hi))
     simp [this,e]
    ·exact .inr ⟨k,c,e,z.sameBut hs (cne y c e)⟩
  ·obtain ⟨w',z⟩:=I.cell y c e
   exact ⟨w',z.sameBut hs (cne y c e)⟩
  ·obtain ⟨e,n,ne,nf,d⟩:=I.pin p hp
   exact ⟨(hs.2 p.1 ne).trans e,n,ne,nf,d⟩
 ·have hfn:X.fn x=true:=by
   rcases hf with z | z
   ·exact z
   ·rw [z] at hk;cases hk
  obtain ⟨c,hc⟩:=I.ok.has x (.inl hk)
  obtain ⟨w',z⟩:=I.cell x c hc
  refine wpAny_storeName_cell I.ok.kind hk hc z (fun h' hc' hs=>?_)
  obtain ⟨oc,hoc,hocd⟩:=id z
  refine h { s with heap:=h' } ⟨I.ok,I.os,I.bare,⟨fun b o e n hb hx=>?_,fun b o e n hb hx=>?_,I.base.free,fun b o e hx=>?_,I.base.tups,I.base.frzs,I.base.tbls⟩,⟨m,hn.sameBut hs (Ne.symm (cne x c hc)),fun j y v' e1 e2 e3=>?_⟩,fun y c' e=>?_,I.free,I.freeC,fun p hp=>?_,tracked ⟨oc,hoc,I.freeC x c hc⟩ hs,by simpa using I.len⟩ ⟨c,hs,.inr hc⟩
  ·exact (hs.2 b (Nat.ne_of_lt (Nat.lt_of_lt_of_le (Heap.lt_size e) (I.ok.cab x c hfn hc)))).trans (I.base.keep b o e n hb hx)
  ·obtain ⟨sl,e1⟩:=I.base.slot b o e n hb hx
   exact ⟨sl,(hs.2 b (Nat.ne_of_lt (Nat.lt_of_lt_of_le (Heap.lt_size e) (I.ok.cab x c hfn hc)))).trans e1⟩
  ·obtain ⟨o',e1⟩:=I.base.there b o e hx
   exact ⟨o',(hs.2 b (Nat.ne_of_lt (Nat.lt_of_lt_of_le (Heap.lt_size e) (I.ok.cab x c hfn hc)))).trans e1⟩
  ·by_cases hj:j=i
   ·subst hj
    rw [hi] at e1;cases e1
    rw [List.getElem?_set_self hiσ] at e2
    cases e2
    exact ⟨u,r,.inr ⟨.inl hk,c,hc,hc'⟩⟩
   ·rw [List.getElem?_set_ne (Ne.symm hj)] at e2
    obtain ⟨u',r',q⟩:=hl j y v' e1 e2 e3
    refine ⟨u',r',?_⟩
    rcases q with q | ⟨k,c',e,z'⟩
    ·exact .inl q
    ·refine .inr ⟨k,c',e,z'.sameBut hs ?_⟩
     rintro rfl
     exact hj (nodup_ix hN e1 (I.ok.inj _ _ _ e hc ▸ hi))
  ·by_cases hcc:c'=c
   ·subst hcc;exact ⟨_,hc'⟩
   ·obtain ⟨w2,z2⟩:=I.cell y c' e
    exact ⟨w2,z2.sameBut hs hcc⟩
  ·obtain ⟨e,n,ne,nf,d⟩:=I.pin p hp
   refine ⟨(hs.2 p.1 ?_).trans e,n,ne,nf,d⟩
   intro q
   rw [q,hoc] at e
   have q':oc=p.2:=Option.some.inj e
   exact d w' (by rw [<- q'];exact hocd)
theorem store_ok {M:Model} {A:Around} {E:Value->Shared->Prop} {i:Nat} {x:Str} {v:V} {u:Value} {Q:Unit->Shared->Prop} (I:Inv X pins σ H s) (hN:X.N.Nodup) (hi:X.N[i]?=some x) (hx:Loc X.env.scope x) (r:RelV v u)
  (h:∀ s',Inv X pins (σ.set i (some v)) H s'->Q () s') (hf:X.fn x=true\/X.env.scope.names.lookup x=some .local:=by first | exact .inl rfl | exact .inr rfl | assumption):wpAny M A (storeName X.env x u) Q E s :=
 store_ok2 I hN hi hx r (fun s' I' _=>h s' I') hf
theorem Inv.call' {s':Shared} {ch:List Addr} (I:Inv X pins σ H s) (ho:s'.os=s.os) (u:Un (frs X.stack) ch H H' s.heap s'.heap) (hok:HOk X.prog X.w H' s'.heap) (hg:AllBare s'.gens)
  (hch:∀ b∈ch,(b∈X.ex\/X.s₀.heap.objs.size<=b)/\b≠X.env.locals/\(∀ x c,X.env.cells.lookup x=some c->c≠b)/\∀ p∈X.pn++pins,p.1≠b):Inv X pins σ H' s':=by
 obtain ⟨h',g',d',t',o'⟩:=s'
 have e:o'=s.os:=ho
 subst e
 exact I.call (g':=g') (t':=t') (d':=d') u hok hg hch
end
abbrev XK:=Value->Option Addr->Hp->Prop
abbrev St:=List (Option V)
abbrev VK:=V->Hp->Prop
abbrev TE:=St->Hp->VK->Prop
abbrev TT:=St->Hp->(Bool->Hp->Prop)->Prop
abbrev TA:=St->Hp->(List V->Hp->Prop)->Prop
structure Ends where
 nx:St->Hp->Prop
 rt:VK
 bk:St->Hp->Prop:=fun _ _=>False
 ct:St->Hp->Prop:=fun _ _=>False
abbrev TS:=Ends->St->Hp->Prop
def EP (X:Cx) (pins:List (Addr × Obj)) (σ:St) (Q:VK) (u:Value) (s':Shared):Prop:=∃ v H',Inv X pins σ H' s'/\RelV v u/\Q v H'
def TP (X:Cx) (pins:List (Addr × Obj)) (σ:St) (Q:Bool->Hp->Prop) (b:Bool) (s':Shared):Prop:=∃ H',Inv X pins σ H' s'/\Q b H'
def AP (X:Cx) (pins:List (Addr × Obj)) (σ:St) (Q:List V->Hp->Prop) (us:List Value) (s':Shared):Prop:=∃ vs H',Inv X pins σ H' s'/\Vals vs us/\Q vs H'
def SP (X:Cx) (pins:List (Addr × Obj)) (D:Ends) (f:Flow) (s':Shared):Prop :=
 match f with
 | .next=>∃ σ' H',Inv X pins σ' H' s'/\D.nx σ' H'
 | .brk=>∃ σ' H',Inv X pins σ' H' s'/\D.bk σ' H'
 | .cont=>∃ σ' H',Inv X pins σ' H' s'/\D.ct σ' H'
 | .ret u=>∃ v σ' H',Inv X pins σ' H' s'/\RelV v u/\D.rt v H'
def PE (X:Cx) (e:Expr) (t:TE):Prop :=
 ∀ (pins:List (Addr × Obj)) (s:Shared) (σ:St) (H:Hp) (Q:VK),Inv X pins σ H s->t σ H Q->wpAny (model X.prog X.w) X.A (eval e X.env) (EP X pins σ Q) X.xe s
def PT (X:Cx) (e:Expr) (t:TT):Prop :=
 ∀ (pins:List (Addr × Obj)) (s:Shared) (σ:St) (H:Hp) (Q:Bool->Hp->Prop),Inv X pins σ H s->t σ H Q->wpAny (model X.prog X.w) X.A (isTrue e X.env (eval e X.env)) (TP X pins σ Q) X.xe s
def PW (X:Cx) (e:Expr) (t:TT):Prop :=
 ∀ (whole:Sem Value) (pins:List (Addr × Obj)) (s:Shared) (σ:St) (H:Hp) (Q:Bool->Hp->Prop),Inv X pins σ H s->t σ H Q->wpAny (model X.prog X.w) X.A (isTrue e X.env whole) (TP X pins σ Q) X.xe s
theorem PW.pt {X:Cx} {e:Expr} {t:TT} (h:PW X e t):PT X e t:=h _
def PA (X:Cx) (es:List Expr) (t:TA):Prop :=
 ∀ (pos:Pos) (pins:List (Addr × Obj)) (s:Shared) (σ:St) (H:Hp) (Q:List V->Hp->Prop),Inv X pins σ H s->t σ H Q->wpAny (model X.prog X.w) X.A (spliced (backTo pos (starEach es X.env))) (AP X pins σ Q) X.xe s
def PS (X:Cx) (st:Stmt) (t:TS):Prop :=
 ∀ (pins:List (Addr × Obj)) (s:Shared) (σ:St) (H:Hp) (D:Ends),Inv X pins σ H s->t D σ H->wpAny (model X.prog X.w) X.A (exec st X.env) (SP X pins D) X.xe s
def PSs (X:Cx) (st:List Stmt) (t:TS):Prop :=
 ∀ (pins:List (Addr × Obj)) (s:Shared) (σ:St) (H:Hp) (D:Ends),Inv X pins σ H s->t D σ H->wpAny (model X.prog X.w) X.A (execs st X.env) (SP X pins D) X.xe s
theorem thn {α:Type} {t:Sem α} {Q Q':α->Shared->Prop} {M:Model} {A:Around} {E:Value->Shared->Prop} {s:Shared} (h:wpAny M A t Q E s) (hQ:∀ a s,Q a s->Q' a s):wpAny M A t Q' E s:=wpAny_mono h hQ fun _ _ x=>x
section
variable {X:Cx}
def tVar (i:Nat):TE:=fun σ H Q=>∃ v,σ[i]?=some (some v)/\Q v H
def tC (v:V):TE:=fun _ H Q=>Q v H
theorem pe_var {i:Nat} {x:Str} {pos:Pos} (hN:X.N[i]?=some x) (hv:Vis X.env.scope x) (hd:(x == ("__debug__" : Str))=false:=by decide) (hcd:(x == ("__classdict__" : Str))=false:=by decide):PE X (.Name x pos) (tVar i):=by
 intro pins s σ H Q I h
 obtain ⟨v,e,h⟩:=h
 obtain ⟨m,hn,hl⟩:=I.loc
 obtain ⟨u,r,l⟩:=hl i x v hN e hv
 have fin:EP X pins σ Q u s:=⟨v,H,I,r,h⟩
 rcases l with ⟨hk,hm⟩ | ⟨hk,c,hc,hcell⟩
 ·exact wpAny_Name (wpAny_loadName_local I.ok.kind hk hn hm fin) hd
 ·rcases hk with hk | hk
  ·exact wpAny_Name (wpAny_loadName_cell I.ok.kind hk hc hcell fin) hd
  ·exact wpAny_Name (wpAny_loadName_free I.ok.kind hk hc hcell fin hcd) hd
theorem pe_int {i j pos}:PE X (.Constant (.int i) j pos) (tC (.int i)):=fun _ _ _ H _ I h=>wpAny_Constant_int ⟨.int i,H,I.tok _,⟨_,rfl⟩,h⟩
theorem pe_bl {b j pos}:PE X (.Constant (.bool b) j pos) (tC (.bl b)):=fun _ _ _ H _ I h=>Constant_bool ⟨.bl b,H,I,rfl,h⟩
theorem pe_non {j pos}:PE X (.Constant .none j pos) (tC .non):=fun _ _ _ H _ I h=>Constant_none ⟨.non,H,I,rfl,h⟩
theorem pe_str {x j pos}:PE X (.Constant (.str x) j pos) (tC (.str x)):=fun _ _ _ H _ I h=>Calls.Constant_str ⟨.str x,H,I.tok _,⟨_,rfl⟩,h⟩
def Gl (X:Cx) (x:Str):Prop:=X.env.kindOf x=some .globalImplicit
theorem ld_glob {E:Value->Shared->Prop} {pins:List (Addr × Obj)} {s:Shared} {σ:St} {H:Hp} {x:Str} {u:Value} {pos:Pos} {Q:Value->Shared->Prop} (I:Inv X pins σ H s) (hg:Gl X x) (hm:X.mg x=some u) (h:Q u s)
  (hd:(x == ("__debug__" : Str))=false:=by decide):wpAny (model X.prog X.w) X.A (eval (.Name x pos) X.env) Q E s :=
 Calls.Name_function_global I.ok.kind hg (Calls.loadGlobal_global (by rw [I.ok.glob];exact I.mod.glob.keeps I.bk) hm h) hd
theorem ld_blt {E:Value->Shared->Prop} {pins:List (Addr × Obj)} {s:Shared} {σ:St} {H:Hp} {x:Str} {u:Value} {pos:Pos} {Q:Value->Shared->Prop} (I:Inv X pins σ H s) (hg:Gl X x) (hm:X.mg x=none) (hv:bootBuiltins x=some u) (h:Q u s)
  (hn:x≠"__name__" := by decide) (hd:(x == ("__debug__" : Str))=false:=by decide):wpAny (model X.prog X.w) X.A (eval (.Name x pos) X.env) Q E s:=by
 obtain ⟨mb,h1,h2⟩:=I.mod.blt
 exact Calls.Name_function_global I.ok.kind hg (Calls.loadGlobal_builtin (by rw [I.ok.glob];exact I.mod.glob.keeps I.bk) hm (by rw [I.ok.blt];exact h1.keeps I.bk) ((h2 x hn).trans hv) h) hd
theorem pe_glob {x:Str} {v:V} {u:Value} {pos:Pos} (hg:Gl X x) (hm:X.mg x=some u) (r:RelV v u) (hd:(x == ("__debug__" : Str))=false:=by decide):PE X (.Name x pos) (tC v) :=
 fun _ _ _ H _ I h=>ld_glob I hg hm ⟨v,H,I,r,h⟩ hd
theorem pe_bltn {x:Str} {v:V} {u:Value} {pos:Pos} (hg:Gl X x) (hm:X.mg x=none) (hv:bootBuiltins x=some u) (r:RelV v u) (hn:x≠"__name__" := by decide) (hd:(x == ("__debug__" : Str))=false:=by decide):PE X (.Name x pos) (tC v) :=
 fun _ _ _ H _ I h=>ld_blt I hg hm hv ⟨v,H,I,r,h⟩ hn hd
variable {a b:Expr} {ta tb:TE} {pos:Pos}
def PC (X:Cx) (op:CmpOp) (a b:Expr) (t:TE):Prop :=
 ∀ (pins:List (Addr × Obj)) (s:Shared) (σ:St) (H:Hp) (Q:VK),Inv X pins σ H s->t σ H Q ->
  wpAny (model X.prog X.w) X.A (eval a X.env) (fun v s₁=>wpAny (model X.prog X.w) X.A (eval b X.env) (fun u s₂=>wpAny (model X.prog X.w) X.A (compareOp op v u) (EP X pins σ Q) X.xe s₂) X.xe s₁) X.xe s
theorem nobehind (b:Expr) {op:CmpOp} (h:op≠.In) (h2:op≠.NotIn):behindInMarks op b=false:=by
 have e1:(op == CmpOp.In)=false:=by cases op<;>first | rfl | exact absurd rfl h
 have e2:(op == CmpOp.NotIn)=false:=by cases op<;>first | rfl | exact absurd rfl h2
 cases b<;>simp [behindInMarks,e1,e2]
def tIsN (ta:TE):TE:=fun σ H Q=>ta σ H fun x H1=>Q (.bl (decide (x=.non))) H1
theorem RelV.none_iff {x:V} {v:Value} (r:RelV x v):(v == Value.none)=decide (x=.non):=by
 cases x with
 | non=>cases r;rfl
 | bl _=>cases r;rfl
 | int _=>obtain ⟨t,rfl⟩:=r;rfl
 | str _=>obtain ⟨t,rfl⟩:=r;rfl
 | byt _=>obtain ⟨t,rfl⟩:=r;rfl
 | flt _=>obtain ⟨t,rfl⟩:=r;rfl
 | ref _=>cases r;rfl
 | ty _=>cases r;rfl
theorem pc_isN {j pos'} (ha:PE X a ta):PC X .Is a (.Constant .none j pos') (tIsN ta):=by
 intro pins s σ H Q I h
 refine thn (ha pins s σ H _ I h) fun v s1 ⟨x,H1,I1,r1,q1⟩=>?_
 exact Constant_none (is_none_gen ⟨.bl _,H1,I1,by rw [r1.none_iff];rfl,q1⟩)
def tB (t:TE):TT:=fun σ H Q=>t σ H fun x H1=>∃ c,x=.bl c/\Q c H1
theorem pt_cmp {op:CmpOp} {t:TE} (h:PC X op a b t) (h1:behindInMarks op b=false:=by first | exact nobehind _ (by decide) (by decide) | rfl):PT X (.Compare a [op] [b] pos) (tB t):=by
 intro pins s σ H Q I hw
 refine wpAny_isTrue_Compare1 (thn (h pins s σ H _ I hw) fun v s1 h1=>thn h1 fun u s2 h2=>thn h2 fun c s3 ⟨x,H1,I1,r1,q1⟩=>?_) h1
 obtain ⟨d,rfl,q⟩:=q1
 cases r1
 exact wpAny_truthy_bool ⟨H1,I1,q⟩
theorem pt_val {e:Expr} {t:TE} (h:PE X e t) (he:∀ whole,isTrue e X.env whole=(do let v <- whole;standAt e.pos;holding [v] (truthy v)):=by intro _;rfl):PT X e (tB t):=by
 intro pins s σ H Q I hw
 refine isTrue_plain (thn (h pins s σ H _ I hw) fun v s1 ⟨x,H1,I1,r1,q1⟩=>?_) (he _)
 obtain ⟨d,rfl,q⟩:=q1
 cases r1
 exact wpAny_truthy_bool ⟨H1,I1,q⟩
variable {tA tB':TT} {rest:List Expr}
def tAnd (t u:TT):TT:=fun σ H Q=>t σ H fun c H1=>if c=true then u σ H1 Q else Q false H1
def tOr (t u:TT):TT:=fun σ H Q=>t σ H fun c H1=>if c=true then Q true H1 else u σ H1 Q
def tNot (t:TT):TT:=fun σ H Q=>t σ H fun c H1=>Q (!c) H1
theorem pw_and1 (ha:PT X a tA):PW X (.BoolOp .And [a] pos) tA:=by
 intro wh pins s σ H Q I h
 refine isTrue_and (thn (ha pins s σ H Q I h) fun c s1 e=>?_)
 cases c with
 | true=>exact isTrue_and_nil e
 | false=>exact e
theorem pw_or1 (ha:PT X a tA):PW X (.BoolOp .Or [a] pos) tA:=by
 intro wh pins s σ H Q I h
 refine isTrue_or (thn (ha pins s σ H Q I h) fun c s1 e=>?_)
 cases c with
 | false=>exact isTrue_or_nil e
 | true=>exact e
theorem pw_and (ha:PT X a tA) (hb:PW X (.BoolOp .And (b::rest) pos) tB'):PW X (.BoolOp .And (a::b::rest) pos) (tAnd tA tB'):=by
 intro wh pins s σ H Q I h
 refine isTrue_and (thn (ha pins s σ H _ I h) fun c s1 ⟨H1,I1,q1⟩=>?_)
 cases c with
 | true=>exact hb wh pins s1 σ H1 Q I1 q1
 | false=>exact ⟨H1,I1,q1⟩
theorem pw_or (ha:PT X a tA) (hb:PW X (.BoolOp .Or (b::rest) pos) tB'):PW X (.BoolOp .Or (a::b::rest) pos) (tOr tA tB'):=by
 intro wh pins s σ H Q I h
 refine isTrue_or (thn (ha pins s σ H _ I h) fun c s1 ⟨H1,I1,q1⟩=>?_)
 cases c with
 | true=>exact ⟨H1,I1,q1⟩
 | false=>exact hb wh pins s1 σ H1 Q I1 q1
theorem pt_not (ha:PT X a tA):PT X (.UnaryOp .Not a pos) (tNot tA):=by
 intro pins s σ H Q I h
 exact isTrue_not (ha pins s σ H (fun c H1=>Q (!c) H1) I h)
def tAndV (ta tb:TE):TE:=fun σ H Q=>ta σ H fun x H1=>∃ c,x=.bl c/\if c=true then tb σ H1 Q else Q (.bl false) H1
def tNotV (ta:TE):TE:=fun σ H Q=>ta σ H fun x H1=>∃ c,x=.bl c/\Q (.bl (!c)) H1
theorem pe_one {op} {t:TE} (h:PE X a t):PE X (.BoolOp op [a] pos) t:=fun pins s σ H Q I hw=>BoolOp_one (h pins s σ H Q I hw)
theorem pe_and (ha:PE X a ta) (hb:PE X (.BoolOp .And (b::rest) pos) tb):PE X (.BoolOp .And (a::b::rest) pos) (tAndV ta tb):=by
 intro pins s σ H Q I h
 refine BoolOp_and (thn (ha pins s σ H _ I h) fun v s1 ⟨x,H1,I1,r1,q1⟩=>?_)
 obtain ⟨c,rfl,q1⟩:=q1
 cases r1
 refine wpAny_truthy_bool ?_
 cases c with
 | true=>exact hb pins s1 σ H1 Q I1 q1
 | false=>exact ⟨.bl false,H1,I1,rfl,q1⟩
theorem pe_not (ha:PE X a ta):PE X (.UnaryOp .Not a pos) (tNotV ta):=by
 intro pins s σ H Q I h
 refine UnaryOp_ (thn (ha pins s σ H _ I h) fun v s1 ⟨x,H1,I1,r1,q1⟩=>?_)
 obtain ⟨c,rfl,q1⟩:=q1
 cases r1
 exact not_of (wpAny_truthy_bool ⟨.bl (!c),H1,I1,rfl,q1⟩)
def tIf (t:TT) (ta tb:TE):TE:=fun σ H Q=>t σ H fun c H1=>if c=true then ta σ H1 Q else tb σ H1 Q
theorem pe_ifExp {c:Expr} (hc:PT X c tA) (ha:PE X a ta) (hb:PE X b tb):PE X (.IfExp c a b pos) (tIf tA ta tb):=by
 intro pins s σ H Q I h
 refine wpAny_IfExp (thn (hc pins s σ H _ I h) fun d s1 ⟨H1,I1,q1⟩=>?_)
 cases d with
 | true=>exact ha pins s1 σ H1 Q I1 q1
 | false=>exact hb pins s1 σ H1 Q I1 q1
end
def SqL (K:PySem.W.Frag) (H:Hp) (a:Addr) (xs:List V):Prop :=
 Rd H a (.lst xs) \/
  ∃ (o:Obj) (its:Array Value) (n:Nat),K.lookup a=some o/\o.cls=.type "list" /\ o.dict=none/\o.data=.seq its n/\its.size<=sizeLine/\Vals xs its.toList
def SqT (K:PySem.W.Frag) (H:Hp) (a:Addr) (xs:List V):Prop :=
 Rd H a (.tup xs) \/
  ∃ (o:Obj) (its:Array Value) (n:Nat),K.lookup a=some o/\o.cls=.type "tuple" /\ o.data=.seq its n/\its.size<=sizeLine/\Vals xs its.toList
def absV:Value->Option V
 | .none=>some .non
 | .bool b=>some (.bl b)
 | .int i _=>some (.int i)
 | .str x _=>some (.str x)
 | .bytes b _=>some (.byt b)
 | .float b _=>some (.flt b)
 | .ref a=>some (.ref a)
 | .type n=>some (.ty n)
 | _=>none
theorem RelV.abs {x:V} {u:Value} (r:RelV x u):absV u=some x:=by
 cases x with
 | non=>cases r;rfl
 | bl _=>cases r;rfl
 | int _=>obtain ⟨t,rfl⟩:=r;rfl
 | str _=>obtain ⟨t,rfl⟩:=r;rfl
 | byt _=>obtain ⟨t,rfl⟩:=r;rfl
 | flt _=>obtain ⟨t,rfl⟩:=r;rfl
 | ref _=>cases r;rfl
 | ty _=>cases r;rfl
theorem RelV.inj {x y:V} {u:Value} (r:RelV x u) (q:RelV y u):x=y:=Option.some.inj (r.abs.symm.trans q.abs)
theorem Vals.inj:∀ {xs ys:List V} {us:List Value},Vals xs us->Vals ys us->xs=ys
 | _,_,_,.nil,.nil=>rfl
 | _,_,_,.cons r t,.cons r' t'=>by rw [r.inj r',Vals.inj t t']
section
variable {X:Cx} {pins:List (Addr × Obj)} {σ:St} {H:Hp} {s:Shared} {a:Addr} {xs ys:List V}
theorem SqL.of {K:PySem.W.Frag} (h:H a=some (.lst xs)):SqL K H a xs:=.inl (.inl h)
theorem SqT.of {K:PySem.W.Frag} (h:H a=some (.tup xs)):SqT K H a xs:=.inl (.inl h)
theorem Inv.list (I:Inv X pins σ H s) (h:SqL X.K H a xs):∃ its:List Value,Vals xs its/\PlainL s.heap a its.toArray/\xs.length<=sizeLine:=by
 rcases h with h | ⟨o,its,n,hk,hc,hd,hs,hz,r⟩
 ·obtain ⟨z,its,n,r,e⟩:=h.ok I.hok
  exact ⟨its,r,⟨_,n,e,rfl,rfl,rfl⟩,z⟩
 ·refine ⟨its.toList,r,⟨o,n,I.kIn a o hk,hc,hd,by simpa using hs⟩,?_⟩
  have e:=r.length
  simp only [Array.length_toList] at e
  omega
theorem Inv.tuple (I:Inv X pins σ H s) (h:SqT X.K H a xs):∃ its:List Value,Vals xs its/\IsTup s.heap a its.toArray/\xs.length<=sizeLine:=by
 rcases h with h | ⟨o,its,n,hk,hc,hs,hz,r⟩
 ·obtain ⟨z,its,r,p⟩:=h.ok I.hok
  exact ⟨its,r,p,z⟩
 ·refine ⟨its.toList,r,⟨o,I.kIn a o hk,hc,n,by simpa using hs⟩,?_⟩
  have e:=r.length
  simp only [Array.length_toList] at e
  omega
theorem Inv.list_inj (I:Inv X pins σ H s) (h:SqL X.K H a xs) (h':SqL X.K H a ys):xs=ys:=by
 obtain ⟨its,r,⟨o,n,e,_,_,d⟩,_⟩:=I.list h
 obtain ⟨its',r',⟨o',n',e',_,_,d'⟩,_⟩:=I.list h'
 rw [e] at e';cases e'
 rw [d] at d'
 injection d' with d1 _
 have:its=its':=by simpa using congrArg Array.toList d1
 subst this
 exact r.inj r'
end
abbrev Cx.wish (X:Cx) (E:Value->Shared->Prop):Cx:={ X with xe:=E }
abbrev Cx.nox (X:Cx):Cx:=X.wish fun _ _=>False
theorem Cx.Ok.wish {X:Cx} (ok:X.Ok) (E:Value->Shared->Prop):(X.wish E).Ok :=
 ⟨ok.mod,ok.kind,ok.glob,ok.blt,ok.above,ok.inj,ok.has,ok.cab,ok.hd,ok.frames,ok.stk,ok.exf,ok.bs,ok.bsz,ok.noex,ok.exfs,ok.funs,ok.frf⟩
theorem Cx.Ok.unwish {X:Cx} {E:Value->Shared->Prop} (ok:(X.wish E).Ok):X.Ok :=
 ⟨ok.mod,ok.kind,ok.glob,ok.blt,ok.above,ok.inj,ok.has,ok.cab,ok.hd,ok.frames,ok.stk,ok.exf,ok.bs,ok.bsz,ok.noex,ok.exfs,ok.funs,ok.frf⟩
section
variable {X:Cx} {pins:List (Addr × Obj)} {σ:St} {H:Hp} {s:Shared} {E:Value->Shared->Prop}
theorem Inv.wish (I:Inv X pins σ H s) (E:Value->Shared->Prop):Inv (X.wish E) pins σ H s:=⟨I.ok.wish E,I.os,I.bare,I.base,I.loc,I.cell,I.free,I.freeC,I.pin,I.hok,I.len⟩
theorem Inv.unwish (I:Inv (X.wish E) pins σ H s):Inv X pins σ H s:=⟨I.ok.unwish,I.os,I.bare,I.base,I.loc,I.cell,I.free,I.freeC,I.pin,I.hok,I.len⟩
theorem SP.unwish {D:Ends} {f:Flow} {s':Shared} (h:SP (X.wish E) pins D f s'):SP X pins D f s':=by
 cases f with
 | next=>obtain ⟨σ',H',I,q⟩:=h;exact ⟨σ',H',I.unwish,q⟩
 | brk=>obtain ⟨σ',H',I,q⟩:=h;exact ⟨σ',H',I.unwish,q⟩
 | cont=>obtain ⟨σ',H',I,q⟩:=h;exact ⟨σ',H',I.unwish,q⟩
 | ret u=>obtain ⟨v,σ',H',I,r,q⟩:=h;exact ⟨v,σ',H',I.unwish,r,q⟩
theorem PSs.nox {st:List Stmt} {t:TS} (h:PSs X.nox st t):PSs X st t:=fun pins s σ H D I hw =>
 wpAny_mono (h pins s σ H D (I.wish _) hw) (fun _ _ q=>q.unwish) fun _ _ z=>False.elim z
end
section
variable {X:Cx} {st:Stmt} {rest:List Stmt} {t u:TS} {e:Expr} {te:TE} {pos:Pos}
def tNext:TS:=fun D σ H=>D.nx σ H
def tSeq (t u:TS):TS:=fun D σ H=>t { D with nx:=u D } σ H
theorem pss_nil:PSs X [] tNext:=fun _ _ σ H _ I h=>wpAny_execs_nil ⟨σ,H,I,h⟩
theorem pss_cons (h1:PS X st t) (h2:PSs X rest u):PSs X (st::rest) (tSeq t u):=by
 intro pins s σ H D I h
 refine wpAny_execs_cons (thn (h1 pins s σ H { D with nx:=u D } I h) fun f s1 q=>?_)
 cases f with
 | next =>
  obtain ⟨σ',H',I',q⟩:=q
  exact h2 pins s1 σ' H' D I' q
 | ret v=>exact q
 | brk=>exact q
 | cont=>exact q
theorem pss_one (h1:PS X st t):PSs X [st] t:=by
 intro pins s σ H D I h
 refine wpAny_execs_cons (thn (h1 pins s σ H D I h) fun f s1 q=>?_)
 cases f with
 | next=>exact wpAny_execs_nil q
 | ret v=>exact q
 | brk=>exact q
 | cont=>exact q
theorem Inv.quiet {pins:List (Addr × Obj)} {σ:St} {H:Hp} {s:Shared} (I:Inv X pins σ H s):interactive X.env=false:=by simp [interactive,I.ok.kind]
def tDrop (te:TE):TS:=fun D σ H=>te σ H fun _ H1=>D.nx σ H1
theorem ps_expr (he:PE X e te) (hs:swapsWith e none pos.line X.env=pure false:=by rfl):PS X (.Expr e pos) (tDrop te):=by
 intro pins s σ H D I h
 exact wpAny_Expr_any (thn (he pins s σ H _ I h) fun v s1 ⟨x,H1,I1,r1,q1⟩=>⟨σ,H1,I1,q1⟩) I.quiet hs
def tRet (te:TE):TS:=fun D σ H=>te σ H D.rt
theorem ps_ret (he:PE X e te):PS X (.Return (some e) pos) (tRet te):=by
 intro pins s σ H D I h
 exact wpAny_Return_some (thn (he pins s σ H _ I h) fun v s1 ⟨x,H1,I1,r1,q1⟩=>⟨x,σ,H1,I1,r1,q1⟩)
def tIfS (c:TT) (t u:TS):TS:=fun D σ H=>c σ H fun b H1=>if b=true then t D σ H1 else u D σ H1
theorem ps_if {c:Expr} {a b:List Stmt} {tc:TT} (hc:PT X c tc) (ha:PSs X a t) (hb:PSs X b u):PS X (.If c a b pos) (tIfS tc t u):=by
 intro pins s σ H D I h
 refine wpAny_If (thn (hc pins s σ H _ I h) fun d s1 ⟨H1,I1,q1⟩=>?_)
 cases d with
 | true=>exact ha pins s1 σ H1 D I1 q1
 | false=>exact hb pins s1 σ H1 D I1 q1
def tNever:TS:=fun _ _ _=>False
theorem ps_never:PS X st tNever:=fun _ _ _ _ _ _ h=>h.elim
theorem pss_never {sts:List Stmt}:PSs X sts tNever:=fun _ _ _ _ _ _ h=>h.elim
end
abbrev TG:=V->St->Hp->(St->Hp->Prop)->Prop
abbrev TGs:=List V->St->Hp->(St->Hp->Prop)->Prop
def PG (X:Cx) (target:Expr) (t:TG):Prop :=
 ∀ (pins:List (Addr × Obj)) (s:Shared) (σ:St) (H:Hp) (v:V) (u:Value) (Q:St->Hp->Prop),Inv X pins σ H s->RelV v u->t v σ H Q ->
  wpAny (model X.prog X.w) X.A (assign target X.env u) (fun _ s'=>∃ σ' H',Inv X pins σ' H' s'/\Q σ' H') X.xe s
def PGs (X:Cx) (ts:List Expr) (t:TGs):Prop :=
 ∀ (pins:List (Addr × Obj)) (s:Shared) (σ:St) (H:Hp) (vs:List V) (us:List Value) (Q:St->Hp->Prop),Inv X pins σ H s->Vals vs us->t vs σ H Q ->
  wpAny (model X.prog X.w) X.A (assignInOrder ((assignEach ts X.env).map (·.2)) us) (fun _ s'=>∃ σ' H',Inv X pins σ' H' s'/\Q σ' H') X.xe s
abbrev TSet:=V->V->V->Hp->(Hp->Prop)->Prop
def PSet (X:Cx) (t:TSet):Prop :=
 ∀ (pins:List (Addr × Obj)) (s:Shared) (σ:St) (H:Hp) (o i v:V) (ov iv u:Value) (Q:Hp->Prop),Inv X pins σ H s->RelV o ov->RelV i iv->RelV v u->t o i v H Q ->
  wpAny (model X.prog X.w) X.A (setItem ov iv u) (fun _ s'=>∃ H',Inv X pins σ H' s'/\Q H') X.xe s
section
variable {X:Cx} {pos:Pos}
def gName (i:Nat):TG:=fun v σ H Q=>Q (σ.set i (some v)) H
theorem pg_name {i:Nat} {x:Str} (hN:X.N.Nodup) (hi:X.N[i]?=some x) (hx:Loc X.env.scope x) (hf:X.fn x=true\/X.env.scope.names.lookup x=some .local:=by first | exact .inl rfl | exact .inr rfl | assumption):PG X (.Name x pos) (gName i):=by
 intro pins s σ H v u Q I r h
 exact wpAny_assign_Name (store_ok I hN hi hx r (fun s' I'=>⟨_,H,I',h⟩) hf)
def gNil:TGs:=fun vs σ H Q=>vs=[]/\Q σ H
def gCons (t:TG) (u:TGs):TGs:=fun vs σ H Q=>∃ v r,vs=v::r/\t v σ H fun σ' H'=>u r σ' H' Q
theorem pgs_nil:PGs X [] gNil:=by
 intro pins s σ H vs us Q I r h
 obtain ⟨e,h⟩:=h
 subst e
 cases r
 exact assignInOrder_nil ⟨σ,H,I,h⟩
theorem pgs_cons {e:Expr} {es:List Expr} {t:TG} {u:TGs} (h1:PG X e t) (h2:PGs X es u)
  (hs:(assignEach (e::es) X.env).map (·.2)=assign e X.env::(assignEach es X.env).map (·.2):=by rfl):PGs X (e::es) (gCons t u):=by
 intro pins s σ H vs us Q I r h
 obtain ⟨v,vr,e1,h⟩:=h
 subst e1
 cases r with
 | cons r rr =>
  rw [hs]
  refine assignInOrder_cons (thn (h1 pins s σ H _ _ _ I r h) fun _ s1 ⟨σ1,H1,I1,q1⟩=>?_)
  exact h2 pins s1 σ1 H1 _ _ Q I1 rr q1
def gTup (K:PySem.W.Frag) (n:Nat) (t:TGs):TG:=fun v σ H Q=>∃ a xs,v=.ref a/\SqT K H a xs/\xs.length=n/\t xs σ H Q
theorem pg_tup {es:List Expr} {k:Nat} {t:TGs} {n:Nat} (hc:X.calm=true) (h:PGs X es t)
  (hn:(assignEach es X.env).length=n:=by rfl) (hst:(assignEach es X.env).findIdx? (·.1)=none:=by rfl):PG X (.Tuple es k pos) (gTup X.K n t):=by
 intro pins s σ H v u Q I r hw
 obtain ⟨a,xs,e1,hq,hl,hw⟩:=hw
 subst e1
 cases r
 obtain ⟨its,rv,ht,hz⟩:=I.tuple hq
 refine assign_Tuple_tuple (I.ok.hd hc) ht (by simp [hn,<- hl,rv.length]) hst fun h' hx=>?_
 have I1:Inv X pins σ H { s with heap:=h' }:=I.kept (t':=s.toks) fun b o e=>hx b o (Nat.ne_of_lt (Heap.lt_size e)) e
 exact h pins _ σ H xs _ Q I1 (by simpa using rv) hw
def gSub (to ti:TE) (t:TSet):TG:=fun v σ H Q=>to σ H fun o H1=>ti σ H1 fun i H2=>t o i v H2 fun H3=>Q σ H3
theorem pg_sub {o i:Expr} {to ti:TE} {t:TSet} (ho:PE X o to) (hi:PE X i ti) (hs:PSet X t)
  (ha:∀ v,assign (.Subscript o i pos) X.env v=(do
   let ov <- holding [v] (eval o X.env)
   let iv <- holding [v,ov] (eval i X.env)
   standAt pos
   holding [v,ov,iv] (setItem ov iv v)
   release [v,ov,iv] []):=by intro _;rfl):PG X (.Subscript o i pos) (gSub to ti t):=by
 intro pins s σ H v u Q I r h
 rw [ha]
 refine wpAny_bind (wpAny_holding (thn (ho pins s σ H _ I h) fun ov s1 ⟨x,H1,I1,r1,q1⟩=>?_))
 refine wpAny_bind (wpAny_holding (thn (hi pins s1 σ H1 _ I1 q1) fun iv s2 ⟨y,H2,I2,r2,q2⟩=>?_))
 refine wpAny_bind (wpAny_standAt (wpAny_bind (wpAny_holding (thn (hs pins s2 σ H2 x y v ov iv u _ I2 r1 r2 r q2) fun _ s3 ⟨H3,I3,q3⟩=>?_))))
 exact wpAny_release ⟨σ,H3,I3,q3⟩
def tAsg (te:TE) (g:TG):TS:=fun D σ H=>te σ H fun x H1=>g x σ H1 D.nx
theorem ps_asg {tg e:Expr} {te:TE} {g:TG} (he:PE X e te) (hg:PG X tg g) (hs:swapsWithSole [tg] e pos.line X.env=pure false:=by rfl) (hw:swappedStores [tg] e X.env=pure none:=by rfl)
  (h1:(assignEach [tg] X.env).map (·.2)=[assign tg X.env]:=by rfl):PS X (.Assign [tg] e pos) (tAsg te g):=by
 intro pins s σ H D I h
 refine wpAny_Assign_stores (thn (he pins s σ H _ I h) fun v s1 ⟨x,H1,I1,r1,q1⟩=>?_) hs hw
 rw [h1]
 exact thn (hg pins s1 σ H1 x v _ I1 r1 q1) fun _ s2 q=>q
theorem ps_set {i:Nat} {x:Str} {e:Expr} {te:TE} {pos':Pos} (hN:X.N.Nodup) (hi:X.N[i]?=some x) (hx:Loc X.env.scope x) (he:PE X e te) (hs:swapsWith e (some (.Name x pos')) pos.line X.env=pure false:=by rfl) (hf:X.fn x=true\/X.env.scope.names.lookup x=some .local:=by first | exact .inl rfl | exact .inr rfl | assumption) :
  PS X (.Assign [.Name x pos'] e pos) (tAsg te (gName i)):=by
 intro pins s σ H D I h
 refine wpAny_Assign_Name (thn (he pins s σ H _ I h) fun v s1 ⟨y,H1,I1,r1,q1⟩=>?_) hs
 exact store_ok I1 hN hi hx r1 (fun s2 I2=>⟨_,H1,I2,q1⟩) hf
def tPar (i j:Nat) (ta:TA):TS:=fun D σ H=>ta σ H fun vs H1=>∃ v w,vs=[v,w]/\D.nx ((σ.set i (some v)).set j (some w)) H1
theorem ps_par {i j:Nat} {x y:Str} {a b:Expr} {ta:TA} {px py pt:Pos} {kt k2 pt2} (hc:X.calm=true) (hN:X.N.Nodup) (hi:X.N[i]?=some x) (hj:X.N[j]?=some y) (hij:i≠j)
  (hx:X.env.scope.names.lookup x=some .local) (hy:X.env.scope.names.lookup y=some .local) (ha:PA X [a,b] ta)
  (hw:swappedStores [.Tuple [.Name x px,.Name y py] kt pt] (.Tuple [a,b] k2 pt2) X.env=pure (some [x,y]))
  (hs:swapsWithSole [.Tuple [.Name x px,.Name y py] kt pt] (.Tuple [a,b] k2 pt2) pos.line X.env=pure false:=by rfl) :
  PS X (.Assign [.Tuple [.Name x px,.Name y py] kt pt] (.Tuple [a,b] k2 pt2) pos) (tPar i j ta):=by
 intro pins s σ H D I h
 rw [exec_Assign_arm]
 refine wpAny_bind (wpAny_standAt ?_)
 rw [hs]
 refine wpAny_bind (wpAny_pure ?_)
 rw [if_neg (by decide)]
 refine wpAny_bind (Tuple_ (thn (ha _ pins s σ H _ I h) fun us s1 ⟨vs,H1,I1,r1,q1⟩=>?_))
 obtain ⟨v,w,e1,q1⟩:=q1
 subst e1
 obtain ⟨u1,u2,rfl,rv,rw'⟩:∃ u1 u2,us=[u1,u2]/\RelV v u1/\RelV w u2:=by
  cases r1 with
  | cons p q =>
   cases q with
   | cons p' q' =>
    cases q'
    exact ⟨_,_,rfl,p,p'⟩
 refine wpAny_newObj_type ?_ (by show 2<=sizeLine;decide)
 have I2:Inv X pins σ H1 { s1 with heap:=s1.heap.push { cls:=.type "tuple",data:=.seq [u1,u2].toArray } }:=I1.kept (t':=s1.toks) fun b o e=>Heap.get?_push_of_some _ e
 rw [hw]
 refine wpAny_bind (wpAny_pure ?_)
 show wpAny (model X.prog X.w) X.A (do rule "assign.swapped-stores";let items <- unpackItems (.ref s1.heap.objs.size) 2 none;assignInOrder [fun v=>bindName X.env y v,fun v=>bindName X.env x v] items.reverse;pure Flow.next) _ _ _
 refine wpAny_bind (wpAny_rule (wpAny_bind (unpackItems_tuple (items:=#[u1,u2]) (I.ok.hd hc) (IsTup.new s1.heap _) fun h' hx'=>?_)))
 have I3:=I2.kept (h':=h') (t':=s1.toks) fun b o e=>hx' b o (Nat.ne_of_lt (Heap.lt_size e)) e
 show wpAny _ _ (assignInOrder [fun v=>bindName X.env y v,fun v=>bindName X.env x v] [u2,u1] >>= fun _=>pure Flow.next) _ _ _
 refine wpAny_bind (assignInOrder_cons (wpAny_bindName (store_ok I3 hN hj (.inl hy) rw' (fun s2 I4=>?_) (.inr hy))))
 refine assignInOrder_cons (wpAny_bindName (store_ok I4 hN hi (.inl hx) rv (fun s3 I5=>assignInOrder_nil (wpAny_pure ?_)) (.inr hx)))
 rw [List.set_comm _ _ (Ne.symm hij)] at I5
 exact ⟨_,H1,I5,q1⟩
end
structure It where
 go:Nat->Hp->Prop
 yld:Nat->Hp->V->Hp->Prop
 stop:Nat->Hp->Prop
def FpOk (X:Cx) (pins:List (Addr × Obj)) (H:Hp) (b:Addr):Prop :=
 H b=none/\b≠X.env.locals/\b ∉ X.fs/\(b∈X.ex\/X.s₀.heap.objs.size<=b)/\(∀ x c,X.env.cells.lookup x=some c->c≠b)/\∀ p∈X.pn++pins,p.1≠b
theorem Inv.fpOk {X:Cx} {pins:List (Addr × Obj)} {σ:St} {H H':Hp} {s:Shared} {b:Addr} (I:Inv X pins σ H s) (hb:s.heap.objs.size<=b) (hn:H' b=none):FpOk X pins H' b:=by
 refine ⟨hn,Nat.ne_of_gt (Nat.lt_of_lt_of_le I.lt hb),I.nofs hb,.inr (Nat.le_trans I.sz hb),fun x c e z=>?_,fun p hp z=>?_⟩
 ·obtain ⟨v,q⟩:=I.cell x c e
  exact absurd (Nat.lt_of_lt_of_le q.lt (by rw [z];exact hb)) (Nat.lt_irrefl _)
 ·exact absurd (Nat.lt_of_lt_of_le (Heap.lt_size (I.pin p hp).1) (by rw [z];exact hb)) (Nat.lt_irrefl _)
structure Turn (P:Program) (w:World) (K:PySem.W.Frag) (tg:Expr) (J:It) (fp:List Addr) (it:Addr) (tn:Nat->Heap->Prop):Prop where
 mem:it∈fp
 obj:∀ i h,tn i h->∀ b∈fp,∃ o,h.get? b=some o/\∀ v,o.data≠.cell v
 keep:∀ i h h',tn i h->(∀ b∈fp,∀ o,h.get? b=some o->h'.get? b=some o)->tn i h'
 item:∀ (X:Cx),X.prog=P->X.w=w->X.K=K->X.calm=true->∀ (i:Nat) (pins:List (Addr × Obj)) (s:Shared) (σ:St) (H:Hp) (E:Value->Shared->Prop),Inv X pins σ H s->(∀ b∈fp,FpOk X pins H b)->tn i s.heap->J.go i H ->
  wpAny (model P w) X.A (pyNext (.ref it)) (fun r s1=>∃ u,r=some u /\
   wpAny (model P w) X.A (letOwnedTupleGo tg (.ref it) u) (fun _ s2=>∃ x H',Inv X pins σ H' s2/\RelV x u/\J.yld i H x H'/\tn (i+1) s2.heap/\∀ b∈fp,H' b=none) E s1) E s
 done:∀ (X:Cx),X.prog=P->X.w=w->X.K=K->X.calm=true->∀ (i:Nat) (pins:List (Addr × Obj)) (s:Shared) (σ:St) (H:Hp) (E:Value->Shared->Prop),Inv X pins σ H s->(∀ b∈fp,FpOk X pins H b)->tn i s.heap->J.stop i H ->
  wpAny (model P w) X.A (pyNext (.ref it)) (fun r s1=>r=none/\Inv X pins σ H s1) E s
 self:∀ (A:Around) (i:Nat) (s:Shared) (Q:Value->Shared->Prop) (E:Value->Shared->Prop),tn i s.heap->Q (.ref it) s->wpAny (model P w) A (pyIter (.ref it)) Q E s
abbrev TI:=St->Hp->(It->Hp->Prop)->Prop
def PIE (X:Cx) (pins:List (Addr × Obj)) (σ:St) (tg:Expr) (R:It->Hp->Prop) (itv:Value) (s2:Shared):Prop :=
 ∃ (it:Addr) (fp:List Addr) (tn:Nat->Heap->Prop) (J:It) (H':Hp),itv=.ref it/\Inv X pins σ H' s2/\Turn X.prog X.w X.K tg J fp it tn/\tn 0 s2.heap/\(∀ b∈fp,FpOk X pins H' b)/\R J H'
def PI (X:Cx) (tg iter:Expr) (wi:TI):Prop :=
 ∀ (pins:List (Addr × Obj)) (s:Shared) (σ:St) (H:Hp) (R:It->Hp->Prop),Inv X pins σ H s->wi σ H R ->
  wpAny (model X.prog X.w) X.A (eval iter X.env) (fun v s1=>wpAny (model X.prog X.w) X.A (pyIter v) (PIE X pins σ tg R) X.xe s1) X.xe s
theorem go_of {M : Model} {A : Around} {E : Value → Shared → Prop} {s : Shared} {tg : Expr} {it : Addr} {u : Value} {o : Obj} {n : String} {vs : Array Value} {Q : Unit → Shared → Prop} (ho : s.heap.get? it = some o) (hc : o.cls = .type n) (hd : o.data = .fields vs)
    (hn : ["enumerate", "zip", "dict_itemiterator", "dict_reverseitemiterator", "odict_iterator", "itertools.zip_longest", "itertools.pairwise"].contains n = false) (hQ : Q () s) : wpAny M A (letOwnedTupleGo tg (.ref it) u) Q E s := by
  unfold letOwnedTupleGo
  cases tg <;> first
    | exact wpAny_pure hQ
    | (cases u <;> first
        | exact wpAny_pure hQ
        | (refine wpAny_bind (wpAny_load ho ?_)
           rw [hc, hd]
           show wpAny M A (if (["enumerate", "zip", "dict_itemiterator", "dict_reverseitemiterator", "odict_iterator", "itertools.zip_longest", "itertools.pairwise"].contains n && vs[0]? == some (rawInt _)) = true then _ else _) Q E s
           rw [if_neg (by intro h; rw [hn, Bool.false_and] at h; cases h)]
           exact wpAny_pure hQ))
def Itl (K:PySem.W.Frag) (a:Addr):It :=
 ⟨fun i H=>∃ xs x,SqL K H a xs/\xs[i]?=some x,fun i H x H'=>H'=H/\∀ xs,SqL K H a xs->xs[i]?=some x,fun i H=>∃ xs,SqL K H a xs/\xs.length<=i⟩
def Itr (lo:Int) (n:Nat):It:=⟨fun i _=>i < n,fun i H x H'=>H'=H/\x=.int (lo+i),fun i _=>n<=i⟩
theorem turn_list {P:Program} {w:World} {K:PySem.W.Frag} {tg:Expr} (a it:Addr):Turn P w K tg (Itl K a) [it] it (fun i h=>h.IsListIter it a i) where
 mem:=by simp
 obj:=fun i h st b hb=>by
  have e:b=it:=by simpa using hb
  subst e
  obtain ⟨o,e,c,d⟩:=st
  exact ⟨o,e,fun v z=>by rw [d] at z;cases z⟩
 keep:=fun i h h' st k=>st.at fun o e=>k it (by simp) o e
 item:=by
  intro X hP hw hK hc i pins s σ H E I hf st hg
  subst hP hw hK
  obtain ⟨xs,x,hq,hx⟩:=hg
  obtain ⟨its,rv,p,hz⟩:=I.list hq
  obtain ⟨u,hu,ru⟩:=rv.get hx
  obtain ⟨f0,f1,f2,f3,f4,f5⟩:=hf it (by simp)
  refine wpAny_pyNext_list_item st p.isList (x:=u) (by simpa using hu) fun h' st' sb=>?_
  have I1:Inv X pins σ H { s with heap:=h' }:=I.turned (t':=s.toks) (fun b o hb e=>(sb.2 b hb).trans e) f0 f1 f3 f4 f5
  obtain ⟨o,e,c,d⟩:=id st'
  exact ⟨u,rfl,go_of (s:={ s with heap:=h' }) e c d (by decide) ⟨x,H,I1,ru,⟨rfl,fun ys hy=>by rw [I.list_inj hy hq];exact hx⟩,st',fun b hb=>(hf b hb).1⟩⟩
 done:=by
  intro X hP hw hK hc i pins s σ H E I hf st hg
  subst hP hw hK
  obtain ⟨xs,hq,hx⟩:=hg
  obtain ⟨its,rv,p,hz⟩:=I.list hq
  obtain ⟨f0,f1,f2,f3,f4,f5⟩:=hf it (by simp)
  have hl:=rv.length
  exact wpAny_pyNext_list_end (I.ok.hd hc) st p.isList (by simp;omega) fun h' eb=>⟨rfl,I.turned (t':=s.toks) (fun b o hb e=>eb b o hb e) f0 f1 f3 f4 f5⟩
 self:=fun _ _ _ _ _ st h=>wpAny_pyIter_listiter st h
theorem turn_range {P:Program} {w:World} {K:PySem.W.Frag} {tg:Expr} (it:Addr) (lo:Int) (n:Nat):Turn P w K tg (Itr lo n) [it] it (fun i h=>IsRangeIter h it (lo+(i:Nat) * 1) ((n:Int) - (i:Nat)) 1) where
 mem:=by simp
 obj:=fun i h st b hb=>by
  have e:b=it:=by simpa using hb
  subst e
  exact ⟨_,st,fun v z=>by
   have z':Data.fields _=Data.cell v:=z
   cases z'⟩
 keep:=fun i h h' st k=>k it (by simp) _ st
 item:=by
  intro X hP hw hK hc i pins s σ H E I hf st hg
  subst hP hw hK
  obtain ⟨f0,f1,f2,f3,f4,f5⟩:=hf it (by simp)
  have W:=Walks.range (prog:=X.prog) (w:=X.w) (I.ok.hd hc) it lo 1 n
  refine W.item i s _ _ hg st fun v h' tk hv st' kk=>?_
  obtain ⟨t,rfl⟩:=hv
  have I1:Inv X pins σ H { s with heap:=h',toks:=tk }:=I.turned (fun b o hb e=>kk b o (by simpa using hb) e) f0 f1 f3 f4 f5
  refine ⟨_,rfl,go_of (s:={ s with heap:=h',toks:=tk }) (n:="range_iterator") st' rfl rfl (by decide) ⟨.int (lo+i),H,I1,⟨t,?_⟩,⟨rfl,rfl⟩,st',fun b hb=>(hf b hb).1⟩⟩
  rw [Int.mul_one]
 done:=by
  intro X hP hw hK hc i pins s σ H E I hf st hg
  subst hP hw hK
  obtain ⟨f0,f1,f2,f3,f4,f5⟩:=hf it (by simp)
  exact wpAny_pyNext_range_end (I.ok.hd hc) st (by have:n<=i:=hg;omega) fun h' eb=>⟨rfl,I.turned (t':=s.toks) (fun b o hb e=>eb b o hb e) f0 f1 f3 f4 f5⟩
 self:=fun _ _ _ _ _ st h=>wpAny_pyIter_rangeiter st h
section
variable {X:Cx} {tg:Expr}
def iList (K:PySem.W.Frag) (tl:TE):TI:=fun σ H R=>tl σ H fun x H1=>∃ a,x=.ref a/\(∃ xs,SqL K H1 a xs)/\R (Itl K a) H1
theorem pi_list {l:Expr} {tl:TE} (hl:PE X l tl):PI X tg l (iList X.K tl):=by
 intro pins s σ H R I h
 refine thn (hl pins s σ H _ I h) fun v s1 ⟨x,H1,I1,r1,q1⟩=>?_
 obtain ⟨a,e,⟨xs,hq⟩,q⟩:=q1
 subst e
 cases r1
 obtain ⟨its,rv,p,hz⟩:=I1.list hq
 refine wpAny_pyIter_list p.isList ?_
 refine ⟨s1.heap.objs.size,[s1.heap.objs.size],_,_,H1,rfl,I1.kept (t':=s1.toks) fun b o e=>Heap.get?_push_of_some _ e,turn_list a _,⟨_,Heap.get?_push_size _ rfl,rfl,rfl⟩,fun b hb=>?_,q⟩
 have e:b=s1.heap.objs.size:=by simpa using hb
 subst e
 exact I1.fpOk (Nat.le_refl _) (I1.hok.fresh (Nat.le_refl _))
theorem range_it {pins:List (Addr × Obj)} {σ:St} {H:Hp} {s:Shared} {R:It->Hp->Prop} {E:Value->Shared->Prop} {lo hi:Int} {t u v:Tok} {tk:Nat} (I:Inv X pins σ H s) (h1:-(2 ^ 62)<=lo) (h2:lo < 2 ^ 62) (h3:-(2 ^ 62)<=hi) (h4:hi < 2 ^ 62)
  (q:R (Itr lo (hi - lo).toNat) H):wpAny (model X.prog X.w) X.A (pyIter (.ref s.heap.objs.size)) (PIE X pins σ tg R) E { s with heap:=s.heap.push { cls:=.type "range",data:=.fields #[.int lo t,.int hi u,.int 1 v] },toks:=tk }:=by
 refine wpAny_pyIter_range (IsRange.new ..) (small_one h1 h2 h3 h4) ?_
 have I1:Inv X pins σ H { s with heap:=s.heap.push { cls:=.type "range",data:=.fields #[.int lo t,.int hi u,.int 1 v] },toks:=tk }:=I.kept fun b o e=>Heap.get?_push_of_some _ e
 refine ⟨(s.heap.push { cls:=.type "range",data:=.fields #[.int lo t,.int hi u,.int 1 v] }).objs.size,[(s.heap.push { cls:=.type "range",data:=.fields #[.int lo t,.int hi u,.int 1 v] }).objs.size],_,_,H,rfl,
  I1.kept (t':=tk) fun b o e=>Heap.get?_push_of_some _ e,turn_range _ lo (hi - lo).toNat,?_,fun b hb=>?_,q⟩
 ·have e1:lo+((0:Nat):Int) * 1=lo:=by simp
  have e2:(((hi - lo).toNat:Nat):Int) - ((0:Nat):Int)=Builtin.Range.rangeSize lo hi 1:=by rw [rangeSize_one];split<;>omega
  show IsRangeIter _ _ (lo+((0:Nat):Int) * 1) ((((hi - lo).toNat:Nat):Int) - ((0:Nat):Int)) 1
  rw [e1,e2]
  exact Heap.get?_push_size _ rfl
 ·have e:b=(s.heap.push { cls:=.type "range",data:=.fields #[.int lo t,.int hi u,.int 1 v] }).objs.size:=by simpa using hb
  subst e
  exact I1.fpOk (Nat.le_refl _) (I1.hok.fresh (Nat.le_refl _))
def iRng1 (ta:TA):TI:=fun σ H R=>ta σ H fun vs H1=>∃ j:Int,vs=[.int j]/\-(2 ^ 62)<=j/\j < 2 ^ 62/\R (Itr 0 j.toNat) H1
theorem pi_range1 {a:Expr} {ta:TA} {p pos:Pos} (hg:Gl X "range") (hm:X.mg "range" = none) (ha:PA X [a] ta) (hs:starEach [a] X.env=[(false,eval a X.env)]:=by rfl):PI X tg (.Call (.Name "range" p) [a] [] pos) (iRng1 ta):=by
 intro pins s σ H R I h
 refine Call_ (ld_blt I hg hm boot_range (PyProof.Rows.callWith_type1 (thn (ha pos pins s σ H _ I h) fun us s1 ⟨vs,H1,I1,r1,q1⟩=>?_) hs rfl))
 obtain ⟨j,e,q1,q2,q⟩:=q1
 subst e
 cases r1 with
 | cons r rr =>
  cases rr
  obtain ⟨t,rfl⟩:=r
  exact call_range_1 (range_it I1 (by omega) (by omega) q1 q2 (by simpa using q))
def tFor (wi:TI) (g:TG) (tb:TS):TS:=fun D σ H=>wi σ H fun J H1=>∃ W:Nat->Nat->St->Hp->Prop,(∃ m,W 0 m σ H1)/\∀ i m σ H,W i m σ H ->
 (J.stop i H/\D.nx σ H)\/(J.go i H/\∃ N:St->Hp->Prop,(∀ σ' H',N σ' H'->∃ m',m' < m/\W (i+1) m' σ' H')/\∀ x H',J.yld i H x H'->g x σ H' fun σ2 H2=>tb { D with nx:=N,ct:=N,bk:=D.nx } σ2 H2)
def pinsAt (fp:List Addr) (h:Heap):List (Addr × Obj):=fp.filterMap fun b=>(h.get? b).map fun o=>(b,o)
theorem mem_pinsAt {fp:List Addr} {h:Heap} {b:Addr} {o:Obj} (hb:b∈fp) (e:h.get? b=some o):(b,o)∈pinsAt fp h:=List.mem_filterMap.mpr ⟨b,hb,by rw [e];rfl⟩
theorem of_pinsAt {fp:List Addr} {h:Heap} {p:Addr × Obj} (hp:p∈pinsAt fp h):p.1∈fp/\h.get? p.1=some p.2:=by
 obtain ⟨b,hb,e⟩:=List.mem_filterMap.mp hp
 cases q:h.get? b with
 | none=>rw [q] at e;cases e
 | some o =>
  rw [q] at e
  have e':(b,o)=p:=Option.some.inj e
  subst e'
  exact ⟨hb,q⟩
theorem Inv.pinned {pins:List (Addr × Obj)} {σ:St} {H:Hp} {s:Shared} {fp:List Addr} (I:Inv X pins σ H s) (hf:∀ b∈fp,FpOk X pins H b) (ho:∀ b∈fp,∃ o,s.heap.get? b=some o/\∀ v,o.data≠.cell v):Inv X (pins++pinsAt fp s.heap) σ H s :=
 I.pins_of fun p hp=>(List.mem_append.mp hp).elim (fun z=>I.pin p (List.mem_append_right _ z)) fun z=>by
  obtain ⟨hb,e⟩:=of_pinsAt z
  obtain ⟨f0,f1,f2,_⟩:=hf p.1 hb
  obtain ⟨o,e',d⟩:=ho p.1 hb
  rw [e] at e';cases e'
  exact ⟨e,f0,f1,f2,d⟩
theorem Inv.unpinned {pins pl:List (Addr × Obj)} {σ:St} {H:Hp} {s:Shared} (I:Inv X (pins++pl) σ H s):Inv X pins σ H s:=I.pins_of fun p hp=>I.pin p (List.mem_append_right _ (List.mem_append_left _ hp))
theorem ps_for {iter:Expr} {body:List Stmt} {wi:TI} {g:TG} {tb:TS} {pos:Pos} (hp:PassesOwn (model X.prog X.w) X.A X.env X.xe) (hc:X.calm=true) (hi:PI X tg iter wi) (hg:PG X tg g) (hb:PSs X body tb)
  (hs:∀ x,foldedSetIterable iter X.env x=pure x:=by intro _;rfl):PS X (.For tg iter body [] pos) (tFor wi g tb):=by
 intro pins s σ H D I h
 refine wpAny_For (thn (hi pins s σ H _ I h) fun v s1 h1=>thn h1 fun itv s2 h2=>?_) hs
 obtain ⟨it,fp,tn,J,H2,e,I2,T,st2,f2,W,⟨m0,w0⟩,turn⟩:=h2
 subst e
 have stat:∀ {H':Hp},(∀ b∈fp,H' b=none)->∀ b∈fp,FpOk X pins H' b:=fun hn b hb=>⟨hn b hb,(f2 b hb).2⟩
 refine codeAny_forLoop_any (fun n s'=>∃ i σ' H',Inv X pins σ' H' s'/\tn i s'.heap/\(∀ b∈fp,H' b=none)/\W i n σ' H') ?_ m0 ⟨0,σ,H2,I2,st2,fun b hb=>(f2 b hb).1,w0⟩
 rintro n s3 ⟨i,σ3,H3,I3,st3,fr3,w3⟩
 rcases turn i n σ3 H3 w3 with ⟨stop,qn⟩ | ⟨go,N,hN,step⟩
 ·refine wpAny_passesOwn hp (thn (T.done X rfl rfl rfl hc i pins s3 σ3 H3 X.xe I3 (stat fr3) st3 stop) fun r s4 ⟨hr,I4⟩=>?_)
  subst hr
  exact wpAny_execs_nil ⟨σ3,H3,I4,qn⟩
 ·refine wpAny_passesOwn hp (thn (T.item X rfl rfl rfl hc i pins s3 σ3 H3 X.xe I3 (stat fr3) st3 go) fun r s4 ⟨u,hr,h4⟩=>?_)
  subst hr
  refine wpAny_passesOwn hp (thn h4 fun _ s5 ⟨x,H5,I5,r5,y5,st5,fr5⟩=>?_)
  have I5':=I5.pinned (stat fr5) (T.obj _ _ st5)
  refine wpAny_passesOwn hp (thn (hg _ s5 σ3 H5 x u _ I5' r5 (step x H5 y5)) fun _ s6 ⟨σ6,H6,I6,q6⟩=>?_)
  refine wpAny_passesOwn hp (thn (hb _ s6 σ6 H6 _ I6 q6) fun f s7 q7=>?_)
  have again:∀ {σ7:St} {H7:Hp},Inv X (pins++pinsAt fp s5.heap) σ7 H7 s7->N σ7 H7->∃ m,m < n/\∃ i σ' H',Inv X pins σ' H' s7/\tn i s7.heap/\(∀ b∈fp,H' b=none)/\W i m σ' H':=fun {σ7 H7} I7 n7=>by
   obtain ⟨m',hm,w7⟩:=hN σ7 H7 n7
   refine ⟨m',hm,i+1,σ7,H7,I7.unpinned,T.keep _ _ _ st5 fun b hb o e=>(I7.pin (b,o) (List.mem_append_right _ (List.mem_append_right _ (mem_pinsAt hb e)))).1,fun b hb=>?_,w7⟩
   obtain ⟨o,e,d⟩:=T.obj _ _ st5 b hb
   exact (I7.pin (b,o) (List.mem_append_right _ (List.mem_append_right _ (mem_pinsAt hb e)))).2.1
  cases f with
  | next=>obtain ⟨σ7,H7,I7,n7⟩:=q7;exact again I7 n7
  | cont=>obtain ⟨σ7,H7,I7,n7⟩:=q7;exact again I7 n7
  | brk=>obtain ⟨σ7,H7,I7,q7⟩:=q7;exact ⟨σ7,H7,I7.unpinned,q7⟩
  | ret v=>obtain ⟨x7,σ7,H7,I7,r7,q7⟩:=q7;exact ⟨x7,σ7,H7,I7.unpinned,r7,q7⟩
end
theorem for_list {K:PySem.W.Frag} {a:Addr} {xs:List V} {g:TG} {tb:TS} {D:Ends} {σ:St} {H:Hp} (Pv:Nat->St->Hp->Prop) (h0:Pv 0 σ H) (hl:∀ i σ H,i<=xs.length->Pv i σ H->SqL K H a xs)
  (hs:∀ i x σ H,xs[i]?=some x->Pv i σ H->g x σ H fun σ2 H2=>tb { D with nx:=Pv (i+1),ct:=Pv (i+1),bk:=D.nx } σ2 H2) (hd:∀ σ H,Pv xs.length σ H->D.nx σ H) :
  ∃ W:Nat->Nat->St->Hp->Prop,(∃ m,W 0 m σ H)/\∀ i m σ H,W i m σ H ->
   ((Itl K a).stop i H/\D.nx σ H)\/((Itl K a).go i H/\∃ N:St->Hp->Prop,(∀ σ' H',N σ' H'->∃ m',m' < m/\W (i+1) m' σ' H')/\∀ x H',(Itl K a).yld i H x H'->g x σ H' fun σ2 H2=>tb { D with nx:=N,ct:=N,bk:=D.nx } σ2 H2):=by
 refine ⟨fun i m σ H=>m=xs.length - i/\i<=xs.length/\Pv i σ H,⟨xs.length,by simp,Nat.zero_le _,h0⟩,?_⟩
 rintro i m σ H ⟨rfl,hi,p⟩
 have q:=hl i σ H hi p
 by_cases hlt:i < xs.length
 ·refine .inr ⟨⟨xs,xs[i],q,by simp [hlt]⟩,Pv (i+1),fun σ' H' p'=>⟨xs.length - (i+1),by omega,rfl,hlt,p'⟩,fun x H' y=>?_⟩
  obtain ⟨e,y⟩:=y
  subst e
  exact hs i x σ _ (y xs q) p
 ·have e:i=xs.length:=by omega
  subst e
  exact .inl ⟨⟨xs,q,Nat.le_refl _⟩,hd σ H p⟩
theorem for_range {lo:Int} {n:Nat} {g:TG} {tb:TS} {D:Ends} {σ:St} {H:Hp} (Pv:Nat->St->Hp->Prop) (h0:Pv 0 σ H)
  (hs:∀ i σ H,i < n->Pv i σ H->g (.int (lo+i)) σ H fun σ2 H2=>tb { D with nx:=Pv (i+1),ct:=Pv (i+1),bk:=D.nx } σ2 H2) (hd:∀ σ H,Pv n σ H->D.nx σ H) :
  ∃ W:Nat->Nat->St->Hp->Prop,(∃ m,W 0 m σ H)/\∀ i m σ H,W i m σ H ->
   ((Itr lo n).stop i H/\D.nx σ H)\/((Itr lo n).go i H/\∃ N:St->Hp->Prop,(∀ σ' H',N σ' H'->∃ m',m' < m/\W (i+1) m' σ' H')/\∀ x H',(Itr lo n).yld i H x H'->g x σ H' fun σ2 H2=>tb { D with nx:=N,ct:=N,bk:=D.nx } σ2 H2):=by
 refine ⟨fun i m σ H=>m=n - i/\i<=n/\Pv i σ H,⟨n,by simp,Nat.zero_le _,h0⟩,?_⟩
 rintro i m σ H ⟨rfl,hi,p⟩
 by_cases hlt:i < n
 ·refine .inr ⟨hlt,Pv (i+1),fun σ' H' p'=>⟨n - (i+1),by omega,rfl,hlt,p'⟩,fun x H' y=>?_⟩
  obtain ⟨e,y⟩:=y
  subst e y
  exact hs i σ _ hlt p
 ·have e:i=n:=by omega
  subst e
  exact .inl ⟨Nat.le_refl _,hd σ H p⟩
abbrev R2:=V->V->Hp->VK->Prop
def OpR (X:Cx) (f:Value->Value->Sem Value) (r:R2):Prop :=
 ∀ (pins:List (Addr × Obj)) (s:Shared) (σ:St) (H:Hp) (x y:V) (v u:Value) (Q:VK),Inv X pins σ H s->RelV x v->RelV y u->r x y H Q ->
  wpAny (model X.prog X.w) X.A (f v u) (EP X pins σ Q) X.xe s
def UnR (X:Cx) (f:Value->Sem Value) (r:V->Hp->VK->Prop):Prop :=
 ∀ (pins:List (Addr × Obj)) (s:Shared) (σ:St) (H:Hp) (x:V) (v:Value) (Q:VK),Inv X pins σ H s->RelV x v->r x H Q ->
  wpAny (model X.prog X.w) X.A (f v) (EP X pins σ Q) X.xe s
def CallR (X:Cx) (f:Value) (r:List V->Hp->VK->Prop):Prop :=
 ∀ (pins:List (Addr × Obj)) (s:Shared) (σ:St) (H:Hp) (xs:List V) (us:List Value) (Q:VK),Inv X pins σ H s->Vals xs us->r xs H Q ->
  wpAny (model X.prog X.w) X.A (call f us) (EP X pins σ Q) X.xe s
def TruR (X:Cx) (r:V->Hp->(Bool->Hp->Prop)->Prop):Prop :=
 ∀ (pins:List (Addr × Obj)) (s:Shared) (σ:St) (H:Hp) (x:V) (v:Value) (Q:Bool->Hp->Prop),Inv X pins σ H s->RelV x v->r x H Q ->
  wpAny (model X.prog X.w) X.A (truthy v) (TP X pins σ Q) X.xe s
def tOp (r:R2) (ta tb:TE):TE:=fun σ H Q=>ta σ H fun x H1=>tb σ H1 fun y H2=>r x y H2 Q
def tUn (r:V->Hp->VK->Prop) (ta:TE):TE:=fun σ H Q=>ta σ H fun x H1=>r x H1 Q
def rI (C:Int->Int->Prop) (g:Int->Int->V):R2:=fun x y H Q=>∃ i j,x=.int i/\y=.int j/\C i j/\Q (g i j) H
def rI0 (g:Int->Int->V):R2:=fun x y H Q=>∃ i j,x=.int i/\y=.int j/\Q (g i j) H
def rU (g:Int->V):V->Hp->VK->Prop:=fun x H Q=>∃ i,x=.int i/\Q (g i) H
section
variable {X:Cx} {a b c:Expr} {ta tb tc:TE} {pos:Pos}
theorem binT (ha:PE X a ta) (hb:PE X b tb) {pins:List (Addr × Obj)} {s:Shared} {σ:St} {H:Hp} {R:V->V->Hp->Prop} (I:Inv X pins σ H s)
  (h:ta σ H fun x H1=>tb σ H1 fun y H2=>R x y H2) {Q:Value->Shared->Prop} {f:Value->Value->Sem Value}
  (hf:∀ v u s2 x y H2,Inv X pins σ H2 s2->RelV x v->RelV y u->R x y H2->wpAny (model X.prog X.w) X.A (f v u) Q X.xe s2) :
  wpAny (model X.prog X.w) X.A (eval a X.env) (fun v s₁=>wpAny (model X.prog X.w) X.A (eval b X.env) (fun u s₂=>wpAny (model X.prog X.w) X.A (f v u) Q X.xe s₂) X.xe s₁) X.xe s:=by
 refine thn (ha pins s σ H _ I h) fun v s1 ⟨x,H1,I1,r1,q1⟩=>?_
 refine thn (hb pins s1 σ H1 _ I1 q1) fun u s2 ⟨y,H2,I2,r2,q2⟩=>?_
 exact hf v u s2 x y H2 I2 r1 r2 q2
theorem pe_op {op:Operator} {r:R2} (ho:OpR X (binaryOp op) r) (ha:PE X a ta) (hb:PE X b tb):PE X (.BinOp a op b pos) (tOp r ta tb):=by
 intro pins s σ H Q I h
 exact wpAny_BinOp (binT ha hb I h fun v u s2 x y H2 I2 rx ry q=>ho pins s2 σ H2 x y v u Q I2 rx ry q)
theorem pe_un {op:UnaryOp} {r:V->Hp->VK->Prop} (ho:UnR X (unaryOp op) r) (ha:PE X a ta):PE X (.UnaryOp op a pos) (tUn r ta):=by
 intro pins s σ H Q I h
 exact UnaryOp_ (thn (ha pins s σ H _ I h) fun v s1 ⟨x,H1,I1,r1,q1⟩=>ho pins s1 σ H1 x v Q I1 r1 q1)
theorem opI {f:Value->Value->Sem Value} {C:Int->Int->Prop} {g:Int->Int->Int}
  (rule:∀ (i j:Int) (t u:Tok) (s:Shared) (Q:Value->Shared->Prop) (E:Value->Shared->Prop),C i j->Q (.int (g i j) s.toks) { s with toks:=s.toks+1 }->wpAny (model X.prog X.w) X.A (f (.int i t) (.int j u)) Q E s) :
  OpR X f (rI C fun i j=>.int (g i j)):=by
 intro pins s σ H x y v u Q I rx ry h
 obtain ⟨i,j,rfl,rfl,hc,q⟩:=h
 obtain ⟨t,rfl⟩:=rx
 obtain ⟨t',rfl⟩:=ry
 exact rule i j t t' s _ _ hc ⟨.int (g i j),H,I.tok _,⟨_,rfl⟩,q⟩
theorem opI0 {f:Value->Value->Sem Value} {g:Int->Int->Int}
  (rule:∀ (i j:Int) (t u:Tok) (s:Shared) (Q:Value->Shared->Prop) (E:Value->Shared->Prop),Q (.int (g i j) s.toks) { s with toks:=s.toks+1 }->wpAny (model X.prog X.w) X.A (f (.int i t) (.int j u)) Q E s) :
  OpR X f (rI0 fun i j=>.int (g i j)):=by
 intro pins s σ H x y v u Q I rx ry h
 obtain ⟨i,j,rfl,rfl,q⟩:=h
 obtain ⟨t,rfl⟩:=rx
 obtain ⟨t',rfl⟩:=ry
 exact rule i j t t' s _ _ ⟨.int (g i j),H,I.tok _,⟨_,rfl⟩,q⟩
theorem opB0 {f:Value->Value->Sem Value} {g:Int->Int->Bool}
  (rule:∀ (i j:Int) (t u:Tok) (s:Shared) (Q:Value->Shared->Prop) (E:Value->Shared->Prop),Q (.bool (g i j)) s->wpAny (model X.prog X.w) X.A (f (.int i t) (.int j u)) Q E s) :
  OpR X f (rI0 fun i j=>.bl (g i j)):=by
 intro pins s σ H x y v u Q I rx ry h
 obtain ⟨i,j,rfl,rfl,q⟩:=h
 obtain ⟨t,rfl⟩:=rx
 obtain ⟨t',rfl⟩:=ry
 exact rule i j t t' s _ _ ⟨.bl (g i j),H,I,rfl,q⟩
def CDiv (i j:Int):Prop:=0 < j/\j < 1073741824
def CPow (i j:Int):Prop:=0<=j/\j<=1000000/\i.natAbs < 2 ^ 64
def CMul (i j:Int):Prop:=(-(2 ^ 64) < i/\i < 2 ^ 64)\/(-(2 ^ 64) < j/\j < 2 ^ 64)
theorem CMul.ok {i j:Int} (h:CMul i j):IntMulOk i j:=by
 rcases h with ⟨h1,h2⟩ | ⟨h1,h2⟩
 ·exact .of_left (intBits_le_64 h1 h2)
 ·exact .of_right (intBits_le_64 h1 h2)
theorem op_add:OpR X (binaryOp .Add) (rI0 fun i j=>.int (i+j)):=opI0 fun _ _ _ _ _ _ _ q=>add_int q
theorem op_sub:OpR X (binaryOp .Sub) (rI0 fun i j=>.int (i - j)):=opI0 fun _ _ _ _ _ _ _ q=>sub_int q
theorem op_mul:OpR X (binaryOp .Mult) (rI CMul fun i j=>.int (i * j)):=opI fun _ _ _ _ _ _ _ hc q=>mul_int q hc.ok
theorem op_fdiv:OpR X (binaryOp .FloorDiv) (rI CDiv fun i j=>.int (i / j)):=opI fun i j _ _ _ _ _ hc q=>by
 have h1:(0:Int) < j:=hc.1
 have h2:j < 1073741824:=hc.2
 exact floordiv_int (by omega) (by rw [Int.fdiv_eq_ediv_of_nonneg i (by omega)];exact q) (.inl (PyProof.noPylong_small (by omega)))
theorem op_mod:OpR X (binaryOp .Mod) (rI (fun _ j=>0 < j) fun i j=>.int (i % j)):=opI fun i j _ _ _ _ _ hc q=>by
 have h1:(0:Int) < j:=hc
 exact mod_int' (by omega) (by rw [Int.fmod_eq_emod_of_nonneg i (by omega)];exact q)
theorem op_pow:OpR X (binaryOp .Pow) (rI CPow fun i j=>.int (i ^ j.toNat)):=opI fun _ _ _ _ _ _ _ hc q=>pow_int_small hc.1 hc.2.1 hc.2.2 q
theorem unI {f:Value->Sem Value} {g:Int->Int}
  (rule:∀ (i:Int) (t:Tok) (s:Shared) (Q:Value->Shared->Prop) (E:Value->Shared->Prop),Q (.int (g i) s.toks) { s with toks:=s.toks+1 }->wpAny (model X.prog X.w) X.A (f (.int i t)) Q E s) :
  UnR X f (rU fun i=>.int (g i)):=by
 intro pins s σ H x v Q I rx h
 obtain ⟨i,rfl,q⟩:=h
 obtain ⟨t,rfl⟩:=rx
 exact rule i t s _ _ ⟨.int (g i),H,I.tok _,⟨_,rfl⟩,q⟩
theorem un_neg:UnR X (unaryOp .USub) (rU fun i=>.int (-i)):=unI fun _ _ _ _ _ q=>neg_int q
end
def scal:V->V->Bool
 | .non,.non=>true | .non,.int _=>true | .int _,.non=>true | .non,.bl _=>true | .bl _,.non=>true | .non,.str _=>true | .str _,.non=>true
 | .int _,.int _=>true | .bl _,.bl _=>true | .str _,.str _=>true | .byt _,.byt _=>true
 | .int _,.str _=>true | .str _,.int _=>true | .bl _,.str _=>true | .str _,.bl _=>true
 | _,_=>false
def rEq:R2:=fun x y H Q=>scal x y=true/\Q (.bl (decide (x=y))) H
def rNe:R2:=fun x y H Q=>scal x y=true/\Q (.bl (!decide (x=y))) H
theorem dec_int {i j:Int}:decide (V.int i=V.int j)=(i == j):=by
 rw [Bool.eq_iff_iff]
 simp
theorem dec_bl {i j:Bool}:decide (V.bl i=V.bl j)=(i == j):=by
 rw [Bool.eq_iff_iff]
 simp
theorem dec_str {i j:Str}:decide (V.str i=V.str j)=(i == j):=by
 rw [Bool.eq_iff_iff]
 simp
theorem dec_byt {i j:Array UInt8}:decide (V.byt i=V.byt j)=(i.toList == j.toList):=by
 rw [Bool.eq_iff_iff]
 cases i
 cases j
 simp
section
variable {X:Cx} {a b c:Expr} {ta tb tc:TE} {pos:Pos}
theorem fin_bl {pins:List (Addr × Obj)} {σ:St} {H:Hp} {s:Shared} {Q:VK} {k k':Bool} (I:Inv X pins σ H s) (q:Q (.bl k) H) (e:k=k'):EP X pins σ Q (.bool k') s:=by
 subst e
 exact ⟨.bl k,H,I,rfl,q⟩
theorem op_eq:OpR X (compareOp .Eq) rEq:=by
 intro pins s σ H x y v u Q I rx ry h
 obtain ⟨hs,q⟩:=h
 cases x with
 | non =>
  cases rx
  cases y with
  | non=>cases ry;exact PySem.EqNone.eq_none_none (fin_bl I q (by simp))
  | bl j=>cases ry;exact PySem.EqNone.eq_none_bool (fin_bl I q (by simp))
  | int j=>obtain ⟨t',rfl⟩:=ry;exact PySem.EqNone.eq_none_int (fin_bl I q (by simp))
  | str j=>obtain ⟨t',rfl⟩:=ry;exact PySem.EqNone.eq_none_str (fin_bl I q (by simp))
  | _=>exact absurd (show false=true from hs) Bool.false_ne_true
 | bl i =>
  cases rx
  cases y with
  | non=>cases ry;exact PySem.EqNone.eq_bool_none (fin_bl I q (by simp))
  | bl j=>cases ry;exact eq_bool (fin_bl I q dec_bl)
  | str j=>obtain ⟨t',rfl⟩:=ry;exact PySem.EqMixed.eq_bool_str (fin_bl I q (by simp))
  | _=>exact absurd (show false=true from hs) Bool.false_ne_true
 | int i =>
  obtain ⟨t,rfl⟩:=rx
  cases y with
  | non=>cases ry;exact PySem.EqNone.eq_int_none (fin_bl I q (by simp))
  | int j=>obtain ⟨t',rfl⟩:=ry;exact eq_int (fin_bl I q dec_int)
  | str j=>obtain ⟨t',rfl⟩:=ry;exact PySem.EqMixed.eq_int_str (fin_bl I q (by simp))
  | _=>exact absurd (show false=true from hs) Bool.false_ne_true
 | str i =>
  obtain ⟨t,rfl⟩:=rx
  cases y with
  | non=>cases ry;exact PySem.EqNone.eq_str_none (fin_bl I q (by simp))
  | bl j=>cases ry;exact PySem.EqMixed.eq_str_bool (fin_bl I q (by simp))
  | int j=>obtain ⟨t',rfl⟩:=ry;exact PySem.EqMixed.eq_str_int (fin_bl I q (by simp))
  | str j=>obtain ⟨t',rfl⟩:=ry;exact eq_str (fin_bl I q dec_str)
  | _=>exact absurd (show false=true from hs) Bool.false_ne_true
 | byt i =>
  obtain ⟨t,rfl⟩:=rx
  cases y with
  | byt j=>obtain ⟨t',rfl⟩:=ry;exact PySem.W.eq_bytes (fin_bl I q dec_byt)
  | _=>exact absurd (show false=true from hs) Bool.false_ne_true
 | _=>cases y<;>exact absurd (show false=true from hs) Bool.false_ne_true
theorem op_ne:OpR X (compareOp .NotEq) rNe:=by
 intro pins s σ H x y v u Q I rx ry h
 obtain ⟨hs,q⟩:=h
 cases x with
 | non =>
  cases rx
  cases y with
  | non=>cases ry;exact PySem.EqNone.ne_none_none (fin_bl I q (by simp))
  | bl j=>cases ry;exact PySem.EqNone.ne_none_bool (fin_bl I q (by simp))
  | int j=>obtain ⟨t',rfl⟩:=ry;exact PySem.EqNone.ne_none_int (fin_bl I q (by simp))
  | str j=>obtain ⟨t',rfl⟩:=ry;exact PySem.EqNone.ne_none_str (fin_bl I q (by simp))
  | _=>exact absurd (show false=true from hs) Bool.false_ne_true
 | bl i =>
  cases rx
  cases y with
  | non=>cases ry;exact PySem.EqNone.ne_bool_none (fin_bl I q (by simp))
  | bl j=>cases ry;exact ne_bool (fin_bl I q (congrArg not dec_bl))
  | str j=>obtain ⟨t',rfl⟩:=ry;exact PySem.EqMixed.ne_bool_str (fin_bl I q (by simp))
  | _=>exact absurd (show false=true from hs) Bool.false_ne_true
 | int i =>
  obtain ⟨t,rfl⟩:=rx
  cases y with
  | non=>cases ry;exact PySem.EqNone.ne_int_none (fin_bl I q (by simp))
  | int j=>obtain ⟨t',rfl⟩:=ry;exact ne_int (fin_bl I q (congrArg not dec_int))
  | str j=>obtain ⟨t',rfl⟩:=ry;exact PySem.EqMixed.ne_int_str (fin_bl I q (by simp))
  | _=>exact absurd (show false=true from hs) Bool.false_ne_true
 | str i =>
  obtain ⟨t,rfl⟩:=rx
  cases y with
  | non=>cases ry;exact PySem.EqNone.ne_str_none (fin_bl I q (by simp))
  | bl j=>cases ry;exact PySem.EqMixed.ne_str_bool (fin_bl I q (by simp))
  | int j=>obtain ⟨t',rfl⟩:=ry;exact PySem.EqMixed.ne_str_int (fin_bl I q (by simp))
  | str j=>obtain ⟨t',rfl⟩:=ry;exact ne_str (fin_bl I q (congrArg not dec_str))
  | _=>exact absurd (show false=true from hs) Bool.false_ne_true
 | byt i =>
  obtain ⟨t,rfl⟩:=rx
  cases y with
  | byt j=>obtain ⟨t',rfl⟩:=ry;exact PySem.W.ne_bytes (fin_bl I q (congrArg not dec_byt))
  | _=>exact absurd (show false=true from hs) Bool.false_ne_true
 | _=>cases y<;>exact absurd (show false=true from hs) Bool.false_ne_true
theorem op_lt:OpR X (compareOp .Lt) (rI0 fun i j=>.bl (decide (i < j))):=opB0 fun _ _ _ _ _ _ _ q=>lt_int q
theorem op_le:OpR X (compareOp .LtE) (rI0 fun i j=>.bl (decide (i<=j))):=opB0 fun _ _ _ _ _ _ _ q=>le_int q
theorem op_gt:OpR X (compareOp .Gt) (rI0 fun i j=>.bl (decide (j < i))):=opB0 fun _ _ _ _ _ _ _ q=>gt_int q
theorem op_isN:OpR X (compareOp .Is) (fun x y H Q=>y=.non/\Q (.bl (decide (x=.non))) H):=by
 intro pins s σ H x y v u Q I rx ry h
 obtain ⟨rfl,q⟩:=h
 cases ry
 refine is_none_gen (fin_bl I q ?_)
 cases x<;>first
  | (cases rx;rfl)
  | (obtain ⟨t,rfl⟩:=rx;rfl)
theorem nomark (b:Expr) {op:CmpOp} (h:op≠.In:=by decide) (h2:op≠.NotIn:=by decide):behindInMarks op b=false:=by
 have e1:(op == CmpOp.In)=false:=by cases op<;>first | rfl | exact absurd rfl h
 have e2:(op == CmpOp.NotIn)=false:=by cases op<;>first | rfl | exact absurd rfl h2
 cases b<;>simp [behindInMarks,e1,e2]
theorem pe_cmpR {op:CmpOp} {r:R2} (ho:OpR X (compareOp op) r) (ha:PE X a ta) (hb:PE X b tb) (hm:behindInMarks op b=false):PE X (.Compare a [op] [b] pos) (tOp r ta tb):=by
 intro pins s σ H Q I h
 exact wpAny_Compare1 (binT ha hb I h fun v u s2 x y H2 I2 rx ry q=>ho pins s2 σ H2 x y v u Q I2 rx ry q) hm
def tTest (t:TE):TT:=fun σ H Q=>t σ H fun x H'=>∃ k,x=.bl k/\Q k H'
theorem pt_cmpR {op:CmpOp} {r:R2} (ho:OpR X (compareOp op) r) (ha:PE X a ta) (hb:PE X b tb) (hm:behindInMarks op b=false):PT X (.Compare a [op] [b] pos) (tTest (tOp r ta tb)):=by
 intro pins s σ H Q I h
 refine wpAny_isTrue_Compare1 (thn (ha pins s σ H _ I h) fun v s1 ⟨x,H1,I1,r1,q1⟩=>thn (hb pins s1 σ H1 _ I1 q1) fun u s2 ⟨y,H2,I2,r2,q2⟩ =>
  thn (ho pins s2 σ H2 x y v u _ I2 r1 r2 q2) fun c s3 ⟨z,H3,I3,r3,k,e,q3⟩=>?_) hm
 subst e
 cases r3
 exact wpAny_truthy_bool ⟨H3,I3,q3⟩
def tChain (r r':R2) (ta tb tc:TE):TE:=fun σ H Q=>ta σ H fun x H1=>tb σ H1 fun y H2=>r x y H2 fun z H3=>∃ k,z=.bl k /\
 (if k=true then tc σ H3 fun w' H4=>r' y w' H4 Q else Q (.bl false) H3)
theorem pe_chain {op op':CmpOp} {r r':R2} (ho:OpR X (compareOp op) r) (ho':OpR X (compareOp op') r') (ha:PE X a ta) (hb:PE X b tb) (hc:PE X c tc)
  (hm:lastMarks [op,op'] [b,c]=false:=by with_unfolding_all rfl):PE X (.Compare a [op,op'] [b,c] pos) (tChain r r' ta tb tc):=by
 intro pins s σ H Q I h
 refine Compare_chain (thn (ha pins s σ H _ I h) fun v s1 ⟨x,H1,I1,r1,q1⟩=>chain_link (thn (hb pins s1 σ H1 _ I1 q1) fun u s2 ⟨y,H2,I2,r2,q2⟩ =>
  thn (ho pins s2 σ H2 x y v u _ I2 r1 r2 q2) fun d s3 ⟨z,H3,I3,r3,k,e,q3⟩=>?_)) hm
 subst e
 cases r3
 refine wpAny_truthy_bool ?_
 cases k with
 | false=>exact ite_ff ⟨.bl false,H3,I3,rfl,q3⟩
 | true=>exact ite_tt (chain_last (thn (hc pins s3 σ H3 _ I3 q3) fun w' s4 ⟨z',H4,I4,r4,q4⟩=>ho' pins s4 σ H4 y z' u w' Q I4 r2 r4 q4))
theorem pt_chain {op op':CmpOp} {r r':R2} (ho:OpR X (compareOp op) r) (ho':OpR X (compareOp op') r') (ha:PE X a ta) (hb:PE X b tb) (hc:PE X c tc)
  (hm:lastMarks [op,op'] [b,c]=false:=by with_unfolding_all rfl):PT X (.Compare a [op,op'] [b,c] pos) (tTest (tChain r r' ta tb tc)):=by
 intro pins s σ H Q I h
 refine isTrue_chain (thn (ha pins s σ H _ I h) fun v s1 ⟨x,H1,I1,r1,q1⟩=>test_link (thn (hb pins s1 σ H1 _ I1 q1) fun u s2 ⟨y,H2,I2,r2,q2⟩ =>
  thn (ho pins s2 σ H2 x y v u _ I2 r1 r2 q2) fun d s3 ⟨z,H3,I3,r3,k,e,q3⟩=>?_)) hm
 subst e
 cases r3
 refine wpAny_truthy_bool ?_
 cases k with
 | false =>
  obtain ⟨k',e',q'⟩:=q3
  cases e'
  exact ite_ff ⟨H3,I3,q'⟩
 | true =>
  refine ite_tt (test_last (thn (hc pins s3 σ H3 _ I3 q3) fun w' s4 ⟨z',H4,I4,r4,q4⟩=>thn (ho' pins s4 σ H4 y z' u w' _ I4 r2 r4 q4) fun d' s5 ⟨z2,H5,I5,r5,k2,e2,q5⟩=>?_))
  subst e2
  cases r5
  exact wpAny_truthy_bool ⟨H5,I5,q5⟩
def TruV (K:PySem.W.Frag) (x:V) (H:Hp) (k:Bool):Prop :=
 match x with
 | .non=>k=false
 | .bl b=>k=b
 | .int i=>k=(i != 0)
 | .str y=>y.length<=sizeLine/\k=((y.length:Int) != 0)
 | .byt y=>y.size<=sizeLine/\k=((y.size:Int) != 0)
 | .ref p=>(∃ xs,SqL K H p xs/\k=!xs.isEmpty)\/(∃ xs,SqT K H p xs/\k=!xs.isEmpty)\/∃ kvs,H p=some (.dK kvs)/\k=!kvs.isEmpty
 | _=>False
theorem isEmpty_kv {κ:Type} {kvs:List (κ × V)} {vs:List (κ × Value)} (r:KV kvs vs):(!vs.isEmpty)=!kvs.isEmpty:=by
 cases r<;>rfl
theorem isEmpty_of {xs:List V} {its:List Value} (r:Vals xs its):(!its.toArray.isEmpty)=!xs.isEmpty:=by
 cases r<;>simp
theorem line63:(sizeLine:Nat) < 2 ^ 63:=by rw [sizeLine_eq];decide
theorem tru_ok:TruR X (fun x H Q=>∃ k,TruV X.K x H k/\Q k H):=by
 intro pins s σ H x v Q I rx h
 obtain ⟨k,e,q⟩:=h
 have hl:=line63
 have hs:sizeLine=16777216:=sizeLine_eq
 cases x with
 | non =>
  cases rx
  have e':k=false:=e
  subst e'
  exact truthy_none ⟨H,I,q⟩
 | bl b =>
  cases rx
  have e':k=b:=e
  subst e'
  exact wpAny_truthy_bool ⟨H,I,q⟩
 | int i =>
  obtain ⟨t,rfl⟩:=rx
  have e':k=(i != 0):=e
  subst e'
  exact PySem.P.truthy_int ⟨H,I,q⟩
 | str y =>
  obtain ⟨t,rfl⟩:=rx
  obtain ⟨hy,e'⟩:y.length<=sizeLine/\k=((y.length:Int) != 0):=e
  subst e'
  exact PySem.P.truthy_str (by omega) ⟨H,I.tok _,q⟩
 | byt y =>
  obtain ⟨t,rfl⟩:=rx
  obtain ⟨hy,e'⟩:y.size<=sizeLine/\k=((y.size:Int) != 0):=e
  subst e'
  exact PySem.W.truthy_bytes (by omega) ⟨H,I.tok _,q⟩
 | ref p =>
  cases rx
  have e':(∃ xs,SqL X.K H p xs/\k=!xs.isEmpty)\/(∃ xs,SqT X.K H p xs/\k=!xs.isEmpty)\/∃ kvs,H p=some (.dK kvs)/\k=!kvs.isEmpty:=e
  rcases e' with ⟨xs,hx,e'⟩ | ⟨xs,hx,e'⟩ | ⟨kvs,hx,e'⟩
  ·subst e'
   obtain ⟨its,r,pl,hz⟩:=I.list hx
   have hlen:=r.length
   exact wpAny_truthy_list pl.isList (by simp only [List.size_toArray];omega) ⟨H,I.tok _,by rw [isEmpty_of r];exact q⟩
  ·subst e'
   obtain ⟨its,r,pl,hz⟩:=I.tuple hx
   have hlen:=r.length
   exact truthy_tuple pl (by simp only [List.size_toArray];omega) ⟨H,I.tok _,by rw [isEmpty_of r];exact q⟩
  ·subst e'
   obtain ⟨hz,hS,vs,r,m⟩:kvs.length<=sizeLine/\(p == sysModules)=false/\∃ vs,KV kvs vs/\s.heap.DictOf (mixKind X.prog X.w) p vs:=I.hok p _ hx
   have hlen:kvs.length=vs.length:=Paired.length r
   exact wpAny_truthy_dict hS m (by omega) ⟨H,I.tok _,by rw [isEmpty_kv r];exact q⟩
 | _=>exact (show False from e).elim
theorem pt_truth (ha:PE X a ta) (he:∀ whole,isTrue a X.env whole=(do let v <- whole;standAt a.pos;holding [v] (truthy v))) :
  PT X a (fun σ H Q=>ta σ H fun x H'=>∃ k,TruV X.K x H' k/\Q k H'):=by
 intro pins s σ H Q I h
 exact isTrue_plain (thn (ha pins s σ H _ I h) fun v s1 ⟨x,H1,I1,r1,q1⟩=>tru_ok pins s1 σ H1 x v Q I1 r1 q1) (he _)
theorem op_add_str:OpR X (binaryOp .Add) (fun x y H Q=>∃ i j,x=.str i/\y=.str j/\i.length+j.length<=sizeLine/\Q (.str (i++j)) H):=by
 intro pins s σ H x y v u Q I rx ry h
 obtain ⟨i,j,rfl,rfl,hz,q⟩:=h
 obtain ⟨t,rfl⟩:=rx
 obtain ⟨t',rfl⟩:=ry
 exact add_str (fun t' tk=>⟨.str (i++j),H,I.tok _,⟨_,rfl⟩,q⟩) hz
theorem vals1 {x:V} {us:List Value} (r:Vals [x] us):∃ u,us=[u]/\RelV x u:=by
 cases r with
 | cons r1 r2=>cases r2;exact ⟨_,rfl,r1⟩
theorem vals2 {x y:V} {us:List Value} (r:Vals [x,y] us):∃ u w',us=[u,w']/\RelV x u/\RelV y w':=by
 cases r with
 | cons r1 r2 =>
  cases r2 with
  | cons r3 r4=>cases r4;exact ⟨_,_,rfl,r1,r3⟩
theorem call_max2 (hc:X.calm=true):CallR X (.builtin "max") (fun xs H Q=>∃ i j,xs=[.int i,.int j]/\Q (.int (if j > i then j else i)) H):=by
 intro pins s σ H xs us Q I r h
 obtain ⟨i,j,rfl,q⟩:=h
 obtain ⟨u,w',rfl,⟨t,rfl⟩,⟨t',rfl⟩⟩:=vals2 r
 refine max_two_ints (I.ok.hd hc) fun h' tk k=>⟨_,H,I.kept k,?_,q⟩
 by_cases hj:j > i
 ·rw [if_pos hj,if_pos hj];exact ⟨_,rfl⟩
 ·rw [if_neg hj,if_neg hj];exact ⟨_,rfl⟩
theorem call_min2 (hc:X.calm=true):CallR X (.builtin "min") (fun xs H Q=>∃ i j,xs=[.int i,.int j]/\Q (.int (if j < i then j else i)) H):=by
 intro pins s σ H xs us Q I r h
 obtain ⟨i,j,rfl,q⟩:=h
 obtain ⟨u,w',rfl,⟨t,rfl⟩,⟨t',rfl⟩⟩:=vals2 r
 refine min_two_ints (I.ok.hd hc) fun h' tk k=>⟨_,H,I.kept k,?_,q⟩
 by_cases hj:j < i
 ·rw [if_pos hj,if_pos hj];exact ⟨_,rfl⟩
 ·rw [if_neg hj,if_neg hj];exact ⟨_,rfl⟩
theorem call_int1:CallR X (.type "int") (fun xs H Q=>(∃ i,xs=[.int i]/\Q (.int i) H)\/∃ k,xs=[.bl k]/\Q (.int (if k then 1 else 0)) H):=by
 intro pins s σ H xs us Q I r h
 rcases h with ⟨i,rfl,q⟩ | ⟨k,rfl,q⟩
 ·obtain ⟨u,rfl,t,rfl⟩:=vals1 r
  exact call_int_int ⟨.int i,H,I,⟨_,rfl⟩,q⟩
 ·obtain ⟨u,rfl,r1⟩:=vals1 r
  cases r1
  exact call_int_bool ⟨.int (if k then 1 else 0),H,I.tok _,⟨_,rfl⟩,q⟩
theorem call_str_int:CallR X (.type "str") (fun xs H Q=>∃ i,xs=[.int i]/\i.natAbs.log2 < 1920/\Q (.str (toString i)) H):=by
 intro pins s σ H xs us Q I r h
 obtain ⟨i,rfl,hz,q⟩:=h
 obtain ⟨u,rfl,t,rfl⟩:=vals1 r
 exact PySem.P.str_of_int hz ⟨.str _,H,I.tok _,⟨_,rfl⟩,q⟩
end
structure ObjM (h:Heap) (x dx C:Addr) (mA:Str->Option Value):Prop where
 obj:h.get? x=some (PySem.W.instObj C dx)
 ns:h.Ns1 dx mA
 ne:dx≠x
theorem lookIn_ns {h:Heap} {dx:Addr} {mA:Str->Option Value} (n:h.Ns1 dx mA):∃ od,h.get? dx=some od/\∀ name,PySem.W.lookIn name od=some (mA name):=by
 obtain ⟨o,es,ep,ho,hd,hk,_,hm⟩:=n
 refine ⟨o,ho,fun name=>?_⟩
 have e:=hm name
 unfold nsFind findBy at e
 rw [<- Array.find?_toList] at e
 unfold PySem.W.lookIn
 rw [hd]
 dsimp only
 split
 ·rename_i y q
  rw [q] at e
  exact congrArg some e
 ·rename_i q
  rw [q] at e
  have a:es.toList.any (·.refKey)=false:=by
   rw [List.any_eq_false]
   intro y hy
   obtain ⟨z,t,hkey⟩:=hk y (Array.mem_toList_iff.mp hy)
   simp [DictEntry.refKey,hkey]
  have a':¬ es.toList.any (·.refKey)=true:=by rw [a];exact Bool.false_ne_true
  rw [if_neg a']
  exact congrArg some e
theorem ObjM.look {h:Heap} {x dx C:Addr} {mA:Str->Option Value} (I:ObjM h x dx C mA):∃ od,PySem.W.InstAt h x (PySem.W.instObj C dx) C (some od)/\∀ name,PySem.W.lookIn name od=some (mA name) :=
 let ⟨od,ho,hl⟩:=lookIn_ns I.ns
 ⟨od,⟨I.obj,rfl,rfl,ho⟩,hl⟩
section
variable {prog:Program} {w:World} {A:Around} {E:Value->Shared->Prop} {s:Shared} {K:PySem.W.Frag} {x dx C f:Addr} {mA:Str->Option Value} {name:Str} {v:Value}
theorem get_map {expr:Bool} {Q:Value->Shared->Prop} (X:K.In s.heap) (I:ObjM s.heap x dx C mA) (hg:PySem.W.plainGet K C name=true) (hh:PySem.W.hasDictIn K C=true)
  (ha:W.findIn K (.ref C) name=some none) (hv:mA name=some v) (hv':W.handedIn v=true) (h:Q v { s with toks:=s.toks+1 }) :
  wpAny (model prog w) A (getAttr (.ref x) name expr) Q E s:=by
 obtain ⟨od,J,hl⟩:=I.look
 exact PySem.W.get_value X J (PySem.W.plainGet_of hg).1 (PySem.W.findObj_own hh ha rfl (by rw [hl,hv])) hv' h
theorem get_meth {pl:Sem Bool} {Q:Value × List Value->Shared->Prop} (X:K.In s.heap) (I:ObjM s.heap x dx C mA) (hg:PySem.W.plainGet K C name=true)
  (hf:W.findIn K (.ref C) name=some (some (.ref f))) (ht:W.isFn K (.ref f)=true) (hv:mA name=none) (h:Q (.ref f,[.ref x]) s) :
  wpAny (model prog w) A (getMethod (.ref x) name pl) Q E s:=by
 obtain ⟨od,J,hl⟩:=I.look
 exact PySem.W.method_fn X J (PySem.W.plainGet_of hg).1 (PySem.W.plainGet_of hg).2 hf (beq_iff_eq.mp ht) (by show (PySem.W.lookIn name od).map (·.isSome)=some false;rw [hl,hv];rfl) h
theorem set_map {ns:List Str} {Q:Unit->Shared->Prop} (X:K.In s.heap) (I:ObjM s.heap x dx C mA)
  (hs:W.findIn K (.ref C) "__setattr__" = some (some (.builtin "object.__setattr__"))) (hp:W.plainOver K C=true) (ht:W.takerIn K C name=some none) (hh:W.hasDictIn K C=true)
  (hw:PySem.Within mA ns) (hsz:ns.length<=sizeLine)
  (h:∀ h',ObjM h' x dx C (fun y=>if y=name then some v else mA y)->Heap.SameBut dx s.heap h'->Q () { s with heap:=h',toks:=s.toks+2 }) :
  wpAny (model prog w) A (setAttr (.ref x) name v) Q E s:=by
 obtain ⟨od,J,hl⟩:=I.look
 refine PySem.W.set_plain X J hs (PySem.W.osa_open (s:={ s with toks:=s.toks+1 }) (r:=none) X J hp ht fun b=>?_)
 obtain ⟨cd,hc,hd'⟩:=PySem.W.any_some hh
 have hx:s.heap.get? x=some ⟨.ref C,some dx,.plain,#[]⟩:=I.obj
 refine wpAny_bind (wpAny_pure (wpAny_bind (wpAny_bind (wpAny_loadPart hx (wpAny_bind (PySem.W.Looks.here (s:={ s with toks:=s.toks+1 }) (PySem.W.looks_clsIn X hc) ?_))))))
 rw [hd']
 refine wpAny_pure (a:=some dx) (wpAny_bind (wpAny_pure (wpAny_bind ?_)))
 refine wpAny_nsSet1 (s:={ s with toks:=s.toks+1 }) I.ns fun h' hn2 hs2=>?_
 obtain ⟨oD,esD,epD,hoD,hdD,hcD⟩:=hn2.count (PySem.Within.cons name v hw)
 refine wpAny_bind (wpAny_lookBehind hoD (by rw [hdD];exact pastItsLine_dict (Nat.le_trans hcD (by rw [List.length_cons];omega))) ?_)
 exact wpAny_pure (h _ ⟨(hs2.2 _ (Ne.symm I.ne)).trans I.obj,hn2,I.ne⟩ hs2)
theorem make_map {R:Result->Shared->Prop} {vs:List Value} {kw:List (Str × Value)} (X:K.In s.heap) (hm:PySem.W.makesIn K C=true)
  (hi:W.findIn K (.ref C) "__init__" = some (some (.ref f))) (hf:W.typeIn K (.ref f)=some (.type "function"))
  (h:codeAny (model prog w) (A.under (.builtin "type.__call__" ⟨.ref C::vs,kw⟩)) (.call (.ref f) ⟨.ref (s.heap.objs.size+1)::vs,kw⟩) (PySem.W.InitBack (s.heap.objs.size+1) R)
   { s with heap:=(s.heap.push PySem.W.emptyDict).push (PySem.W.instObj C s.heap.objs.size) }) :
  codeAny (model prog w) A (.call (.ref C) ⟨vs,kw⟩) R s:=by
 obtain ⟨hh,g,d,t,os⟩:=s
 exact PySem.W.make_core (PySem.W.makes_of X hm) (PySem.W.looks_findIn X hi) (fun self=>PySem.W.bind_fn X self hf) (.inl rfl) h
end
def putF (f:Str) (v:V):List (Str × V)->List (Str × V)
 | []=>[(f,v)]
 | (g,x)::r=>if g=f then (g,v)::r else (g,x)::putF f v r
theorem lookup_putF (f g:Str) (v:V):∀ fs:List (Str × V),(putF f v fs).lookup g=if g=f then some v else fs.lookup g
 | []=>by
  show List.lookup g [(f,v)]=_
  by_cases h:g=f
  ·have hb:(g == f)=true:=beq_iff_eq.mpr h
   simp only [List.lookup,hb,if_pos h]
  ·have hb:(g == f)=false:=beq_eq_false_iff_ne.mpr h
   simp only [List.lookup,hb,if_neg h]
 | (k,x)::r=>by
  have ih:=lookup_putF f g v r
  rw [show putF f v ((k,x)::r)=(if k=f then (k,v)::r else (k,x)::putF f v r) from rfl]
  by_cases hk:k=f
  ·rw [if_pos hk]
   by_cases h:g=k
   ·have hb:(g == k)=true:=beq_iff_eq.mpr h
    simp only [List.lookup,hb,if_pos (h.trans hk)]
   ·have hb:(g == k)=false:=beq_eq_false_iff_ne.mpr h
    simp only [List.lookup,hb,if_neg (fun e:g=f=>h (e.trans hk.symm))]
  ·rw [if_neg hk]
   by_cases h:g=k
   ·have hb:(g == k)=true:=beq_iff_eq.mpr h
    simp only [List.lookup,hb,if_neg (fun e:g=f=>hk (h.symm.trans e))]
   ·have hb:(g == k)=false:=beq_eq_false_iff_ne.mpr h
    simp only [List.lookup,hb]
    exact ih
theorem keys_putF (f:Str) (v:V):∀ fs:List (Str × V),f∈(putF f v fs).map (·.1)/\∀ g,g∈fs.map (·.1)->g∈(putF f v fs).map (·.1)
 | []=>⟨by simp [putF],fun g h=>by simp at h⟩
 | (k,x)::r=>by
  obtain ⟨i1,i2⟩:=keys_putF f v r
  rw [show putF f v ((k,x)::r)=(if k=f then (k,v)::r else (k,x)::putF f v r) from rfl]
  by_cases hk:k=f
  ·rw [if_pos hk]
   subst hk
   exact ⟨by simp,fun g h=>by simpa using h⟩
  ·rw [if_neg hk]
   refine ⟨?_,fun g h=>?_⟩
   ·rw [List.map_cons]
    exact List.mem_cons_of_mem _ i1
   ·rw [List.map_cons] at h ⊢
    rcases List.mem_cons.mp h with e | e
    ·exact List.mem_cons.mpr (.inl e)
    ·exact List.mem_cons_of_mem _ (i2 g e)
theorem length_putF (f:Str) (v:V):∀ fs:List (Str × V),(putF f v fs).length<=fs.length+1
 | []=>by simp [putF]
 | (k,x)::r=>by
  have ih:=length_putF f v r
  rw [show putF f v ((k,x)::r)=(if k=f then (k,v)::r else (k,x)::putF f v r) from rfl]
  by_cases hk:k=f
  ·rw [if_pos hk,List.length_cons,List.length_cons];omega
  ·rw [if_neg hk,List.length_cons,List.length_cons];omega
theorem RelO.some_of {v:V} {o:Option Value} (r:RelO (some v) o):∃ u,o=some u/\RelV v u:=by
 cases o with
 | none=>exact (show False from r).elim
 | some u=>exact ⟨u,rfl,r⟩
theorem RelO.none_of {o:Option Value} (r:RelO none o):o=none:=by
 cases o with
 | none=>rfl
 | some u=>exact (show False from r).elim
theorem handed_of {v:V} {u:Value} (r:RelV v u):PySem.W.handedIn u=true:=by
 cases v with
 | non=>cases (show u=Value.none from r);rfl
 | bl b=>cases (show u=Value.bool b from r);rfl
 | int i=>obtain ⟨t,e⟩:=(show ∃ t,u=Value.int i t from r);cases e;rfl
 | str x=>obtain ⟨t,e⟩:=(show ∃ t,u=Value.str x t from r);cases e;rfl
 | byt b=>obtain ⟨t,e⟩:=(show ∃ t,u=Value.bytes b t from r);cases e;rfl
 | flt b=>obtain ⟨t,e⟩:=(show ∃ t,u=Value.float b t from r);cases e;rfl
 | ref a=>cases (show u=Value.ref a from r);rfl
 | ty n=>cases (show u=Value.type n from r);rfl
section
variable {P:Program} {w:World} {H H':Hp} {h h':Heap} {a C dx:Addr} {fs fs':List (Str × V)}
theorem ins_get (hok:HOk P w H h) (e:H a=some (.ins C dx fs)):∃ mA,ObjM h a dx C mA/\(∀ f,RelO (fs.lookup f) (mA f))/\PySem.Within mA (fs.map (·.1))/\fs.length<=1000/\H dx=some (.own a):=by
 obtain ⟨d,z,ne,ob,mA,n,r,q⟩:=(show ObjOk P w H h a (.ins C dx fs) from hok a _ e)
 exact ⟨mA,⟨ob,n,ne⟩,r,q,z,d⟩
end
structure Cls (K:PySem.W.Frag) (C:Addr):Prop where
 pg:PySem.W.plainGet K C Str.empty=true
 hd:PySem.W.hasDictIn K C=true
 po:PySem.W.plainOver K C=true
 sa:PySem.W.findIn K (.ref C) "__setattr__" = some (some (.builtin "object.__setattr__"))
theorem Cls.get {K:PySem.W.Frag} {C:Addr} (c:Cls K C) (f:Str):PySem.W.plainGet K C f=true:=c.pg
def NoAttr (K:PySem.W.Frag) (C:Addr) (f:Str):Prop:=PySem.W.findIn K (.ref C) f=some none
theorem NoAttr.taker {K:PySem.W.Frag} {C:Addr} {f:Str} (n:NoAttr K C f):PySem.W.takerIn K C f=some none:=by
 unfold PySem.W.takerIn
 rw [show PySem.W.findIn K (.ref C) f=some none from n]
 rfl
structure Meth (K:PySem.W.Frag) (C:Addr) (m:Str) (f:Addr):Prop where
 at_:PySem.W.findIn K (.ref C) m=some (some (.ref f))
 fn:PySem.W.isFn K (.ref f)=true
 kp:PySem.W.keepIn K (.ref f)=true
section
variable {X:Cx} {pins:List (Addr × Obj)} {σ:St} {H:Hp} {s:Shared} {a C dx:Addr} {fs:List (Str × V)} {f:Str} {v:V} {A:Around} {E:Value->Shared->Prop}
theorem getattr_ok {b:Bool} {Q:Value->Shared->Prop} (I:Inv X pins σ H s) (e:H a=some (.ins C dx fs)) (c:Cls X.K C) (n:NoAttr X.K C f) (l:fs.lookup f=some v)
  (h:∀ u s',Inv X pins σ H s'->RelV v u->Q u s'):wpAny (model X.prog X.w) A (getAttr (.ref a) f b) Q E s:=by
 obtain ⟨mA,O,r,_,_,_⟩:=ins_get I.hok e
 obtain ⟨u,hu,ru⟩:=RelO.some_of (v:=v) (o:=mA f) (by rw [<- l];exact r f)
 exact get_map I.kIn O (c.get f) c.hd n hu (handed_of ru) (h u _ (I.tok _) ru)
theorem getmeth_ok {m:Str} {g:Addr} {pl:Sem Bool} {Q:Value × List Value->Shared->Prop} (I:Inv X pins σ H s) (e:H a=some (.ins C dx fs)) (c:Cls X.K C) (k:Meth X.K C m g) (l:fs.lookup m=none)
  (h:Q (.ref g,[.ref a]) s):wpAny (model X.prog X.w) A (getMethod (.ref a) m pl) Q E s:=by
 obtain ⟨mA,O,r,_,_,_⟩:=ins_get I.hok e
 have hn:mA m=none:=RelO.none_of (by rw [<- l];exact r m)
 exact get_meth I.kIn O (c.get m) k.at_ k.fn hn h
theorem setattr_ok {y:V} {u:Value} {Q:Unit->Shared->Prop} (I:Inv X pins σ H s) (e:H a=some (.ins C dx fs)) (c:Cls X.K C) (n:NoAttr X.K C f) (hl:fs.length < 1000) (ry:RelV y u)
  (h:∀ s',Inv X pins σ (upd H a (.ins C dx (putF f y fs))) s'->Q () s'):wpAny (model X.prog X.w) A (setAttr (.ref a) f u) Q E s:=by
 obtain ⟨mA,O,r,wi,_,ho⟩:=ins_get I.hok e
 have hz:(fs.map (·.1)).length<=sizeLine:=by rw [List.length_map,sizeLine_eq];omega
 refine set_map I.kIn O c.sa c.po n.taker c.hd wi hz fun h' O' sb=>h _ ?_
 have hd:∃ o,h'.get? dx=some o:=let ⟨o,_,_,e',_⟩:=O'.ns;⟨o,e'⟩
 refine I.write (x:=a) (e:=dx) (by rw [e];exact True.intro) (.inr ho) (fun b q hb z=>(sb.2 b hb).trans z) hd ?_
 refine ⟨by rw [upd_ne O.ne];exact ho,?_,O.ne,O'.obj,_,O'.ns,fun g=>?_,fun g hg=>?_⟩
 ·have:=length_putF f y fs;omega
 ·show RelO ((putF f y fs).lookup g) (if g=f then some u else mA g)
  rw [lookup_putF]
  by_cases q:g=f
  ·rw [if_pos q,if_pos q];exact ry
  ·rw [if_neg q,if_neg q];exact r g
 ·by_cases q:g=f
  ·rw [q];exact (keys_putF f y fs).1
  ·refine (keys_putF f y fs).2 g (wi g fun z=>hg ?_)
   show (if g=f then some u else mA g)=none
   rw [if_neg q];exact z
theorem Inv.made (I:Inv X pins σ H s):Inv X pins σ (upd (upd H s.heap.objs.size (.own (s.heap.objs.size+1))) (s.heap.objs.size+1) (.ins C s.heap.objs.size []))
  { s with heap:=(s.heap.push PySem.W.emptyDict).push (PySem.W.instObj C s.heap.objs.size) }:=by
 have e1:(s.heap.push PySem.W.emptyDict).get? s.heap.objs.size=some PySem.W.emptyDict:=Heap.get?_push_size s.heap rfl
 have e2:((s.heap.push PySem.W.emptyDict).push (PySem.W.instObj C s.heap.objs.size)).get? (s.heap.objs.size+1)=some (PySem.W.instObj C s.heap.objs.size):=by
  have:=Heap.get?_push_size (s.heap.push PySem.W.emptyDict) (o:=PySem.W.instObj C s.heap.objs.size) rfl
  rwa [Heap.size_push] at this
 have e3:(s.heap.push PySem.W.emptyDict).Ns s.heap.objs.size (fun _=>none):=⟨PySem.W.emptyDict,#[],_,e1,rfl,(fun e he=>absurd he (by simp)),fun _=>rfl⟩
 have I1:=I.laid (a:=s.heap.objs.size) (o:=.own (s.heap.objs.size+1)) (h':=s.heap.push PySem.W.emptyDict) (t':=s.toks) (fun b u q=>Heap.get?_push_of_some _ q) (Nat.le_refl _) ⟨_,e1⟩
 refine I1.laid (a:=s.heap.objs.size+1) (o:=.ins C s.heap.objs.size []) (t':=s.toks) (fun b u q=>Heap.get?_push_of_some _ q) (Nat.le_of_eq (Heap.size_push _ _)) ?_
 have ne:s.heap.objs.size≠s.heap.objs.size+1:=Nat.ne_of_lt (Nat.lt_succ_self _)
 refine ⟨by rw [upd_ne ne,upd_same],Nat.zero_le _,ne,e2,fun _=>none,(Heap.Ns1.of_empty e3).at fun o q=>Heap.get?_push_of_some _ q,fun _=>True.intro,fun y hy=>absurd rfl hy⟩
theorem attr_of {prog:Program} {w:World} {env:Env} {e:Expr} {f:Str} {pos:Pos} {s:Shared} {Q:Value->Shared->Prop} (hb:attributeBase e f env (eval e env)=eval e env)
  (h:wpAny (model prog w) A (eval e env) (fun o s₁=>wpAny (model prog w) A (getAttr o f true) Q E s₁) E s):wpAny (model prog w) A (eval (.Attribute e f pos) env) Q E s :=
 Attribute_any_ h (by rw [arm_eval_Attribute,hb])
end
def tFld (K:PySem.W.Frag) (ta:TE) (f:Str):TE:=fun σ H Q=>ta σ H fun x H1=>∃ a C dx fs v,x=.ref a/\H1 a=some (.ins C dx fs)/\Cls K C/\NoAttr K C f/\fs.lookup f=some v/\Q v H1
def sFld (K:PySem.W.Frag) (ta tv:TE) (f:Str):TS:=fun D σ H=>tv σ H fun y H1=>ta σ H1 fun x H2=>∃ a C dx fs,x=.ref a/\H2 a=some (.ins C dx fs)/\Cls K C/\NoAttr K C f/\fs.length < 1000 /\
 D.nx σ (upd H2 a (.ins C dx (putF f y fs)))
section
variable {X:Cx} {o e value:Expr} {f:Str} {pos pos' tpos:Pos} {ta tv:TE}
theorem pe_fld (he:PE X e ta) (hb:attributeBase e f X.env (eval e X.env)=eval e X.env):PE X (.Attribute e f pos) (tFld X.K ta f):=by
 intro pins s σ H Q I h
 refine attr_of hb (thn (he pins s σ H _ I h) fun u s1 ⟨x,H1,I1,rx,a,C,dx,fs,v,ex,ea,c,n,l,q⟩=>?_)
 subst ex
 obtain rfl:u=Value.ref a:=rx
 exact getattr_ok I1 ea c n l fun u' s2 I2 ru=>⟨v,H1,I2,ru,q⟩
theorem ps_fld (ha:PE X o ta) (hv:PE X value tv) (hs:swapsWith value (some (.Attribute o f pos')) pos.line X.env=pure false):PS X (.Assign [.Attribute o f pos'] value pos) (sFld X.K ta tv f):=by
 intro pins s σ H D I h
 refine plainObj_wpAny_Assign_Attribute (thn (hv pins s σ H _ I h) fun u s1 ⟨y,H1,I1,ry,q⟩=>thn (ha pins s1 σ H1 _ I1 q) fun ov s2 ⟨x,H2,I2,rx,a,C,dx,fs,ex,ea,c,n,l,q2⟩=>?_) hs
 subst ex
 obtain rfl:ov=Value.ref a:=rx
 exact setattr_ok I2 ea c n l ry fun s3 I3=>⟨σ,_,I3,q2⟩
end
section
variable {X:Cx} {pins:List (Addr × Obj)} {σ:St} {H:Hp} {s:Shared} {A:Around} {E:Value->Shared->Prop} {Q:Value->Shared->Prop} {c:Value} {b:Bool}
inductive TyOf (K:PySem.W.Frag) (H:Hp):V->Value->Prop where
 | non:TyOf K H .non (.type "NoneType")
 | bl (x:Bool):TyOf K H (.bl x) (.type "bool")
 | int (i:Int):TyOf K H (.int i) (.type "int")
 | str (x:Str):TyOf K H (.str x) (.type "str")
 | flt (x:UInt64):TyOf K H (.flt x) (.type "float")
 | lst {a:Addr} {xs:List V} (e:H a=some (.lst xs)):TyOf K H (.ref a) (.type "list")
 | frz {a:Addr} {o:Obj} {xs:List V} (e:H a=some (.frz o (.lst xs))):TyOf K H (.ref a) (.type "list")
 | tup {a:Addr} {xs:List V} (e:H a=some (.tup xs)):TyOf K H (.ref a) (.type "tuple")
 | dK {a:Addr} {kvs:List (Key × V)} (e:H a=some (.dK kvs)):TyOf K H (.ref a) (.type "dict")
 | dT {a:Addr} {kvs:List (List Key × V)} (e:H a=some (.dT kvs)):TyOf K H (.ref a) (.type "dict")
 | ins {a C dx:Addr} {fs:List (Str × V)} (e:H a=some (.ins C dx fs)) (cl:Cls K C) (ha:PySem.W.findIn K (.ref C) "__class__" = some (some (.builtin "object.__class__")))
   (hn:PySem.W.specialIn K (.builtin "object.__class__") "__get__" = some (some (.builtin "getset_descriptor.__get__"))) (htk:PySem.W.takesIn K (.builtin "object.__class__")=some true)
   (hm:PySem.W.mroIn K C (.type "object")=some true):TyOf K H (.ref a) (.ref C)
theorem isinst_ok {x:V} {u t:Value} (I:Inv X pins σ H s) (rx:RelV x u) (ty:TyOf X.K H x t) (e:PySem.W.kitOne X.K t c=some b) (h:∀ tk,Q (.bool b) { s with toks:=tk }) :
  wpAny (model X.prog X.w) A (call (.builtin "isinstance") [u,c]) Q E s:=by
 cases ty with
 | non=>cases (show u=Value.none from rx);exact PySem.W.kia_one PySem.W.kitx_none I.kIn True.intro e (fun z=>nomatch z) h
 | bl y=>cases (show u=Value.bool y from rx);exact PySem.W.kia_one PySem.W.kitx_bool I.kIn True.intro e (fun z=>nomatch z) h
 | int i=>obtain ⟨t,q⟩:=(show ∃ t,u=Value.int i t from rx);cases q;exact PySem.W.kia_one PySem.W.kitx_int I.kIn True.intro e (fun z=>nomatch z) h
 | str y=>obtain ⟨t,q⟩:=(show ∃ t,u=Value.str y t from rx);cases q;exact PySem.W.kia_one PySem.W.kitx_str I.kIn True.intro e (fun z=>nomatch z) h
 | flt y=>obtain ⟨t,q⟩:=(show ∃ t,u=Value.float y t from rx);cases q;exact PySem.W.kia_one PySem.W.kitx_float I.kIn True.intro e (fun z=>nomatch z) h
 | @lst a xs ea =>
  cases (show u=Value.ref a from rx)
  obtain ⟨_,_,n,_,h1⟩:=(show ObjOk X.prog X.w H s.heap a (.lst xs) from I.hok a _ ea)
  exact PySem.W.kia_one PySem.W.kitx_list I.kIn ⟨_,h1,rfl⟩ e (fun z=>nomatch z) h
 | @frz a ob xs ea =>
  cases (show u=Value.ref a from rx)
  obtain ⟨_,_,_,n,_,h1⟩:=(show ObjOk X.prog X.w H s.heap a (.frz ob (.lst xs)) from I.hok a _ ea)
  exact PySem.W.kia_one PySem.W.kitx_list I.kIn ⟨_,h1,rfl⟩ e (fun z=>nomatch z) h
 | @tup a xs ea =>
  cases (show u=Value.ref a from rx)
  obtain ⟨_,_,_,p⟩:=(show ObjOk X.prog X.w H s.heap a (.tup xs) from I.hok a _ ea)
  obtain ⟨o,h1,h2,_⟩:=p
  exact PySem.W.kia_one PySem.W.kitx_tuple I.kIn ⟨o,h1,h2⟩ e (fun z=>nomatch z) h
 | @dK a kvs ea =>
  cases (show u=Value.ref a from rx)
  obtain ⟨_,_,vs,_,p⟩:=(show ObjOk X.prog X.w H s.heap a (.dK kvs) from I.hok a _ ea)
  obtain ⟨o,es,ep,h1,h2,_⟩:=p
  exact PySem.W.kia_one PySem.W.kitx_dict I.kIn ⟨o,h1,h2.1⟩ e (fun z=>nomatch z) h
 | @dT a kvs ea =>
  cases (show u=Value.ref a from rx)
  obtain ⟨_,_,xs,_,o,es,ep,h1,h2,_⟩:=(show ObjOk X.prog X.w H s.heap a (.dT kvs) from I.hok a _ ea)
  exact PySem.W.kia_one PySem.W.kitx_dict I.kIn ⟨o,h1,h2.1⟩ e (fun z=>nomatch z) h
 | @ins a C dx fs ea cl ha hn htk hm =>
  cases (show u=Value.ref a from rx)
  obtain ⟨mA,O,_⟩:=ins_get I.hok ea
  obtain ⟨od,J,_⟩:=O.look
  exact PySem.W.kia_one (PySem.W.kitx_own (cl.get _) cl.hd ha hn htk hm) I.kIn J e (fun z=>nomatch z) h
end
structure Room (k:Nat) (A:Around):Prop where
 hd:A.handled=none
 dp:A.depth+3 * k+5 < recursionLimit
 un:A.units+16 * k+200 < cLine
 gd:A.guards=some []
theorem Room.mono {j k:Nat} {A:Around} (r:Room k A) (h:j<=k):Room j A:=⟨r.hd,by have:=r.dp;omega,by have:=r.un;omega,r.gd⟩
theorem Room.deeper {k:Nat} {A:Around} (r:Room (k+1) A) (env:Env):Room k (A.deeper env) :=
 ⟨r.hd,by have:=r.dp;show A.depth+1+3 * k+5 < _;omega,by have:=r.un;show A.units+3+16 * k+200 < _;omega,r.gd⟩
theorem make_guards {A:Around} {C:Addr} {us:List Value} {kw:List (Str × Value)} (h:A.guards=some []):(A.under (.builtin "type.__call__" ⟨.ref C::us,kw⟩)).guards=some []:=by
 have e:(Code.builtin "type.__call__" ⟨.ref C::us,kw⟩).isGuard=false:=by first | rfl | simp [Code.isGuard,guardIds]
 have q:∀ c:Code,(A.under c).guards=pushGuards c.guards A.guards:=fun _=>rfl
 rw [q,h,Code.guards,e]
 rfl
theorem make_depth {A:Around} {C:Addr} {us:List Value} {kw:List (Str × Value)}:(A.under (.builtin "type.__call__" ⟨.ref C::us,kw⟩)).depth=A.depth+1:=by
 first | rfl | simp [Around.under,Code.weight,Code.isCreation,Code.isGuard,Code.isCaller,Code.frames,Code.isFrame,guardIds]
theorem make_units {A:Around} {C:Addr} {us:List Value} {kw:List (Str × Value)}:(A.under (.builtin "type.__call__" ⟨.ref C::us,kw⟩)).units=A.units+1:=by
 first | rfl | simp [Around.under,Code.cUnits,Code.frames,Code.isFrame]
theorem Room.make {k:Nat} {A:Around} (r:Room (k+1) A) (C:Addr) (us:List Value) (kw:List (Str × Value)):Room k (A.under (.builtin "type.__call__" ⟨.ref C::us,kw⟩)) :=
 ⟨r.hd,by have:=r.dp;rw [make_depth];omega,by have:=r.un;rw [make_units];omega,make_guards r.gd⟩
theorem Room.depth {k:Nat} {A:Around} (r:Room k A):A.depth < recursionLimit:=by have:=r.dp;omega
theorem Room.units {k:Nat} {A:Around} (r:Room k A):A.units+64 < cLine:=by have:=r.un;omega
def tNil:TA:=fun _ H Q=>Q [] H
def tCons (ta:TE) (tr:TA):TA:=fun σ H Q=>ta σ H fun x H1=>tr σ H1 fun xs H2=>Q (x::xs) H2
section
variable {X:Cx} {e:Expr} {es:List Expr} {te:TE} {t:TA} {pos:Pos}
theorem pa_nil:PA X [] tNil:=fun _ _ _ _ H Q I h=>Calls.spliced_nil ⟨[],H,I,.nil,h⟩
theorem pa_cons (ha:PE X e te) (hr:PA X es t) (hs:starEach (e::es) X.env=(false,eval e X.env)::starEach es X.env:=by rfl):PA X (e::es) (tCons te t):=by
 intro pos pins s σ H Q I h
 rw [hs]
 show wpAny _ _ (spliced ((false,eval e X.env)::backTo pos (starEach es X.env))) _ _ s
 refine Calls.spliced_cons (thn (ha pins s σ H _ I h) fun u s1 ⟨x,H1,I1,r1,q1⟩=>?_)
 exact thn (hr pos pins s1 σ H1 _ I1 q1) fun us s2 ⟨xs,H2,I2,r2,q2⟩=>⟨x::xs,H2,I2,.cons r1 r2,q2⟩
def tTup (t:TA):TE:=fun σ H Q=>t σ H fun xs H1=>xs.length<=sizeLine/\∀ p,H1 p=none->Q (.ref p) (upd H1 p (.tup xs))
def tLst (t:TA):TE:=fun σ H Q=>t σ H fun xs H1=>xs.length<=sizeLine/\∀ p,H1 p=none->Q (.ref p) (upd H1 p (.lst xs))
theorem pe_tup {x1} (h:PA X es t):PE X (.Tuple es x1 pos) (tTup t):=by
 intro pins s σ H Q I hq
 refine wpAny_Tuple_spliced (thn (h pos pins s σ H _ I hq) fun us s1 ⟨xs,H1,I1,r,z,q⟩=>⟨by rw [<- r.length];exact z,?_⟩)
 have hf:H1 s1.heap.objs.size=none:=I1.hok.fresh (Nat.le_refl _)
 refine ⟨.ref s1.heap.objs.size,upd H1 s1.heap.objs.size (.tup xs),I1.laid (t':=s1.toks) (fun b u e=>Heap.get?_push_of_some _ e) (Nat.le_refl _) ?_,rfl,q _ hf⟩
 exact ⟨z,us,r,⟨_,Heap.get?_push_size _ rfl,rfl,_,rfl⟩⟩
theorem pe_lst (h:PA X es t):PE X (.List es pos) (tLst t):=by
 intro pins s σ H Q I hq
 refine wpAny_List_spliced (thn (h pos pins s σ H _ I hq) fun us s1 ⟨xs,H1,I1,r,z,q⟩=>⟨by rw [<- r.length];exact z,?_⟩)
 have hf:H1 s1.heap.objs.size=none:=I1.hok.fresh (Nat.le_refl _)
 refine ⟨.ref s1.heap.objs.size,upd H1 s1.heap.objs.size (.lst xs),I1.laid (t':=s1.toks) (fun b u e=>Heap.get?_push_of_some _ e) (Nat.le_refl _) ?_,rfl,q _ hf⟩
 exact ⟨z,us,0,r,Heap.get?_push_size _ rfl⟩
end
abbrev Sp:=List V->Hp->VK->XK->Prop
abbrev CXT:=List Env->Hp->Shared->XK->Value->Shared->Prop
structure Env0 (P:Program) (w:World) (K:PySem.W.Frag) (mg:Str->Option Value) (base:Heap) (A:Around) (outer:List Env) (s:Shared) (H:Hp):Prop where
 frames:A.frames=some outer
 mod:Mod K mg base
 bs:∀ b o,base.get? b=some o->s.heap.get? b=some o/\H b=none
 bsz:base.objs.size<=s.heap.objs.size
 funs:s.heap.FunFrames base outer
 frf:∀ b∈frs outer,H b=none
 hok:HOk P w H s.heap
 bare:AllBare s.gens
def CE (outer:List Env) (P:Program) (w:World) (H:Hp) (s:Shared) (Q:VK) (u:Value) (s':Shared):Prop :=
 ∃ v H',s'.os=s.os/\AllBare s'.gens/\Un (frs outer) [] H H' s.heap s'.heap/\HOk P w H' s'.heap/\RelV v u/\Q v H'
def CR (CX:CXT) (outer:List Env) (P:Program) (w:World) (H:Hp) (s:Shared) (Q:VK) (E:XK) (r:Result) (s':Shared):Prop :=
 match r with
 | .ok (.ret u)=>CE outer P w H s Q u s'
 | .ok _=>False
 | .error e=>CX outer H s E e s'
structure FnOk (P:Program) (w:World) (K:PySem.W.Frag) (mg:Str->Option Value) (base:Heap) (CX:CXT) (k:Nat) (f:Addr) (fd:FuncData) (ps:List Str) (sp:Sp):Prop where
 len:∀ vs H Q E,sp vs H Q E->vs.length=ps.length
 run:∀ (A:Around) (outer:List Env) (s:Shared) (H:Hp) (args:Args) (us:List Value) (vs:List V) (Q:VK) (E:XK),Room k A->Env0 P w K mg base A outer s H->BindsTo s fd args (ps.zip us)->Vals vs us->sp vs H Q E ->
  codeAny (model P w) A (.call (.ref f) args) (CR CX outer P w H s Q E) s
theorem Env0.make {P:Program} {w:World} {K:PySem.W.Frag} {mg:Str->Option Value} {base:Heap} {A:Around} {outer:List Env} {s:Shared} {H:Hp} (e:Env0 P w K mg base A outer s H) (C:Addr) (us:List Value) (kw:List (Str × Value)) :
  Env0 P w K mg base (A.under (.builtin "type.__call__" ⟨.ref C::us,kw⟩)) outer s H:=⟨by first | exact e.frames | (simpa [Around.under,Code.envs,Code.isFrame,pushEnvs] using e.frames),e.mod,e.bs,e.bsz,e.funs,e.frf,e.hok,e.bare⟩
section
variable {X:Cx} {pins:List (Addr × Obj)} {σ:St} {H:Hp} {s s':Shared}
theorem Inv.env0 (I:Inv X pins σ H s):Env0 X.prog X.w X.K X.mg X.base X.A X.stack s H :=
 ⟨I.ok.frames,I.ok.mod,I.bs,Nat.le_trans I.ok.bsz I.sz,I.stack,I.stkFree,I.hok,I.bare⟩
theorem Inv.after {Q:VK} {u:Value} (I:Inv X pins σ H s) (h:CE X.stack X.prog X.w H s Q u s'):EP X pins σ Q u s':=by
 obtain ⟨v,H',os,bare,un,hok,r,q⟩:=h
 obtain ⟨hh,g,d,t,os'⟩:=s'
 obtain rfl:os'=s.os:=os
 exact ⟨v,H',I.call (h':=hh) (g':=g) (d':=d) (t':=t) (ch:=[]) un hok bare (fun b z=>absurd z (by simp)),r,q⟩
end
def tCall (sp:Sp) (dvs:List V) (E:XK) (t:TA):TE:=fun σ H Q=>t σ H fun vs H1=>sp (vs++dvs) H1 Q E
def tMeth (C:Addr) (m:Str) (sp:Sp) (dvs:List V) (E:XK) (ta:TE) (t:TA):TE:=fun σ H Q=>ta σ H fun x H1=>∃ a dx fs,x=.ref a/\H1 a=some (.ins C dx fs)/\fs.lookup m=none /\
 t σ H1 fun vs H2=>sp (x::(vs++dvs)) H2 Q E
def tMake (C:Addr) (sp:Sp) (dvs:List V) (E:XK) (t:TA):TE:=fun σ H Q=>t σ H fun vs H1=>∀ x dx,H1 x=none->H1 dx=none->dx≠x ->
 sp (.ref x::(vs++dvs)) (upd (upd H1 dx (.own x)) x (.ins C dx [])) (fun v H2=>v=.non/\Q (.ref x) H2) E
def Binds (K:PySem.W.Frag) (fd:FuncData) (ps:List Str) (ds:List Value):Prop :=
 ∀ (s:Shared) (us:List Value),K.In s.heap->(us++ds).length=ps.length->BindsTo s fd ⟨us,[]⟩ (ps.zip (us++ds))
theorem Binds.all {K:PySem.W.Frag} {fd:FuncData} {ps:List Str} (h:∀ us:List Value,us.length=ps.length->bindArgs fd ⟨us,[]⟩=pure (ps.zip us)):Binds K fd ps []:=fun s us _ hl=>by
 rw [List.append_nil] at hl ⊢
 exact .of_eq (h us hl)
def Passes (CX:CXT) (X:Cx) (E:XK):Prop:=∀ (pins:List (Addr × Obj)) (σ:St) (H:Hp) (s:Shared) (e:Value) (s':Shared),Inv X pins σ H s->CX X.stack H s E e s'->X.xe e s'
section
variable {X:Cx} {CX:CXT} {k:Nat} {f C:Addr} {fd:FuncData} {ps:List Str} {sp:Sp} {dvs:List V} {ds:List Value} {E:XK} {x m:Str} {p pos apos:Pos} {e o:Expr} {es:List Expr} {ta:TE} {t:TA}
theorem run_fn {pins:List (Addr × Obj)} {σ:St} {H:Hp} {s:Shared} {Q:VK} {us:List Value} {vs:List V} (F:FnOk X.prog X.w X.K X.mg X.base CX k f fd ps sp) (hr:Room k X.A) (hb:Binds X.K fd ps ds) (hd:Vals dvs ds) (hx:Passes CX X E)
  (I:Inv X pins σ H s) (r:Vals vs us) (h:sp (vs++dvs) H Q E):wpAny (model X.prog X.w) X.A (call (.ref f) us) (EP X pins σ Q) X.xe s:=by
 have r2:Vals (vs++dvs) (us++ds):=r.append hd
 have hl:(us++ds).length=ps.length:=by rw [<- r2.length];exact F.len _ _ _ _ h
 refine wpAny_call (codeAny_mono (F.run X.A X.stack s H ⟨us,[]⟩ (us++ds) (vs++dvs) Q E hr I.env0 (hb s us I.kIn hl) r2 h) fun r s' hq=>?_)
 cases r with
 | error e=>exact hx pins σ H s e s' I hq
 | ok fl =>
  cases fl with
  | ret u=>exact I.after hq
  | next=>exact False.elim hq
  | brk=>exact False.elim hq
  | cont=>exact False.elim hq
theorem pe_call (F:FnOk X.prog X.w X.K X.mg X.base CX k f fd ps sp) (hr:Room k X.A) (hg:Gl X x) (hm:X.mg x=some (.ref f)) (hk:PySem.W.keepIn X.K (.ref f)=true) (hb:Binds X.K fd ps ds) (hd:Vals dvs ds) (hx:Passes CX X E)
  (ha:PA X (e::es) t) (hdb:(x == ("__debug__" : Str))=false:=by decide) (he:starEach (e::es) X.env=(false,eval e X.env)::starEach es X.env:=by rfl) (hpl:(backTo pos (starEach es X.env)).any (·.1)=false:=by rfl) :
  PE X (.Call (.Name x p) (e::es) [] pos) (tCall sp dvs E t):=by
 intro pins s σ H Q I h
 refine wpAny_Call_Name_kw (ld_glob I hg hm ?_ hdb)
 refine PySem.W.callWith_K (h₀:=X.base) I.ok.mod.kin hk (thn (ha pos pins s σ H _ I h) fun us s1 ⟨vs,H1,I1,r,q⟩=>⟨I1.kIn,?_⟩) he hpl
 exact run_fn F hr hb hd hx I1 r q
theorem pe_meth0 {pl:Sem Bool} (he:PE X o ta) (c:Cls X.K C) (hm:Meth X.K C m f) (F:FnOk X.prog X.w X.K X.mg X.base CX k f fd ps sp) (hr:Room k X.A) (hb:Binds X.K fd ps ds) (hd:Vals dvs ds) (hx:Passes CX X E)
  (ht:eval (.Call (.Attribute o m apos) [] [] pos) X.env=(do
   let ov <- eval o X.env
   standAt apos.atName
   let (f,first) <- holding [ov] (getMethod ov m pl)
   callWith pos f first (backTo pos (starEach [] X.env)) (backToKw pos (keywordEach [] X.env))):=by rfl) :
  PE X (.Call (.Attribute o m apos) [] [] pos) (tMeth C m sp dvs E ta tNil):=by
 intro pins s σ H Q I h
 refine PySem.W.methodCall_KW (pl:=pl) (thn (he pins s σ H _ I h) fun u s1 ⟨x,H1,I1,rx,a,dx,fs,ex,ea,l,q⟩=>?_) ht
 subst ex
 obtain rfl:u=Value.ref a:=rx
 refine getmeth_ok I1 ea c hm l ?_
 exact PySem.W.callWith_K0 (first:=[.ref a]) I1.kIn hm.kp (run_fn (us:=[.ref a]) (vs:=[.ref a]) F hr hb hd hx I1 (.cons rfl .nil) q)
structure Mk (K:PySem.W.Frag) (C f:Addr):Prop where
 makes:PySem.W.makesIn K C=true
 init:PySem.W.findIn K (.ref C) "__init__" = some (some (.ref f))
 fn:PySem.W.isFn K (.ref f)=true
 kp:PySem.W.keepIn K (.ref C)=true
theorem run_make {pins:List (Addr × Obj)} {σ:St} {H:Hp} {s:Shared} {Q:VK} {us:List Value} {vs:List V} (M:Mk X.K C f) (F:FnOk X.prog X.w X.K X.mg X.base CX k f fd ps sp) (hr:Room (k+1) X.A) (hb:Binds X.K fd ps ds) (hd:Vals dvs ds)
  (hx:Passes CX X E) (I:Inv X pins σ H s) (r:Vals vs us)
  (h:∀ x dx,H x=none->H dx=none->dx≠x->sp (.ref x::(vs++dvs)) (upd (upd H dx (.own x)) x (.ins C dx [])) (fun v H2=>v=.non/\Q (.ref x) H2) E) :
  wpAny (model X.prog X.w) X.A (call (.ref C) us) (EP X pins σ Q) X.xe s:=by
 have hq:=h (s.heap.objs.size+1) s.heap.objs.size (I.hok.fresh (Nat.le_succ _)) (I.hok.fresh (Nat.le_refl _)) (Nat.ne_of_lt (Nat.lt_succ_self _))
 have I2:=Inv.made (C:=C) I
 have r2:Vals (V.ref (s.heap.objs.size+1)::(vs++dvs)) (Value.ref (s.heap.objs.size+1)::(us++ds)):=.cons rfl (r.append hd)
 have hl:(Value.ref (s.heap.objs.size+1)::us++ds).length=ps.length:=by
  have e:=r2.length
  rw [F.len _ _ _ _ hq] at e
  exact e.symm
 refine wpAny_call (make_map (f:=f) I.kIn M.makes M.init (beq_iff_eq.mp M.fn) (codeAny_mono (F.run _ X.stack _ _ ⟨Value.ref (s.heap.objs.size+1)::us,[]⟩ (Value.ref (s.heap.objs.size+1)::(us++ds)) _ _ E (hr.make C us [])
  (I2.env0.make C us []) (hb _ (Value.ref (s.heap.objs.size+1)::us) I2.kIn hl) r2 hq) fun r s' hq'=>?_))
 cases r with
 | error e=>exact hx pins σ _ _ e s' I2 hq'
 | ok fl =>
  cases fl with
  | ret u =>
   obtain ⟨v,H',I3,rv,ev,q3⟩:=I2.after hq'
   subst ev
   exact ⟨rv,⟨V.ref (s.heap.objs.size+1),H',I3,rfl,q3⟩⟩
  | next=>exact False.elim hq'
  | brk=>exact False.elim hq'
  | cont=>exact False.elim hq'
theorem pe_make (M:Mk X.K C f) (F:FnOk X.prog X.w X.K X.mg X.base CX k f fd ps sp) (hr:Room (k+1) X.A) (hg:Gl X x) (hm:X.mg x=some (.ref C)) (hb:Binds X.K fd ps ds) (hd:Vals dvs ds) (hx:Passes CX X E)
  (ha:PA X (e::es) t) (hdb:(x == ("__debug__" : Str))=false:=by decide) (he:starEach (e::es) X.env=(false,eval e X.env)::starEach es X.env:=by rfl) (hpl:(backTo pos (starEach es X.env)).any (·.1)=false:=by rfl) :
  PE X (.Call (.Name x p) (e::es) [] pos) (tMake C sp dvs E t):=by
 intro pins s σ H Q I h
 refine wpAny_Call_Name_kw (ld_glob I hg hm ?_ hdb)
 refine PySem.W.callWith_K (h₀:=X.base) I.ok.mod.kin M.kp (thn (ha pos pins s σ H _ I h) fun us s1 ⟨vs,H1,I1,r,q⟩=>⟨I1.kIn,?_⟩) he hpl
 exact run_make M F hr hb hd hx I1 r q
end
section
variable {X:Cx} {CX:CXT} {k:Nat} {f C:Addr} {fd:FuncData} {ps ks:List Str} {sp:Sp} {E:XK} {x m:Str} {p pos apos kpos:Pos} {e o:Expr} {es:List Expr} {kws:List Keyword} {te ta:TE} {t tk:TA} {nm:Option Str}
variable {g:List Value->List Value->List Value} {gV:List V->List V->List V}
end
structure FnScope (N P:List Str) (sc:Scope):Prop where
 kind:sc.kind=.function
 co:sc.isCoroutine=false
 gen:sc.isGenerator=false
 nd:N.Nodup
 pre:N.take P.length=P
 par:∀ x∈P,sc.names.lookup x=some .local\/sc.names.lookup x=some .cell
 nofree:∀ y∈sc.names,y.2≠.free
theorem bindL_out {kindOf:Str->Option NameKind} {x:Str}:∀ {binds:List (Str × Value)} {m:Str->Option Value},(∀ v,(x,v) ∉ binds)->bindL kindOf binds m x=m x
 | [],_,_=>rfl
 | (n,v)::r,m,h=>by
  unfold bindL
  rw [bindL_out fun w hw=>h w (List.mem_cons_of_mem _ hw)]
  split
  ·have:x≠n:=by rintro rfl;exact h v List.mem_cons_self
   simp [this]
  ·rfl
theorem bindC_out {kindOf:Str->Option NameKind} {x:Str}:∀ {binds:List (Str × Value)} {m:Str->Option Value},(∀ v,(x,v) ∉ binds)->bindC kindOf binds m x=m x
 | [],_,_=>rfl
 | (n,v)::r,m,h=>by
  unfold bindC
  rw [bindC_out fun w hw=>h w (List.mem_cons_of_mem _ hw)]
  split
  ·rfl
  ·have:x≠n:=by rintro rfl;exact h v List.mem_cons_self
   simp [this]
theorem bindL_get {kindOf:Str->Option NameKind} {x:Str} {v:Value}:∀ {P:List Str} {vs:List Value} {i:Nat} {m:Str->Option Value},P.Nodup->P[i]?=some x->vs[i]?=some v->kindOf x=some .local ->
  bindL kindOf (P.zip vs) m x=some v
 | [],_,_,_,_,h,_,_=>by simp at h
 | _::_,[],_,_,_,_,h,_=>by simp at h
 | p::P,w::vs,0,m,nd,h1,h2,hk=>by
  simp at h1 h2;subst h1;subst h2
  show bindL kindOf ((p,w)::P.zip vs) m p=_
  unfold bindL
  rw [bindL_out fun v hv=>(List.nodup_cons.mp nd).1 (List.of_mem_zip hv).1,if_pos hk]
  simp
 | p::P,w::vs,i+1,m,nd,h1,h2,hk=>by
  show bindL kindOf ((p,w)::P.zip vs) m x=_
  unfold bindL
  exact bindL_get (i:=i) (List.nodup_cons.mp nd).2 (by simpa using h1) (by simpa using h2) hk
theorem bindC_get {kindOf:Str->Option NameKind} {x:Str} {v:Value}:∀ {P:List Str} {vs:List Value} {i:Nat} {m:Str->Option Value},P.Nodup->P[i]?=some x->vs[i]?=some v->kindOf x≠some .local ->
  bindC kindOf (P.zip vs) m x=some v
 | [],_,_,_,_,h,_,_=>by simp at h
 | _::_,[],_,_,_,_,h,_=>by simp at h
 | p::P,w::vs,0,m,nd,h1,h2,hk=>by
  simp at h1 h2;subst h1;subst h2
  show bindC kindOf ((p,w)::P.zip vs) m p=_
  unfold bindC
  rw [bindC_out fun v hv=>(List.nodup_cons.mp nd).1 (List.of_mem_zip hv).1,if_neg hk]
  simp
 | p::P,w::vs,i+1,m,nd,h1,h2,hk=>by
  show bindC kindOf ((p,w)::P.zip vs) m x=_
  unfold bindC
  exact bindC_get (i:=i) (List.nodup_cons.mp nd).2 (by simpa using h1) (by simpa using h2) hk
def start (N:List Str) (vs:List V):St:=vs.map some++List.replicate (N.length - vs.length) none
def cxOf (CX:CXT) (P:Program) (w:World) (K:PySem.W.Frag) (mg:Str->Option Value) (base:Heap) (N:List Str) (qual:Str) (scope:Scope) (f:Addr) (cd:Value) (A:Around) (outer:List Env) (s:Shared) (H:Hp) (E:XK):Cx where
 prog:=P
 w:=w
 K:=K
 mg:=mg
 base:=base
 A:=A.deeper (envOfC qual scope s.heap.objs.size f cd)
 N:=N
 s₀:=s
 H₀:=H
 env:=envOfC qual scope s.heap.objs.size f cd
 outer:=outer
 stack:=envOfC qual scope s.heap.objs.size f cd::outer
 ex:=[]
 calm:=true
 fn:=fun _=>true
 pn:=[]
 xe:=fun e s'=>wpAny (model P w) (A.deeper (envOfC qual scope s.heap.objs.size f cd)) (leaving (envOfC qual scope s.heap.objs.size f cd) e) (fun _ s''=>CX outer H s E e s'') (fun e' s''=>CX outer H s E e' s'') s'
theorem cell_has {sc:Scope} {n:Nat} {x:Str} (h:sc.names.lookup x=some .cell):∃ c,(cellsFrom n sc.names []).lookup x=some c:=by
 have q:=PySem.W.cellsFrom_some sc.names n [] (.inl h)
 exact Option.isSome_iff_exists.mp q
theorem inv_start {CX:CXT} {P:Program} {w:World} {K:PySem.W.Frag} {mg:Str->Option Value} {base:Heap} {N ps:List Str} {qual:Str} {scope:Scope} {f:Addr} {cd:Value} {A:Around} {outer:List Env} {s s1:Shared} {H:Hp} {E:XK} {us:List Value} {vs:List V}
  (S:FnScope N ps scope) (hd:A.handled=none) (e0:Env0 P w K mg base A outer s H) (hl:vs.length=ps.length) (r:Vals vs us)
  (x:InCallC s s.heap.objs.size (bindL (envOfC qual scope s.heap.objs.size f cd).kindOf (ps.zip us) fun _=>none) (cellsFrom (s.heap.objs.size+1) scope.names []) (bindC (envOfC qual scope s.heap.objs.size f cd).kindOf (ps.zip us) fun _=>none) s1) :
  Inv (cxOf CX P w K mg base N qual scope f cd A outer s H E) [] (start N vs) H s1:=by
 have hpl:ps.length<=N.length:=by have:=congrArg List.length S.pre;rw [List.length_take] at this;omega
 obtain ⟨h1,tk,rfl,hk⟩:=x.done
 have noA:∀ b:Addr,b ∉ (cxOf CX P w K mg base N qual scope f cd A outer s H E).ex:=fun b z=>absurd (show b∈([]:List Addr) from z) (by simp)
 refine ⟨⟨e0.mod,S.kind,rfl,rfl,Nat.le_refl _,fun y z c h1 h2=>?_,fun y hy=>?_,fun y c _ h=>?_,fun _=>hd,Around.frames_deeper e0.frames,.inr ⟨rfl,rfl⟩,fun b z=>absurd z (noA b),e0.bs,e0.bsz,fun b _ _=>noA b,fun b z=>absurd z (noA b),e0.funs,e0.frf⟩,
  rfl,e0.bare,Un.kept hk,⟨_,x.toInCall.ns,fun i y v h1 h2 h3=>?_⟩,fun y c h=>⟨_,x.cell y c h⟩,e0.hok.fresh (Nat.le_refl _),fun y c h=>?_,fun p hp=>absurd (show p∈([]:List (Addr × Obj)) from hp) (by simp),e0.hok.kept hk,?_⟩
 ·exact name_of_addr x.apart (PySem.mem_of_lookup h1) (PySem.mem_of_lookup h2)
 ·have hy:scope.names.lookup y=some .cell\/scope.names.lookup y=some .free:=hy
  rcases hy with hy | hy
  ·exact cell_has hy
  ·exact absurd rfl (S.nofree _ (PySem.mem_of_lookup hy))
 ·exact Nat.le_of_lt (x.above y c (PySem.mem_of_lookup h))
 ·have hi:i < vs.length:=by
   unfold start at h2
   by_cases hi:i < vs.length
   ·exact hi
   ·rw [List.getElem?_append_right (by simpa using hi)] at h2
    rw [List.getElem?_replicate] at h2
    split at h2<;>cases h2
  have ha:vs[i]?=some v:=by
   unfold start at h2
   rw [List.getElem?_append_left (by simpa using hi),List.getElem?_map] at h2
   cases e:vs[i]? with
   | none=>rw [e] at h2;cases h2
   | some a=>rw [e] at h2;cases h2;rfl
  obtain ⟨u,hu,rv⟩:=r.get ha
  have hp:ps[i]?=some y:=by
   rw [<- S.pre,List.getElem?_take_of_lt (by omega)];exact h1
  have ndP:ps.Nodup:=by rw [<- S.pre];exact S.nd.sublist (List.take_sublist _ _)
  refine ⟨u,rv,?_⟩
  rcases S.par y (List.mem_of_getElem? hp) with k | k
  ·exact .inl ⟨k,bindL_get ndP hp hu k⟩
  ·obtain ⟨c,e⟩:=cell_has (n:=s.heap.objs.size+1) k
   refine .inr ⟨.inl k,c,e,?_⟩
   have q:=x.cell y c e
   rw [bindC_get ndP hp hu (by show scope.names.lookup y≠_;rw [k];decide)] at q
   exact q
 ·exact e0.hok.fresh (Nat.le_of_lt (x.above y c (PySem.mem_of_lookup h)))
 ·unfold start
  show _=N.length
  rw [List.length_append,List.length_map,List.length_replicate]
  omega
theorem fn_of {CX:CXT} {P:Program} {w:World} {K:PySem.W.Frag} {mg:Str->Option Value} {base:Heap} {k:Nat} {f:Addr} {name qual:Str} {params:Arguments} {body:List Stmt} {scope:Scope} {dV kV doc pm cdv ct oc:Value} {an od:Option Addr}
  {osl:Array (Option Value)} {N ps:List Str} {sp:Sp} (lk:K.lookup f=some ⟨oc,od,.func (PySem.W.fnOf name qual params body scope dV kV doc pm an cdv ct),osl⟩) (hcd:PySem.W.codeIn K cdv qual=true) (S:FnScope N ps scope)
  (len:∀ vs H Q E,sp vs H Q E->vs.length=ps.length)
  (hbody:∀ (A:Around) (outer:List Env) (s:Shared) (H:Hp) (vs:List V) (Q:VK) (E:XK),Room k (A.deeper (envOfC qual scope s.heap.objs.size f cdv))->sp vs H Q E ->
   ∃ t,PSs (cxOf CX P w K mg base N qual scope f cdv A outer s H E) body t/\t { nx:=fun _ H'=>Q .non H',rt:=Q } (start N vs) H) :
  FnOk P w K mg base CX (k+1) f (PySem.W.fnOf name qual params body scope dV kV doc pm an cdv ct) ps sp:=by
 refine ⟨len,fun A outer s H args us vs Q E hr e0 hb r hsp=>?_⟩
 have hl:=len _ _ _ _ hsp
 have KX:K.In s.heap:=e0.mod.kin.keeps fun b o e=>(e0.bs b o e).1
 have lim:s.heap.NoLimit:=e0.mod.nolimit.keeps fun b o e=>(e0.bs b o e).1
 have hkind:∀ y∈ps.zip us,scope.names.lookup y.1=some .local\/(scope.names.lookup y.1=some .cell/\((cellsFrom (s.heap.objs.size+1) scope.names []).lookup y.1).isSome=true):=fun ⟨n,v⟩ hy=>by
  rcases S.par n (List.of_mem_zip hy).1 with q | q
  ·exact .inl q
  ·exact .inr ⟨q,PySem.W.cellsFrom_some _ _ _ (.inl q)⟩
 refine codeAny_call_function hr.depth (KX _ _ lk) rfl S.co S.gen rfl (PySem.W.codeRec_of KX hcd) (hb _ _ _ _ ?_)
 refine wpAny_newFunctionEnv_cells S.kind hkind fun env he s1 x=>?_
 subst he
 refine ⟨lim.keeps x.toInCall.keep,codeAny_func ?_⟩
 obtain ⟨t,ht,hq⟩:=hbody A outer s H vs Q E (hr.deeper _) hsp
 have I:Inv (cxOf CX P w K mg base N qual scope f cdv A outer s H E) [] (start N vs) H s1:=inv_start S hr.hd e0 hl r x
 refine wpAny_mono (ht [] s1 (start N vs) H _ I hq) (fun fl s' hs=>?_) fun e s' hs=>hs
 have fin:∀ {σ':St} {H':Hp} {v:V} {u:Value},Inv (cxOf CX P w K mg base N qual scope f cdv A outer s H E) [] σ' H' s'->RelV v u->Q v H'->CE outer P w H s Q u s' :=
  fun {σ' H' v u} J rv q=>⟨v,H',J.os,J.bare,J.base,J.hok,rv,q⟩
 cases fl with
 | ret u =>
  obtain ⟨v,σ',H',J,rv,q⟩:=hs
  exact fin J rv q
 | next =>
  obtain ⟨σ',H',J,q⟩:=hs
  exact fin (v:=V.non) (u:=Value.none) J rfl q
 | brk =>
  obtain ⟨_,_,_,q⟩:=hs
  exact False.elim q
 | cont =>
  obtain ⟨_,_,_,q⟩:=hs
  exact False.elim q
section
variable {X:Cx} {x:Str} {p pos:Pos} {e:Expr} {es:List Expr} {t:TA} {id T:String} {r:List V->Hp->VK->Prop}
def tCB (r:List V->Hp->VK->Prop) (t:TA):TE:=fun σ H Q=>t σ H fun vs H1=>r vs H1 Q
theorem pe_callB (hc:CallR X (.builtin id) r) (hg:Gl X x) (hm:X.mg x=none) (hv:bootBuiltins x=some (.builtin id)) (ha:PA X (e::es) t) (hn:x≠"__name__" := by decide) (hdb:(x == ("__debug__" : Str))=false:=by decide)
  (he:starEach (e::es) X.env=(false,eval e X.env)::starEach es X.env:=by rfl) (hpl:(backTo pos (starEach es X.env)).any (·.1)=false:=by rfl):PE X (.Call (.Name x p) (e::es) [] pos) (tCB r t):=by
 intro pins s σ H Q I h
 refine wpAny_Call_Name_kw (ld_blt I hg hm hv ?_ hn hdb)
 exact PyProof.Rows.callWith_builtin1 (thn (ha pos pins s σ H _ I h) fun us s1 ⟨vs,H1,I1,r1,q1⟩=>hc pins s1 σ H1 vs us Q I1 r1 q1) he hpl
theorem pe_callTy (hc:CallR X (.type T) r) (hg:Gl X x) (hm:X.mg x=none) (hv:bootBuiltins x=some (.type T)) (ha:PA X (e::es) t) (hn:x≠"__name__" := by decide) (hdb:(x == ("__debug__" : Str))=false:=by decide)
  (he:starEach (e::es) X.env=(false,eval e X.env)::starEach es X.env:=by rfl) (hpl:(backTo pos (starEach es X.env)).any (·.1)=false:=by rfl):PE X (.Call (.Name x p) (e::es) [] pos) (tCB r t):=by
 intro pins s σ H Q I h
 refine wpAny_Call_Name_kw (ld_blt I hg hm hv ?_ hn hdb)
 exact PyProof.Rows.callWith_type1 (thn (ha pos pins s σ H _ I h) fun us s1 ⟨vs,H1,I1,r1,q1⟩=>hc pins s1 σ H1 vs us Q I1 r1 q1) he hpl
end
end L2
namespace HT
open PySem PyProof.Rows
section
open PySem.SeqAt
open PySem.AutoSeq1 (wpAny_loadPart')
open PySem.MeetsSeq PySem.MeetsSeq2 PySem.MeetsSeq3
end
section
variable {prog:Program} {w:World} {A:Around} {E:Value->Shared->Prop} {s:Shared}
def sIx (n d:Nat):Option Int->Nat
 | none=>d
 | some v=>if v < 0 then (v+(n:Int)).toNat else min v.toNat n
theorem sIx_none (n d:Nat):sIx n d none=d:=rfl
theorem sIx_nat (n d k:Nat):sIx n d (some (k:Int))=min k n:=by
 show (if (k:Int) < 0 then ((k:Int)+(n:Int)).toNat else min (k:Int).toNat n)=min k n
 rw [if_neg (by omega),Int.toNat_natCast]
end
end HT
namespace L2
open PySem PySem.Spec PyProof.Rows
abbrev TO:=St->Hp->(Option Int->Hp->Prop)->Prop
def PO (X:Cx) (e:Option Expr) (t:TO):Prop :=
 ∀ (pins:List (Addr × Obj)) (s:Shared) (σ:St) (H:Hp) (Q:Option Int->Hp->Prop),Inv X pins σ H s->t σ H Q ->
  wpAny (model X.prog X.w) X.A (evalPart e X.env) (fun u s'=>∃ o H',Inv X pins σ H' s'/\IsPart u o/\Q o H') X.xe s
def tNoPart:TO:=fun _ H Q=>Q none H
def tPart (t:TE):TO:=fun σ H Q=>t σ H fun x H1=>∃ i,x=.int i/\Q (some i) H1
section
variable {X:Cx} {e:Expr} {te:TE} {lo hi:Option Expr} {tl th:TO} {pos p2:Pos}
theorem po_none:PO X none tNoPart:=by
 intro pins s σ H Q I h
 rw [evalPart_none]
 exact wpAny_pure ⟨none,H,I,.none,h⟩
theorem po_some (h:PE X e te):PO X (some e) (tPart te):=by
 intro pins s σ H Q I hw
 rw [evalPart_some]
 refine thn (h pins s σ H _ I hw) fun u s1 ⟨x,H1,I1,r1,q1⟩=>?_
 obtain ⟨i,rfl,q⟩:=q1
 obtain ⟨t,rfl⟩:=r1
 exact ⟨some i,H1,I1,.int i t,q⟩
def SlR (X:Cx) (r:V->Option Int->Option Int->Hp->VK->Prop):Prop :=
 ∀ (pins:List (Addr × Obj)) (s:Shared) (σ:St) (H:Hp) (x:V) (v vl vu:Value) (lo hi:Option Int) (sl:Addr) (Q:VK),Inv X pins σ H s->RelV x v->s.heap.IsSliceOf sl vl vu .none->IsPart vl lo->IsPart vu hi->r x lo hi H Q ->
  ∃ T id,typeLookup (.type T) "__getitem__" = pure (some (.builtin id))/\s.TypeIs v T/\wpAny (model X.prog X.w) X.A (getItem v (.ref sl)) (EP X pins σ Q) X.xe s
def tSl (r:V->Option Int->Option Int->Hp->VK->Prop) (te:TE) (tl th:TO):TE:=fun σ H Q=>te σ H fun x H1=>tl σ H1 fun l H2=>th σ H2 fun u H3=>r x l u H3 Q
theorem pe_slice {r:V->Option Int->Option Int->Hp->VK->Prop} (hr:SlR X r) (he:PE X e te) (hl:PO X lo tl) (hu:PO X hi th):PE X (.Subscript e (.Slice lo hi none p2) pos) (tSl r te tl th):=by
 intro pins s σ H Q I h
 refine Subscript_ (thn (he pins s σ H _ I h) fun v s1 ⟨x,H1,I1,r1,q1⟩=>?_)
 refine wpAny_Slice (thn (hl pins s1 σ H1 _ I1 q1) fun vl s2 ⟨l,H2,I2,pl,q2⟩=>thn (hu pins s2 σ H2 _ I2 q2) fun vu s3 ⟨u,H3,I3,pu,q3⟩=>?_)
 rw [evalPart_none]
 refine wpAny_pure ?_
 have I4:Inv X pins σ H3 { s3 with heap:=s3.heap.push { cls:=.type "slice",data:=.fields #[vl,vu,.none] } }:=I3.kept (t':=s3.toks) fun b ob q=>Heap.get?_push_of_some _ q
 obtain ⟨T,id,hT,ht,hg⟩:=hr pins { s3 with heap:=s3.heap.push { cls:=.type "slice",data:=.fields #[vl,vu,.none] } } σ H3 x v vl vu l u s3.heap.objs.size Q I4 r1 (Heap.IsSliceOf.new ..) pl pu q3
 show wpAny (model X.prog X.w) X.A (subscriptTail e (.Slice lo hi none p2) v (.ref s3.heap.objs.size)) (EP X pins σ Q) X.xe { s3 with heap:=s3.heap.push { cls:=.type "slice",data:=.fields #[vl,vu,.none] } }
 exact tail_any (ops:=[.ref s3.heap.objs.size,v]) ht hT hg (by with_unfolding_all rfl)
def cutV (xs:List V) (lo hi:Option Int):List V:=(xs.drop (HT.sIx xs.length 0 lo)).take (HT.sIx xs.length xs.length hi - HT.sIx xs.length 0 lo)
theorem cutV_length (xs:List V) (lo hi:Option Int):(cutV xs lo hi).length<=xs.length:=by
 unfold cutV
 rw [List.length_take,List.length_drop]
 omega
end
def ixN (n:Nat) (i:Int):Option Nat:=if 0<=i then (if i < n then some i.toNat else none) else if -(n:Int)<=i then some (i+n).toNat else none
def atI {α:Type} (xs:List α) (i:Int):Option α:=(ixN xs.length i).bind fun j=>xs[j]?
theorem ixN_seq {n:Nat} {i:Int} {j:Nat} (h:ixN n i=some j):seqIndex? i n=some j/\j < n/\-(n:Int)<=i/\i < n:=by
 unfold ixN at h
 by_cases h0:0<=i
 ·rw [if_pos h0] at h
  by_cases h1:i < n
  ·rw [if_pos h1] at h
   have e:i.toNat=j:=Option.some.inj h
   exact ⟨by rw [seqIndex_of h0 h1,e],by omega,by omega,h1⟩
  ·rw [if_neg h1] at h;cases h
 ·rw [if_neg h0] at h
  by_cases h1:-(n:Int)<=i
  ·rw [if_pos h1] at h
   have e:(i+n).toNat=j:=Option.some.inj h
   exact ⟨by rw [seqIndex_neg (by omega) h1,e],by omega,h1,by omega⟩
  ·rw [if_neg h1] at h;cases h
theorem atI_get {α:Type} {xs:List α} {i:Int} {v:α} (h:atI xs i=some v):∃ j,seqIndex? i xs.length=some j/\xs[j]?=some v/\j < xs.length/\-(xs.length:Int)<=i/\i < xs.length:=by
 unfold atI at h
 cases e:ixN xs.length i with
 | none=>rw [e] at h;cases h
 | some j =>
  rw [e] at h
  obtain ⟨h1,h2,h3,h4⟩:=ixN_seq e
  exact ⟨j,h1,h,h2,h3,h4⟩
theorem atI_nat {α:Type} {xs:List α} {j:Nat} {v:α} (h:xs[j]?=some v):atI xs (j:Int)=some v:=by
 have hj:j < xs.length:=(List.getElem?_eq_some_iff.mp h).1
 have e:ixN xs.length (j:Int)=some j:=by
  unfold ixN
  rw [if_pos (by omega),if_pos (by omega)];simp
 unfold atI;rw [e];exact h
def PlainIx (b:Expr):Prop:=∀ o i,subscripted b false o i=operate [o,i] (getItem o i)
def IxR (X:Cx) (r:R2):Prop :=
 ∀ (value slice:Expr) (pins:List (Addr × Obj)) (s:Shared) (σ:St) (H:Hp) (x y:V) (v u:Value) (Q:VK),Inv X pins σ H s->RelV x v->RelV y u->r x y H Q ->
  subscripted slice false v u=operate [v,u] (getItem v u)->wpAny (model X.prog X.w) X.A (subscriptTail value slice v u) (EP X pins σ Q) X.xe s
def MtR (X:Cx) (id:String) (r:V->List V->Hp->VK->Prop):Prop :=
 ∀ (pins:List (Addr × Obj)) (s:Shared) (σ:St) (H:Hp) (x:V) (xs:List V) (v:Value) (us:List Value) (Q:VK),Inv X pins σ H s->RelV x v->Vals xs us->r x xs H Q ->
  wpAny (model X.prog X.w) X.A (call (.builtin id) (v::us)) (EP X pins σ Q) X.xe s
section
variable {X:Cx} {a b:Expr} {ta tb:TE} {pos:Pos}
theorem pe_ix {r:R2} (hr:IxR X r) (ha:PE X a ta) (hb:PE X b tb) (hs:PlainIx b):PE X (.Subscript a b pos) (tOp r ta tb):=by
 intro pins s σ H Q I h
 exact Subscript_ (binT ha hb I h fun v u s2 x y H2 I2 rx ry q=>hr a b pins s2 σ H2 x y v u Q I2 rx ry q (hs _ _))
def rIxL (K:PySem.W.Frag):R2:=fun x y H Q=>∃ p xs i v,x=.ref p/\y=.int i/\SqL K H p xs/\atI xs i=some v/\Q v H
def rIxT (K:PySem.W.Frag):R2:=fun x y H Q=>∃ p xs i v,x=.ref p/\y=.int i/\SqT K H p xs/\atI xs i=some v/\Q v H
def rIxS:R2:=fun x y H Q=>∃ z i c,x=.str z/\y=.int i/\z.length<=sizeLine/\atI z.cps.toList i=some c/\Q (.str ⟨#[c]⟩) H
theorem ix_list:IxR X (rIxL X.K):=by
 intro value slice pins s σ H x y v u Q I rx ry h hs
 obtain ⟨p,xs,i,z,rfl,rfl,hq,he,q⟩:=h
 cases rx
 obtain ⟨t,rfl⟩:=ry
 obtain ⟨its,r,pl,hz⟩:=I.list hq
 obtain ⟨j,h1,h2,h3,h4,h5⟩:=atI_get he
 obtain ⟨w,ew,rw'⟩:=r.get h2
 have hl:=r.length
 have hn:=line63
 have fin:EP X pins σ Q w s:=⟨z,H,I,rw',q⟩
 by_cases h0:0<=i
 ·have hj:i.toNat=j:=by
   rw [seqIndex_of h0 h5] at h1
   exact Option.some.inj h1
  exact item_listR pl.isList h0 (by omega) (by rw [hj];simpa using ew) fin hs
 ·have hj:(i+(its.toArray.size:Int)).toNat=j:=by
   rw [seqIndex_neg (by omega) h4] at h1
   rw [List.size_toArray,<- hl]
   exact Option.some.inj h1
  exact subscriptTail_builtinR (x:=w) pl.isList.typeIs slot_list_getitem.lookup
   (wpAny_getItem_list_neg (Q:=fun r s'=>r=w/\EP X pins σ Q r s') pl.isList (by omega) (by rw [List.size_toArray]<;>omega) (by omega) (by rw [hj];simpa using ew) ⟨rfl,fin⟩) hs
theorem ix_tup:IxR X (rIxT X.K):=by
 intro value slice pins s σ H x y v u Q I rx ry h hs
 obtain ⟨p,xs,i,z,rfl,rfl,hq,he,q⟩:=h
 cases rx
 obtain ⟨t,rfl⟩:=ry
 obtain ⟨its,r,pl,hz⟩:=I.tuple hq
 obtain ⟨j,h1,h2,h3,h4,h5⟩:=atI_get he
 obtain ⟨w,ew,rw'⟩:=r.get h2
 have hl:=r.length
 have hn:=line63
 have fin:EP X pins σ Q w s:=⟨z,H,I,rw',q⟩
 exact subscriptTail_builtinR (x:=w) pl.typeIs slot_tuple_getitem.lookup
  (getItem_tuple (j:=j) (Q:=fun r s'=>r=w/\EP X pins σ Q r s') pl (by omega) (by omega) (by rw [List.size_toArray,<- hl];exact h1) (by simpa using ew) ⟨rfl,fin⟩) hs
theorem ix_str:IxR X rIxS:=by
 intro value slice pins s σ H x y v u Q I rx ry h hs
 obtain ⟨z,i,c,rfl,rfl,hz,he,q⟩:=h
 obtain ⟨t,rfl⟩:=rx
 obtain ⟨t',rfl⟩:=ry
 obtain ⟨j,h1,h2,h3,h4,h5⟩:=atI_get he
 have hl:z.cps.toList.length=z.length:=by simp [Str.length]
 rw [hl] at h1 h4 h5
 have hn:=line63
 exact tail_any (typeIs_str s z t) slot_str_getitem.lookup (getItem_str (c:=c) (by
  have e1:decide (i < -(2 ^ 63:Int))=false:=decide_eq_false (by omega)
  have e2:decide (i ≥ 2 ^ 63)=false:=decide_eq_false (by omega)
  rw [e1,e2,Bool.or_false]) (by rw [h1];simpa using h2) ⟨.str ⟨#[c]⟩,H,I.tok _,⟨_,rfl⟩,q⟩) hs
theorem mapSeq_set (its:List Value) (n j:Nat) (u:Value):Obj.mapSeq (·.setIfInBounds j u) { cls:=.type "list",data:=.seq its.toArray n }={ cls:=.type "list",data:=.seq (its.set j u).toArray n }:=by
 simp [Obj.mapSeq]
theorem Inv.lst {pins:List (Addr × Obj)} {σ:St} {H:Hp} {s:Shared} {p:Addr} {xs:List V} (I:Inv X pins σ H s) (h:H p=some (.lst xs)) :
  ∃ (its:List Value) (n:Nat),Vals xs its/\s.heap.get? p=some { cls:=.type "list",data:=.seq its.toArray n }/\xs.length<=sizeLine:=by
 obtain ⟨z,its,n,r,e⟩:=I.hok p _ h
 exact ⟨its,n,r,e,z⟩
theorem Inv.lstUpd {pins:List (Addr × Obj)} {σ:St} {H:Hp} {s:Shared} {p:Addr} {xs ys:List V} {its its':List Value} {n n':Nat} {f:Obj->Obj} (I:Inv X pins σ H s) (h:H p=some (.lst xs))
  (ho:s.heap.get? p=some { cls:=.type "list",data:=.seq its.toArray n }) (hf:f { cls:=.type "list",data:=.seq its.toArray n }={ cls:=.type "list",data:=.seq its'.toArray n' }) (r:Vals ys its') (hz:ys.length<=sizeLine) (t:Nat) :
  Inv X pins σ (upd H p (.lst ys)) { s with heap:=s.heap.update p f,toks:=t }:=by
 have e:(s.heap.update p f).get? p=some { cls:=.type "list",data:=.seq its'.toArray n' }:=by
  rw [Heap.get?_update_self f ho (by rw [hf]<;>rfl),hf]
 refine I.write (x:=p) (e:=p) (by rw [h];trivial) (.inl rfl) (fun b u hb q=>(Heap.get?_update_other _ _ (Ne.symm hb)).trans q) ⟨_,e⟩ ?_
 exact ⟨hz,its',n',r,e⟩
def rSetL:V->V->V->Hp->(Hp->Prop)->Prop:=fun o i v H Q=>∃ p xs k j,o=.ref p/\i=.int k/\H p=some (.lst xs)/\ixN xs.length k=some j/\Q (upd H p (.lst (xs.set j v)))
theorem set_list:PSet X rSetL:=by
 intro pins s σ H o i v ov iv u Q I ro ri rv h
 obtain ⟨p,xs,k,j,rfl,rfl,hp,hj,q⟩:=h
 cases ro
 obtain ⟨t,rfl⟩:=ri
 obtain ⟨its,n,r,ho,hz⟩:=I.lst hp
 obtain ⟨h1,h2,h3,h4⟩:=ixN_seq hj
 have hl:=r.length
 have hn:=line63
 have I':Inv X pins σ (upd H p (.lst (xs.set j v))) { s with heap:=s.heap.update p (Obj.mapSeq (·.setIfInBounds j u)) } :=
  I.lstUpd hp ho (mapSeq_set its n j u) (r.set rv j) (by rw [List.length_set];exact hz) s.toks
 by_cases h0:0<=k
 ·have hk:k.toNat=j:=by
   rw [seqIndex_of h0 h4] at h1
   exact Option.some.inj h1
  exact PySem.W.ki_setAt ho h0 (by omega) (by rw [List.size_toArray,<- hl];exact h4) (by rw [hk];exact ⟨_,I',q⟩)
 ·have hk:(k+(its.toArray.size:Int)).toNat=j:=by
   rw [seqIndex_neg (by omega) h3] at h1
   rw [List.size_toArray,<- hl]
   exact Option.some.inj h1
  exact PySem.W.ki_setBack ho (by omega) (by rw [List.size_toArray,<- hl];exact h3) (by omega) (by rw [hk];exact ⟨_,I',q⟩)
theorem slice_bounds (lo hi:Option Int) (n:Nat):(sliceBounds lo hi none n).1=((HT.sIx n 0 lo:Nat):Int)/\(sliceBounds lo hi none n).2.1=((HT.sIx n n hi:Nat):Int)/\(sliceBounds lo hi none n).2.2=1:=by
 refine ⟨?_,?_,rfl⟩
 ·cases lo with
  | none=>simp [sliceBounds,HT.sIx]
  | some i =>
   simp only [sliceBounds,HT.sIx,Option.getD_none,show (1:Int) > 0 by decide,if_true]
   by_cases h:i < 0
   ·simp only [h,if_true]<;>omega
   ·simp only [h,if_false]<;>omega
 ·cases hi with
  | none=>simp [sliceBounds,HT.sIx]
  | some i =>
   simp only [sliceBounds,HT.sIx,Option.getD_none,show (1:Int) > 0 by decide,if_true]
   by_cases h:i < 0
   ·simp only [h,if_true]<;>omega
   ·simp only [h,if_false]<;>omega
theorem slicePick_cut (its:List Value) (lo hi:Option Int):slicePick its.toArray lo hi none=((its.drop (HT.sIx its.length 0 lo)).take (HT.sIx its.length its.length hi - HT.sIx its.length 0 lo)).toArray:=by
 obtain ⟨h1,h2,h3⟩:=slice_bounds lo hi its.toArray.size
 unfold slicePick
 rw [h1,h2,h3]
 simp only [sliceRange_one,pick_run,List.size_toArray]<;>rfl
def rSlL (K:PySem.W.Frag):V->Option Int->Option Int->Hp->VK->Prop:=fun x lo hi H Q=>∃ a xs,x=.ref a/\SqL K H a xs/\∀ p,H p=none->Q (.ref p) (upd H p (.lst (cutV xs lo hi)))
theorem sl_list:SlR X (rSlL X.K):=by
 intro pins s σ H x v vl vu lo hi sl Q I rx hs pl pu h
 obtain ⟨a,xs,rfl,hx,q⟩:=h
 cases rx
 obtain ⟨its,r,ht,hz⟩:=I.list hx
 have hlen:=r.length
 refine ⟨"list",_,slot_list_getitem.lookup,ht.isList.typeIs,?_⟩
 refine wpAny_getItem_list_slice ht.isList hs pl pu .none (by simp) ?_ (by rw [List.size_toArray]<;>omega)
 rw [slicePick_cut,<- hlen]
 refine ⟨.ref s.heap.objs.size,_,I.laid (t':=s.toks) (o:=.lst (cutV xs lo hi)) (fun b ob q=>Heap.get?_push_of_some _ q) (Nat.le_refl _) ?_,rfl,q _ (I.hok.fresh (Nat.le_refl _))⟩
 exact ⟨Nat.le_trans (cutV_length xs lo hi) hz,_,0,(r.drop (HT.sIx xs.length 0 lo)).take (HT.sIx xs.length xs.length hi - HT.sIx xs.length 0 lo),Heap.get?_push_size _ rfl⟩
def flatV:V->Bool
 | .non=>true
 | .bl _=>true
 | .int _=>true
 | .str _=>true
 | _=>false
def eqV:V->V->Bool
 | .non,.non=>true
 | .bl a,.bl b=>a == b
 | .bl a,.int b=>(if a then 1 else 0) == b
 | .int a,.bl b=>a == (if b then 1 else 0)
 | .int a,.int b=>a == b
 | .str a,.str b=>a == b
 | _,_=>false
theorem eqAt_V {A:Around} {s:Shared} {y x:V} {u v:Value} (ry:RelV y u) (rx:RelV x v) (fy:flatV y=true) (fx:flatV x=true):SeqAt.EqAt A s u v (eqV y x):=by
 cases y with
 | non =>
  cases ry
  cases x with
  | non=>cases rx;exact SeqAt.EqAt.same _
  | bl b=>cases rx;exact SeqAt.EqAt.none_bool b
  | int b=>obtain ⟨t,rfl⟩:=rx;exact SeqAt.EqAt.none_int b t
  | str b=>obtain ⟨t,rfl⟩:=rx;exact SeqAt.EqAt.none_str b t
  | _=>exact absurd (show false=true from fx) Bool.false_ne_true
 | bl a =>
  cases ry
  cases x with
  | non=>cases rx;exact SeqAt.EqAt.bool_none a
  | bl b=>cases rx;exact SeqAt.EqAt.bool_bool a b
  | int b=>obtain ⟨t,rfl⟩:=rx;exact SeqAt.EqAt.bool_int a b t
  | str b=>obtain ⟨t,rfl⟩:=rx;exact SeqAt.EqAt.bool_str a b t
  | _=>exact absurd (show false=true from fx) Bool.false_ne_true
 | int a =>
  obtain ⟨t',rfl⟩:=ry
  cases x with
  | non=>cases rx;exact SeqAt.EqAt.int_none a t'
  | bl b=>cases rx;exact SeqAt.EqAt.int_bool a t' b
  | int b=>obtain ⟨t,rfl⟩:=rx;exact SeqAt.EqAt.int_int a t' b t
  | str b=>obtain ⟨t,rfl⟩:=rx;exact SeqAt.EqAt.int_str a t' b t
  | _=>exact absurd (show false=true from fx) Bool.false_ne_true
 | str a =>
  obtain ⟨t',rfl⟩:=ry
  cases x with
  | non=>cases rx;exact SeqAt.EqAt.str_none a t'
  | bl b=>cases rx;exact SeqAt.EqAt.str_bool a t' b
  | int b=>obtain ⟨t,rfl⟩:=rx;exact SeqAt.EqAt.str_int a t' b t
  | str b=>obtain ⟨t,rfl⟩:=rx;exact SeqAt.EqAt.str_str a t' b t
  | _=>exact absurd (show false=true from fx) Bool.false_ne_true
 | _=>exact absurd (show false=true from fy) Bool.false_ne_true
def eqU (x:V) (u:Value):Bool:=match u with
 | .none=>eqV .non x
 | .bool b=>eqV (.bl b) x
 | .int i _=>eqV (.int i) x
 | .str z _=>eqV (.str z) x
 | _=>false
theorem eqU_of {x y:V} {u:Value} (r:RelV y u) (f:flatV y=true):eqU x u=eqV y x:=by
 cases y with
 | non=>cases r;rfl
 | bl b=>cases r;rfl
 | int i=>obtain ⟨t,rfl⟩:=r;rfl
 | str z=>obtain ⟨t,rfl⟩:=r;rfl
 | _=>exact absurd (show false=true from f) Bool.false_ne_true
theorem any_eqU {x:V}:∀ {xs:List V} {us:List Value},Vals xs us->xs.all flatV=true->us.any (eqU x)=xs.any fun y=>eqV y x
 | _,_,.nil,_=>rfl
 | y::xs,u::us,.cons r t,f=>by
  rw [List.all_cons,Bool.and_eq_true] at f
  rw [List.any_cons,List.any_cons,eqU_of r f.1,any_eqU t f.2]
theorem mem_eqAt {A:Around} {s:Shared} {x:V} {v:Value} (rx:RelV x v) (fx:flatV x=true):∀ {xs:List V} {us:List Value},Vals xs us->xs.all flatV=true->∀ u∈us,SeqAt.EqAt A s u v (eqU x u)
 | _,_,.nil,_=>fun u hu=>by cases hu
 | y::xs,u::us,.cons r t,f=>fun u' hu=>by
  rw [List.all_cons,Bool.and_eq_true] at f
  rcases List.mem_cons.mp hu with rfl | hu
  ·rw [eqU_of r f.1];exact eqAt_V r rx f.1 fx
  ·exact mem_eqAt rx fx t f.2 u' hu
def inV (x:V) (xs:List V):Bool:=xs.any fun y=>eqV y x
def rIn (K:PySem.W.Frag) (neg:Bool):R2:=fun x y H Q=>∃ p xs,y=.ref p/\(SqL K H p xs\/SqT K H p xs)/\flatV x=true/\xs.all flatV=true/\Q (.bl (if neg then !inV x xs else inV x xs)) H
theorem op_in_seq:OpR X (compareOp .In) (rIn X.K false):=by
 intro pins s σ H x y v u Q I rx ry h
 obtain ⟨p,xs,rfl,hq,fx,fs,q⟩:=h
 cases ry
 rcases hq with hq | hq
 ·obtain ⟨its,r,pl,hz⟩:=I.list hq
  refine SeqAt.in_listAt (eqU x) pl.isList (fun w hw=>mem_eqAt rx fx r fs w (by simpa using hw)) ⟨.bl _,H,I,rfl,?_⟩
  rw [show its.toArray.any (eqU x)=its.any (eqU x) by simp,any_eqU r fs]
  exact q
 ·obtain ⟨its,r,pl,hz⟩:=I.tuple hq
  refine SeqAt.in_tupleAt (eqU x) pl (fun w hw=>mem_eqAt rx fx r fs w (by simpa using hw)) ⟨.bl _,H,I,rfl,?_⟩
  rw [show its.toArray.any (eqU x)=its.any (eqU x) by simp,any_eqU r fs]
  exact q
theorem op_notIn_seq:OpR X (compareOp .NotIn) (rIn X.K true):=by
 intro pins s σ H x y v u Q I rx ry h
 obtain ⟨p,xs,rfl,hq,fx,fs,q⟩:=h
 cases ry
 rcases hq with hq | hq
 ·obtain ⟨its,r,pl,hz⟩:=I.list hq
  refine SeqAt.notIn_listAt (eqU x) pl.isList (fun w hw=>mem_eqAt rx fx r fs w (by simpa using hw)) ⟨.bl _,H,I,rfl,?_⟩
  rw [show its.toArray.any (eqU x)=its.any (eqU x) by simp,any_eqU r fs]
  exact q
 ·obtain ⟨its,r,pl,hz⟩:=I.tuple hq
  refine SeqAt.notIn_tupleAt (eqU x) pl (fun w hw=>mem_eqAt rx fx r fs w (by simpa using hw)) ⟨.bl _,H,I,rfl,?_⟩
  rw [show its.toArray.any (eqU x)=its.any (eqU x) by simp,any_eqU r fs]
  exact q
theorem call_len_seq:CallR X (.builtin "len") (fun xs H Q=>∃ p ys,xs=[.ref p]/\(SqL X.K H p ys\/SqT X.K H p ys)/\Q (.int ys.length) H):=by
 intro pins s σ H xs us Q I r h
 obtain ⟨p,ys,rfl,hq,q⟩:=h
 obtain ⟨u,rfl,rx⟩:=vals1 r
 cases rx
 have hn:=line63
 rcases hq with hq | hq
 ·obtain ⟨its,r',pl,hz⟩:=I.list hq
  have hlen:=r'.length
  exact Calls.call_len_list pl.isList (by simp only [List.size_toArray]<;>omega) ⟨.int ys.length,H,I.tok _,⟨s.toks+1,by rw [List.size_toArray,hlen]⟩,q⟩
 ·obtain ⟨its,r',pl,hz⟩:=I.tuple hq
  have hlen:=r'.length
  exact len_tuple pl (by simp only [List.size_toArray]<;>omega) ⟨.int ys.length,H,I.tok _,⟨s.toks+1,by rw [List.size_toArray,hlen]⟩,q⟩
theorem call_len_str:CallR X (.builtin "len") (fun xs H Q=>∃ z,xs=[.str z]/\z.length<=sizeLine/\Q (.int z.length) H):=by
 intro pins s σ H xs us Q I r h
 obtain ⟨z,rfl,hz,q⟩:=h
 obtain ⟨u,rfl,t,rfl⟩:=vals1 r
 have hn:=line63
 exact len_str (by omega) ⟨.int z.length,H,I.tok _,⟨_,rfl⟩,q⟩
theorem call_list_of:CallR X (.type "list") (fun xs H Q=>∃ p ys,xs=[.ref p]/\(SqL X.K H p ys\/SqT X.K H p ys)/\∀ l,H l=none->Q (.ref l) (upd H l (.lst ys))):=by
 intro pins s σ H xs us Q I r h
 obtain ⟨p,ys,rfl,hq,q⟩:=h
 obtain ⟨u,rfl,rx⟩:=vals1 r
 cases rx
 have fin:∀ (its:List Value),Vals ys its->ys.length<=sizeLine->∀ (h':Heap) (c':Nat),(∀ b o',s.heap.get? b=some o'->h'.get? b=some o') ->
   h'.get? s.heap.objs.size=some { cls:=.type "list",dict:=none,data:=.seq its.toArray c',slots:=#[] }->EP X pins σ Q (.ref s.heap.objs.size) { s with heap:=h' }:=fun its r' hz h' c' kp e =>
  ⟨.ref s.heap.objs.size,_,I.laid (t':=s.toks) kp (Nat.le_refl _) (show ObjOk X.prog X.w _ h' _ (.lst ys) from ⟨hz,its,c',r',e⟩),rfl,q _ (I.hok.fresh (Nat.le_refl _))⟩
 rcases hq with hq | hq
 ·obtain ⟨its,r',pl,hz⟩:=I.list hq
  have hlen:=r'.length
  obtain ⟨o,ho,hc,n,hd⟩:=pl.isList
  exact call_list_seq p (.inl rfl) ho hc hd (fun h' c' kp e=>fin its r' hz h' c' kp e) (by simp only [List.size_toArray]<;>omega)
 ·obtain ⟨its,r',pl,hz⟩:=I.tuple hq
  have hlen:=r'.length
  obtain ⟨o,ho,hc,n,hd⟩:=pl
  exact call_list_seq p (.inr rfl) ho hc hd (fun h' c' kp e=>fin its r' hz h' c' kp e) (by simp only [List.size_toArray]<;>omega)
theorem call_tuple_of:CallR X (.type "tuple") (fun xs H Q=>∃ p ys,xs=[.ref p]/\((SqL X.K H p ys/\∀ l,H l=none->Q (.ref l) (upd H l (.tup ys)))\/(SqT X.K H p ys/\Q (.ref p) H))):=by
 intro pins s σ H xs us Q I r h
 obtain ⟨p,ys,rfl,h⟩:=h
 obtain ⟨u,rfl,rx⟩:=vals1 r
 cases rx
 rcases h with ⟨hq,q⟩ | ⟨hq,q⟩
 ·obtain ⟨its,r',pl,hz⟩:=I.list hq
  have hlen:=r'.length
  refine call_tuple_list pl.isList (fun h' kp=>?_) (by simp only [List.size_toArray]<;>omega)
  have I1:Inv X pins σ H { s with heap:=h' }:=I.kept (t':=s.toks) kp
  have I2:Inv X pins σ (upd H h'.objs.size (.tup ys)) { s with heap:=h'.push { cls:=.type "tuple",data:=.seq its.toArray } } :=
   I1.laid (t':=s.toks) (fun b o e=>Heap.get?_push_of_some _ e) (Nat.le_refl _) (show ObjOk X.prog X.w _ _ _ (.tup ys) from ⟨hz,its,r',IsTup.new _ _⟩)
  exact ⟨.ref h'.objs.size,_,I2,rfl,q _ (I1.hok.fresh (Nat.le_refl _))⟩
 ·obtain ⟨its,r',pl,hz⟩:=I.tuple hq
  exact call_tuple_same pl ⟨.ref p,H,I,rfl,q⟩
def tyV (K:PySem.W.Frag) (T:String) (x:V) (H:Hp):Prop:=match x with
 | .str _=>T="str"
 | .int _=>T="int"
 | .ref p=>(T="list" /\ ∃ xs,SqL K H p xs)\/(T="tuple" /\ ∃ o,K.lookup p=some o/\o.cls=.type "tuple" /\ o.dict=none) \/
   (T="dict" /\ ((∃ kvs,H p=some (.dK kvs))\/∃ kvs,H p=some (.dT kvs)))\/(T="set" /\ ∃ S n,H p=some (.set S n))
 | _=>False
theorem tyV_is {pins:List (Addr × Obj)} {σ:St} {H:Hp} {s:Shared} {T:String} {x:V} {v:Value} (I:Inv X pins σ H s) (r:RelV x v) (ty:tyV X.K T x H) :
  s.TypeIs v T/\∀ a,v=.ref a->∃ ob,s.heap.get? a=some ob/\ob.dict=none:=by
 cases x with
 | str z =>
  obtain ⟨t,rfl⟩:=r
  cases (show T="str" from ty)
  exact ⟨typeIs_str s z t,fun _ e=>nomatch e⟩
 | int i =>
  obtain ⟨t,rfl⟩:=r
  cases (show T="int" from ty)
  exact ⟨typeIs_int s i t,fun _ e=>nomatch e⟩
 | ref p =>
  cases r
  rcases ty with ⟨rfl,xs,hq⟩ | ⟨rfl,o,hk,hc,hd⟩ | ⟨rfl,hk⟩ | ⟨rfl,S,n,hk⟩
  ·obtain ⟨its,_,pl,_⟩:=I.list hq
   refine ⟨pl.isList.typeIs,fun a e=>?_⟩
   cases e
   obtain ⟨o,n,e,c,hd,_⟩:=pl
   exact ⟨o,e,hd⟩
  ·refine ⟨⟨o,I.kIn p o hk,hc⟩,fun a e=>?_⟩
   cases e
   exact ⟨o,I.kIn _ o hk,hd⟩
  ·have z:∃ o,s.heap.get? p=some o/\o.ExactDict:=by
    rcases hk with ⟨kvs,hk⟩ | ⟨kvs,hk⟩
    ·obtain ⟨_,_,_,_,o,_,_,e,ex,_⟩:=I.hok p _ hk
     exact ⟨o,e,ex⟩
    ·obtain ⟨_,_,_,_,o,_,_,e,ex,_⟩:=I.hok p _ hk
     exact ⟨o,e,ex⟩
   obtain ⟨o,e,ex⟩:=z
   refine ⟨⟨o,e,ex.1⟩,fun a e2=>?_⟩
   cases e2
   exact ⟨o,e,ex.2.1⟩
  ·obtain ⟨o,_,_,_,e,ex,_⟩:=I.hok p _ hk
   refine ⟨⟨o,e,ex.1⟩,fun a e2=>?_⟩
   cases e2
   exact ⟨o,e,ex.2.1⟩
 | _=>exact False.elim ty
def tBM0 (K:PySem.W.Frag) (T:String) (r:V->List V->Hp->VK->Prop) (to:TE):TE:=fun σ H Q=>to σ H fun x H1=>tyV K T x H1/\r x [] H1 Q
def tBM (K:PySem.W.Frag) (T:String) (r:V->List V->Hp->VK->Prop) (to:TE) (t:TA):TE:=fun σ H Q=>to σ H fun x H1=>tyV K T x H1/\t σ H1 fun xs H2=>r x xs H2 Q
variable {o e:Expr} {es:List Expr} {to:TE} {t:TA} {name:Str} {apos cpos:Pos} {T id:String} {r:V->List V->Hp->VK->Prop}
theorem pe_bm0 (pa:PlainAttrs T) (slot:Slot T name id) (hty:typeOf (.builtin id)=pure (.type "method_descriptor")) (hm:MtR X id r) (ho:PE X o to)
  (hbase:attributeBase o name X.env (eval o X.env)=eval o X.env:=by rfl) (hline:(apos.endLine == cpos.line)=true:=by rfl):PE X (.Call (.Attribute o name apos) [] [] cpos) (tBM0 X.K T r to):=by
 intro pins s σ H Q I h
 refine wpAny_Call_method0_late hbase hline (thn (ho pins s σ H _ I h) fun v s1 ⟨x,H1,I1,r1,ty,q1⟩=>?_)
 obtain ⟨h1,h2⟩:=tyV_is I1 r1 ty
 exact ⟨T,id,pa,slot,hty,h1,h2,Calls.callWith_builtin rfl (PySem.evalArgs_none (hm pins s1 σ H1 x [] v [] Q I1 r1 .nil q1))⟩
theorem pe_bm (pa:PlainAttrs T) (slot:Slot T name id) (hty:typeOf (.builtin id)=pure (.type "method_descriptor")) (hm:MtR X id r) (ho:PE X o to) (ha:PA X (e::es) t)
  (hbase:attributeBase o name X.env (eval o X.env)=eval o X.env:=by rfl)
  (hfew:((backTo cpos (starEach (e::es) X.env)).all (fun x=>!x.1) && (backToKw cpos (keywordEach [] X.env)).all (fun x=>x.1.isSome)
   && decide ((e::es).length+([]:List Keyword).length+(if ([]:List Keyword).isEmpty then 0 else 1) < 30))=true:=by rfl)
  (hline:(apos.endLine == cpos.line)=true:=by rfl) (hs:starEach (e::es) X.env=(false,eval e X.env)::starEach es X.env:=by rfl) (hplain:(backTo cpos (starEach es X.env)).any (·.1)=false:=by rfl) :
  PE X (.Call (.Attribute o name apos) (e::es) [] cpos) (tBM X.K T r to t):=by
 intro pins s σ H Q I h
 refine wpAny_Call_method_late hbase hfew hline rfl (thn (ho pins s σ H _ I h) fun v s1 ⟨x,H1,I1,r1,ty,q1⟩=>?_)
 obtain ⟨h1,h2⟩:=tyV_is I1 r1 ty
 refine ⟨T,id,pa,slot,hty,h1,h2,?_⟩
 have hA:=ha cpos pins s1 σ H1 _ I1 q1
 rw [hs] at hA ⊢
 refine Calls.callWith_builtin (by show (false || (backTo cpos (starEach es X.env)).any (·.1))=false;rw [hplain]<;>rfl) (Calls.evalArgs_plain ?_)
 exact thn hA fun us s2 ⟨vs,H2,I2,r2,q2⟩=>hm pins s2 σ H2 x vs v us Q I2 r1 r2 q2
end
def MtM (X:Cx) (id:String) (r:V->List V->Hp->VK->Prop):Prop :=
 ∀ (pins:List (Addr × Obj)) (s:Shared) (σ:St) (H:Hp) (x:V) (xs:List V) (v:Value) (us:List Value) (Q:VK),Inv X pins σ H s->RelV x v->Vals xs us->r x xs H Q ->
  wpAny (model X.prog X.w) X.A (call (.builtin id) (v::us)) (EP X pins σ Q) X.xe s
theorem Vals.one:∀ {x:V} {us:List Value},Vals [x] us->∃ u,us=[u]/\RelV x u
 | _,_,.cons r .nil=>⟨_,rfl,r⟩
section
variable {X:Cx} {pins:List (Addr × Obj)} {σ:St} {H:Hp} {s:Shared} {l b:Addr} {xs ys zs:List V}
theorem Inv.lset {its its':List Value} {n:Nat} {f:Array Value->Array Value} {t':Nat} (I:Inv X pins σ H s) (hH:H l=some (.lst xs))
  (e:s.heap.get? l=some { cls:=.type "list",data:=.seq its.toArray n }) (hf:f its.toArray=its'.toArray) (hv:Vals ys its') (hz:ys.length<=sizeLine) :
  Inv X pins σ (upd H l (.lst ys)) { s with heap:=s.heap.update l (Obj.mapSeq f),toks:=t' }:=by
 have q:=PySem.IsL.update e f
 rw [hf] at q
 refine I.write (x:=l) (e:=l) (by rw [hH];exact trivial) (.inl rfl) (fun b' u hb hu=>(Heap.get?_update_other s.heap (Obj.mapSeq f) (Ne.symm hb)).trans hu) ⟨_,q⟩ ?_
 exact ⟨hz,its',_,hv,q⟩
theorem Inv.lnew {its:List Value} {t':Nat} (I:Inv X pins σ H s) (hv:Vals ys its) (hz:ys.length<=sizeLine) :
  Inv X pins σ (upd H s.heap.objs.size (.lst ys)) { s with heap:=s.heap.push { cls:=.type "list",data:=.seq its.toArray },toks:=t' } :=
 I.laid (fun _ _ q=>Heap.get?_push_of_some _ q) (Nat.le_refl _) ⟨hz,its,0,hv,Heap.get?_push_size _ rfl⟩
theorem Inv.fresh (I:Inv X pins σ H s):H s.heap.objs.size=none:=I.hok.fresh (Nat.le_refl _)
theorem Inv.lstM (I:Inv X pins σ H s) (hH:H l=some (.lst xs)):xs.length<=sizeLine/\∃ (its:List Value) (n:Nat),Vals xs its/\xs.length=its.length/\s.heap.get? l=some { cls:=.type "list",data:=.seq its.toArray n }:=by
 obtain ⟨z,its,n,r,e⟩:=I.hok l _ hH
 exact ⟨z,its,n,r,r.length,e⟩
end
section
variable {X:Cx}
def rAppend:V->List V->Hp->VK->Prop:=fun x vs H Q=>∃ l xs y,x=.ref l/\vs=[y]/\H l=some (.lst xs)/\xs.length < sizeLine/\Q .non (upd H l (.lst (xs++[y])))
theorem mt_append:MtM X "list.append" rAppend:=by
 intro pins s σ H x vs v us Q I rx rv h
 obtain ⟨l,xs,y,rfl,rfl,hH,hz,q⟩:=h
 cases rx
 obtain ⟨u,rfl,ru⟩:=rv.one
 obtain ⟨z,its,n,r,hl,e⟩:=I.lstM hH
 refine call_meets F.slot_list_append ⟨_,e,rfl⟩ F.entry_list_append (F.args_list_append_2 _ _) (PySem.list_append l its.toArray n u (by rw [List.size_toArray];omega)) ⟨e,?_⟩
 refine ⟨.non,_,I.lset (its':=its++[u]) hH e (by simp) (r.append (.cons ru .nil)) ?_,rfl,q⟩
 rw [List.length_append,List.length_singleton]
 omega
def rCat:R2:=fun x y H Q=>∃ l b xs zs,x=.ref l/\y=.ref b/\H l=some (.lst xs)/\H b=some (.lst zs)/\xs.length+zs.length<=sizeLine/\∀ p,H p=none->Q (.ref p) (upd H p (.lst (xs++zs)))
theorem op_cat:OpR X (binaryOp .Add) rCat:=by
 intro pins s σ H x y v u Q I rx ry h
 obtain ⟨l,b,xs,zs,rfl,rfl,hH,hB,hz,q⟩:=h
 cases rx
 cases ry
 obtain ⟨z,its,n,r,hl,e⟩:=I.lstM hH
 obtain ⟨z2,its2,n2,r2,hl2,e2⟩:=I.lstM hB
 refine PySem.P.add_list e e2 ?_ (by rw [List.size_toArray,List.size_toArray];omega)
 have ea:its.toArray++its2.toArray=(its++its2).toArray:=by simp
 rw [ea]
 exact ⟨.ref _,_,I.lnew (t':=s.toks) (r.append r2) (by rw [List.length_append];omega),rfl,q _ I.fresh⟩
end
section
variable {prog:Program} {w:World} {A:Around} {E:Value->Shared->Prop} {s:Shared}
set_option maxRecDepth 100000 in
end
section
variable {X:Cx}
end
end L2
namespace Att
open PySem PySem.W PySem.Calls PyProof.Rows
theorem ints_of_wellAll {P:Params} {h:Heap}:∀ (ns:List Int) (vs:List Value),WellAll P h vs (ns.map WData.int)->IntsAre vs ns:=by
 intro ns
 induction ns with
 | nil =>
  intro vs w
  rw [List.map_nil] at w
  cases w
  exact .nil
 | cons n ns ih =>
  intro vs w
  rw [List.map_cons] at w
  cases w with
  | cons a b =>
   cases a
   exact .cons _ _ (ih _ b)
theorem script_of {l:OpenLaw} {n:Nat} (hn:l.most=some n) {P:Params} {h:Heap} {args:List WData} {vals:List Value}
  (hpre:l.row.toRowW.claim.pre args=true) (hwl:WellAll P h vals args) :
  ∃ a vs ns,vals=[Value.ref a]/\args=[WData.list (ns.map WData.int)]/\h.get? a=some { cls:=.type "list",data:=.seq vs.toArray }/\IntsAre vs ns/\ns.length<=n:=by
 have hsh:WShape.hasAll [] args [.list .int]=true:=(pre_splitW hpre).1
 have hc:l.pre.holds [] { args:=args }=true:=(pre_splitW hpre).2
 obtain ⟨d,r,rfl,h1,h2⟩:=hasAllW_cons hsh
 obtain rfl:=hasAllW_nil h2
 obtain ⟨xs,rfl,h3⟩:=hasW_list h1
 obtain ⟨ns,rfl⟩:=items_int h3
 have hlen:ns.length<=n:=by
  unfold OpenLaw.pre at hc
  have h4:(WTm.not (.lt (.lit (.int (n:Int))) (.len (.arg 0)))).holds [] { args:=[.list (ns.map .int)] }=true:=by
   have h4:=(holds_andW hc).1
   rw [hn] at h4
   exact h4
  have h5:=condW_of h4 (w_not (w_lt w_lit (w_len_list (w_arg rfl))))
  rw [List.length_map] at h5
  refine Nat.le_of_not_lt fun q=>?_
  have q':(n:Int) < ((ns.length:Nat):Int):=by omega
  first
   | (rw [decide_eq_true q'] at h5;exact absurd h5 (by decide))
   | (simp at h5;omega)
 cases hwl with
 | cons w1 w2 =>
  cases w2
  cases w1 with
  | list ho hall=>exact ⟨_,_,ns,rfl,rfl,ho,ints_of_wellAll ns _ hall,hlen⟩
theorem post_true (l:OpenLaw) (args:List WData):l.row.toRowW.claim.post args (.bool true) args=true :=
 postW_of (r:=l.row.toRowW) (X:=(true == true))
  (show WShape.has [] (.bool true) .bool=true by first | rfl | decide | simp [WShape.has,WShape.arms,WShape.armsAll])
  (show (WTm.eq .res (.lit (.bool true))).value [] { args:=args,res:=some (.bool true),after:=args }=some (.bool (true == true)) from w_eq_bool (w_res rfl) w_lit) rfl
theorem attach_call {l:OpenLaw} {n:Nat} {q:Program} {loose:List Str} {XP:(Str->Option Value)->Heap->Prop} {YP:World->Heap->Prop} {d:DefRec}
  (hn:l.most=some n) (hdf:d.params.defaults=[])
  (call:∀ (w:World) (s₀ s₁:Shared) (mg mb:Str->Option Value) (fa:Addr) (o:Obj) (pm cd doc:Value) (a:Addr) (vs:List Value) (ns:List Int),
   Ground q loose [] XP w s₀ mg mb s₁.heap->YP w s₁.heap ->
   s₁.heap.get? fa=some o->o.data=.func (docDef d.name d.params d.body d.scope pm cd doc)->s₁.heap.CodeRec cd d.name->mg d.name=some (.ref fa) ->
   s₁.heap.get? a=some { cls:=.type "list",data:=.seq vs.toArray }->IntsAre vs ns->ns.length<=n->s₁.gens=#[] ->
   codeAny (model l.prog w) callerA (.call (.ref fa) ⟨[.ref a],[]⟩) (fun r s'=>r=.ok (.ret (.bool true))/\OldK s₁.heap s'.heap/\s'.os=s₁.os/\AllBare s'.gens) s₁) :
  WalkO q loose XP YP l.row.toRowW d [] (fun f vs=>PySem.call f vs):=by
 intro w s₀ s₁ mg mb G Y fa o pm cd doc dV kV ho hd hcd hD hmg hg args vals as hpre hlay hrd hwl hlo
 obtain rfl:dV=.none:=Dflts.none hD hdf
 obtain rfl:kV=.none:=Dflts.noKw hD
 obtain ⟨a,vs,ns,rfl,rfl,hobj,hints,hlen⟩:=script_of hn hpre hwl
 refine enter_call (codeAny_mono (call w s₀ s₁ mg mb fa o pm cd doc a vs ns G Y ho (fd_plain hd) hcd hmg hobj hints hlen hg) fun r s' hq=>?_)
 obtain ⟨rfl,h2,h3,h4⟩:=hq
 exact ⟨.inl ⟨.bool true,.bool true,[],rfl,fun _=>rfl,.bool true,post_true l _,fun _=>⟨List.Pairwise.nil,fun _ hm=>(nomatch hm)⟩⟩,h2,h3,h4⟩
section
variable {prog:Program} {w:World} {A:Around} {E:Value->Shared->Prop} {s:Shared} {K:Frag}
def ledger (h:Heap) (L d:Addr):List (Addr × Obj):=(List.range h.objs.size).filterMap fun a=>if a=L\/a=d then none else (h.get? a).map fun o=>(a,o)
end
end Att
namespace L2
open PySem PySem.Spec PyProof.Rows
theorem vals_ints:∀ {vs:List Value} {ns:List Int},IntsAre vs ns->Vals (ns.map V.int) vs
 | _,_,.nil=>.nil
 | _,_,.cons n t h=>.cons ⟨t,rfl⟩ (vals_ints h)
def Only (H:Hp):Prop:=∀ b,H b=none\/∃ o xs,H b=some (.frz o (.lst xs))
theorem law_call {P:Program} {w:World} {K:PySem.W.Frag} {mg mb:Str->Option Value} {CX:CXT} {k:Nat} {fa a:Addr} {fd:FuncData} {x:Str} {sp:Sp} {s₁:Shared} {vs:List Value} {ns:List Int}
  (KX:K.In s₁.heap) (hns:s₁.heap.Ns mainGlobals mg) (hb:s₁.heap.Ns builtinsNs mb) (hbb:∀ x:Str,x≠"__name__" -> mb x=bootBuiltins x) (hlim:s₁.heap.NoLimit) (hg:s₁.gens=#[])
  (ha:s₁.heap.get? a=some { cls:=.type "list",data:=.seq vs.toArray }) (hi:IntsAre vs ns) (hl:ns.length<=sizeLine) (hr:Room k callerA)
  (F:∀ base:Heap,K.In base->base.Ns mainGlobals mg->FnOk P w K mg base CX k fa fd [x] sp) (hbind:∀ (s:Shared) (u:Value),BindsTo s fd ⟨[u],[]⟩ [(x,u)])
  (hsp:∀ H:Hp,Only H->SqL K H a (ns.map V.int)->sp [.ref a] H (fun v _=>v=.bl true) fun _ _ _=>False)
  (hCX:∀ H e s',CX [] H s₁ (fun _ _ _=>False) e s'->False) :
  codeAny (model P w) callerA (.call (.ref fa) ⟨[.ref a],[]⟩) (fun r s'=>r=.ok (.ret (.bool true))/\OldK s₁.heap s'.heap/\s'.os=s₁.os/\AllBare s'.gens) s₁:=by
 have rv:=vals_ints hi
 have lenV:=hi.length
 have core:∀ H:Hp,Only H->SqL K H a (ns.map V.int)->HOk P w H s₁.heap->(∀ b,H b≠none->b=a)->(H a≠none->K.lookup a=none) ->
   codeAny (model P w) callerA (.call (.ref fa) ⟨[.ref a],[]⟩) (fun r s'=>r=.ok (.ret (.bool true))/\OldK s₁.heap s'.heap/\s'.os=s₁.os/\AllBare s'.gens) s₁:=by
  intro H hO hS hok hA hK
  have base_of:∀ {b:Addr} {o:Obj},s₁.heap.get? b=some o->H b=none->(hidT s₁.heap H).get? b=some o:=fun e n=>hidT_get e n
  have noA:∀ {b:Addr} {o:Obj} {es:Array DictEntry} {ep:Nat},s₁.heap.get? b=some o->o.data=.dict es ep->H b=none:=fun {b o es ep} e d=>by
   cases q:H b with
   | none=>rfl
   | some u =>
    have e':b=a:=hA b (by rw [q];simp)
    subst e'
    rw [ha] at e;cases e
    have d':Data.seq vs.toArray _=Data.dict es ep:=d
    cases d'
  have nsK:∀ {b:Addr} {m:Str->Option Value},s₁.heap.Ns b m->(hidT s₁.heap H).Ns b m:=fun {b m} ⟨o,es,ep,e,d,r⟩=>⟨o,es,ep,base_of e (noA e d),d,r⟩
  have hKb:K.In (hidT s₁.heap H):=fun b o e=>base_of (KX b o e) (by
   cases q:H b with
   | none=>rfl
   | some u =>
    have e':b=a:=hA b (by rw [q];simp)
    subst e'
    rw [hK (by rw [q];simp)] at e;cases e)
  have hM:Mod K mg (hidT s₁.heap H):=⟨hKb,nsK hns,⟨mb,nsK hb,hbb⟩,let ⟨mc,h1,h2⟩:=hlim;⟨mc,nsK h1,h2⟩⟩
  have e0:Env0 P w K mg (hidT s₁.heap H) callerA [] s₁ H:=⟨rfl,hM,fun b o e=>of_hidT e,Nat.le_of_eq (hidT_size _ _),trivial,fun b hb=>absurd (show b∈([]:List Addr) from hb) (by simp),hok,.of_eq hg⟩
  refine codeAny_mono ((F _ hKb (nsK hns)).run callerA [] s₁ H ⟨[.ref a],[]⟩ [.ref a] [.ref a] _ _ hr e0 (hbind s₁ (.ref a)) (.cons rfl .nil) (hsp H hO hS)) fun r s' h=>?_
  cases r with
  | error e=>exact (hCX H e s' h).elim
  | ok fl =>
   cases fl with
   | next=>exact False.elim h
   | brk=>exact False.elim h
   | cont=>exact False.elim h
   | ret u =>
    obtain ⟨v,H',os,bare,un,hok',r',q⟩:=h
    have q':v=.bl true:=q
    subst q'
    obtain rfl:u=Value.bool true:=r'
    refine ⟨rfl,OldK.of_keep fun b o e=>?_,os,bare⟩
    cases q:H b with
    | none=>exact un.keep b o e q (by intro z;exact absurd (show b∈([]:List Addr) from z) (by simp)) (by simp)
    | some u =>
     rcases hO b with z | ⟨ob,xs,z⟩
     ·rw [q] at z;cases z
     ·have z2:=un.frzs b ob _ z
      obtain ⟨e1,_⟩:=hok b _ z
      obtain ⟨e2,_⟩:=hok' b _ z2
      rw [e] at e1;cases e1
      exact e2
 cases hk:K.lookup a with
 | some o =>
  have e:=KX a o hk
  rw [ha] at e
  cases e
  refine core (fun _=>none) (fun _=>.inl rfl) (.inr ⟨_,vs.toArray,_,hk,rfl,rfl,rfl,by rw [List.size_toArray,lenV];exact hl,by simpa using rv⟩) (fun b u z=>by have z':(none:Option HO)=some u:=z;cases z') (fun b z=>absurd rfl z) fun z=>absurd rfl z
 | none =>
  refine core (fun b=>if b=a then some (.frz { cls:=.type "list",data:=.seq vs.toArray } (.lst (ns.map V.int))) else none) (fun b=>?_) (.inl (.inr ⟨{ cls:=.type "list",data:=.seq vs.toArray },if_pos rfl⟩)) (fun b u z=>?_) (fun b z=>?_) fun _=>hk
  ·by_cases hb:b=a
   ·exact .inr ⟨_,_,if_pos hb⟩
   ·exact .inl (if_neg hb)
  ·by_cases hb:b=a
   ·have z':=(if_pos hb).symm.trans z
    cases z'
    subst hb
    exact ⟨ha,by rw [List.length_map];exact hl,vs,_,rv,ha⟩
   ·have z':=(if_neg hb).symm.trans z
    cases z'
  ·by_cases hb:b=a
   ·exact hb
   ·exact absurd (if_neg hb) z
abbrev KOf {K:PySem.W.Frag} {h:Heap} (_:K.In h):PySem.W.Frag:=K
theorem walk_of {l:PySem.W.OpenLaw} {n k:Nat} {q:Program} {loose:List Str} {XP:(Str->Option Value)->Heap->Prop} {YP:World->Heap->Prop} {d:DefRec} {K:Params->PySem.W.Frag} {CX:World->CXT} {sp:World->Sp} {x:Str}
  (hn:l.most=some n) (hn2:n<=sizeLine) (hdf:d.params.defaults=[]) (hr:Room k callerA)
  (hY:∀ (w:World) (h:Heap),YP w h->(K w.params).In h)
  (F:∀ (w:World) (mg:Str->Option Value) (fa:Addr) (h:Heap),(K w.params).In h->h.Ns mainGlobals mg->mg d.name=some (.ref fa) ->
   ∃ fd:FuncData,(∀ (s:Shared) (u:Value),BindsTo s fd ⟨[u],[]⟩ [(x,u)]) /\
    ∀ base:Heap,(K w.params).In base->base.Ns mainGlobals mg->FnOk l.prog w (K w.params) mg base (CX w) k fa fd [x] (sp w))
  (hsp:∀ (w:World) (H:Hp) (a:Addr) (ns:List Int),ns.length<=n->Only H->SqL (K w.params) H a (ns.map V.int)->sp w [.ref a] H (fun v _=>v=.bl true) fun _ _ _=>False)
  (hCX:∀ (w:World) (H:Hp) (s:Shared) (e:Value) (s':Shared),CX w [] H s (fun _ _ _=>False) e s'->False) :
  PySem.W.WalkO q loose XP YP l.row.toRowW d [] (fun f vs=>PySem.call f vs):=by
 refine Att.attach_call hn hdf fun w s₀ s₁ mg mb fa o pm cd doc a vs ns G Y ho hd hcd hmg hobj hints hlen hg=>?_
 have KX:=hY w _ Y
 obtain ⟨fd,hb,hF⟩:=F w mg fa _ KX G.T.g hmg
 exact law_call KX G.T.g G.T.b G.T.builtins G.T.nolimit hg hobj hints (Nat.le_trans hlen hn2) hr hF hb (fun H hO hS=>hsp w H a ns hlen hO hS) fun H e s'=>hCX w H s₁ e s'
def inClass (s:Stmt) (j:Nat):Stmt:=match s with
 | .ClassDef _ _ _ body _ _ _ _ _ _ _=>body.getD j (.Pass ⟨0,0,0,0⟩)
 | _=>.Pass ⟨0,0,0,0⟩
def defArgs (s:Stmt):Arguments:=match s with
 | .FunctionDef _ a _ _ _ _ _ _ _ _=>a
 | _=>{ posonlyargs:=[],args:=[],vararg:=none,kwonlyargs:=[],kw_defaults:=[],kwarg:=none,defaults:=[] }
def defBody (s:Stmt):List Stmt:=match s with
 | .FunctionDef _ _ b _ _ _ _ _ _ _=>b
 | _=>[]
def defScope (s:Stmt):Scope:=match s with
 | .FunctionDef _ _ _ _ _ _ sc _ _ _=>sc
 | _=>{ kind:=.function,names:=[],isGenerator:=false,isCoroutine:=false }
abbrev CX0:CXT:=fun _ _ _ _ _ _=>False
abbrev E0:XK:=fun _ _ _=>False
theorem pass0 {X:Cx}:Passes CX0 X E0:=fun _ _ _ _ _ _ _ h=>h.elim
structure Fun (K:PySem.W.Frag) (x qual:Str) (st:Stmt) (f:Addr) (fd:FuncData):Prop where
 ex:∃ (oc:Value) (od:Option Addr) (kV doc pm:Value) (an:Option Addr) (cdv ct:Value) (osl:Array (Option Value)),
  fd=PySem.W.fnOf x qual (defArgs st) (defBody st) (defScope st) .none kV doc pm an cdv ct/\K.lookup f=some ⟨oc,od,.func fd,osl⟩/\PySem.W.codeIn K cdv qual=true
 kp:PySem.W.keepIn K (.ref f)=true
section
variable {P:Program} {w:World} {K:PySem.W.Frag} {mg:Str->Option Value} {base:Heap}
theorem Fun.ok {x qual:Str} {st:Stmt} {f:Addr} {fd:FuncData} {N ps:List Str} {k:Nat} {sp:Sp} (F:Fun K x qual st f fd) (S:FnScope N ps (defScope st)) (len:∀ vs H Q E,sp vs H Q E->vs.length=ps.length)
  (hbody:∀ (cdv:Value) (A:Around) (outer:List Env) (s:Shared) (H:Hp) (vs:List V) (Q:VK) (E:XK),Room k (A.deeper (envOfC qual (defScope st) s.heap.objs.size f cdv))->sp vs H Q E ->
   ∃ t,PSs (cxOf CX0 P w K mg base N qual (defScope st) f cdv A outer s H E).nox (defBody st) t/\t { nx:=fun _ H'=>Q .non H',rt:=Q } (start N vs) H):FnOk P w K mg base CX0 (k+1) f fd ps sp:=by
 obtain ⟨oc,od,kV,doc,pm,an,cdv,ct,osl,rfl,lk,hcd⟩:=F.ex
 refine fn_of lk hcd S len fun A outer s H vs Q E hr hsp=>?_
 obtain ⟨t,h,q⟩:=hbody cdv A outer s H vs Q E hr hsp
 exact ⟨t,h.nox,q⟩
theorem Fun.binds {x qual:Str} {st:Stmt} {f:Addr} {fd:FuncData} {ps:List Str} (F:Fun K x qual st f fd)
  (h:∀ (kV doc pm:Value) (an:Option Addr) (cdv ct:Value) (us:List Value),us.length=ps.length->bindArgs (PySem.W.fnOf x qual (defArgs st) (defBody st) (defScope st) .none kV doc pm an cdv ct) ⟨us,[]⟩=pure (ps.zip us)):Binds K fd ps []:=by
 obtain ⟨oc,od,kV,doc,pm,an,cdv,ct,osl,rfl,lk,hcd⟩:=F.ex
 exact .all (h kV doc pm an cdv ct)
theorem fun_mk {x qual:Str} {st:Stmt} {f:Addr} {oc:Value} {od an:Option Addr} {osl:Array (Option Value)} {kV doc pm cdv ct:Value} (l:K.lookup f=some ⟨oc,od,.func (PySem.W.fnOf x qual (defArgs st) (defBody st) (defScope st) .none kV doc pm an cdv ct),osl⟩)
  (c:W.codeIn K cdv qual=true) (k:W.keepIn K (.ref f)=true):Fun K x qual st f (W.fnOf x qual (defArgs st) (defBody st) (defScope st) .none kV doc pm an cdv ct):=⟨⟨oc,od,kV,doc,pm,an,cdv,ct,osl,rfl,l,c⟩,k⟩
end
theorem small1000 {n:Nat} (h:n<=1000):n < sizeLine:=Nat.lt_of_le_of_lt h (by decide)
section
variable {X:Cx}
theorem pv (i:Nat) {x:Str} {pos:Pos} (hN:X.N[i]?=some x:=by rfl) (hv:Vis X.env.scope x:=by first | exact Or.inl rfl | exact Or.inr (Or.inl rfl) | exact Or.inr (Or.inr rfl)) (hd:(x == ("__debug__" : Str))=false:=by decide)
  (hcd:(x == ("__classdict__" : Str))=false:=by decide):PE X (.Name x pos) (tVar i):=pe_var hN hv hd hcd
end
theorem iteF {A B:Prop} (h:B):if false=true then A else B:=by
 rw [if_neg Bool.false_ne_true]
 exact h
theorem iteT {A B:Prop} (h:A):if true=true then A else B:=by
 rw [if_pos rfl]
 exact h
theorem ite2 {c A B:Prop} [Decidable c] (h1:c->A) (h2:¬ c->B):if c then A else B:=by
 by_cases h:c
 ·rw [if_pos h]
  exact h1 h
 ·rw [if_neg h]
  exact h2 h
def Same (H H':Hp):Prop:=∀ b o,H b=some o->H' b=some o
theorem Same.refl (H:Hp):Same H H:=fun _ _ h=>h
theorem Same.trans {H H1 H2:Hp} (a:Same H H1) (b:Same H1 H2):Same H H2:=fun c o h=>b c o (a c o h)
theorem Same.free {H H':Hp} (e:Same H H') {l:Addr} (h:H' l=Option.none):H l=Option.none:=by
 cases q:H l with
 | none=>rfl
 | some o =>
  rw [e l o q] at h
  cases h
theorem Same.seq {K:PySem.W.Frag} {H H':Hp} {a:Addr} {xs:List V} (e:Same H H') (h:SqL K H a xs):SqL K H' a xs:=by
 rcases h with (h | ⟨o,h⟩) | h
 ·exact .inl (.inl (e _ _ h))
 ·exact .inl (.inr ⟨o,e _ _ h⟩)
 ·exact .inr h
end L2
set_option maxHeartbeats 4000000
namespace L2
open PySem PySem.Spec PyProof.Rows
section
variable {κ:Type} [DecidableEq κ]
end
section
variable {P:Program} {w:World} {H:Hp} {h:Heap} {a:Addr}
end
section
variable {X:Cx} {pins:List (Addr × Obj)} {σ:St} {H:Hp} {s:Shared} {a:Addr} {y v:V} {u r:Value} {o:Option V} {A:Around} {E:Value->Shared->Prop}
theorem Inv.big (I:Inv X pins σ H s):sysModules < s.heap.objs.size:=by
 have h:mainGlobals < s.heap.objs.size:=(I.mod.glob.keeps I.bk).lt
 exact Nat.lt_trans (by decide) h
end
section
variable {X:Cx} {pins:List (Addr × Obj)} {σ:St} {H:Hp} {s:Shared} {a:Addr} {kvs:List (Key × V)} {k:Key} {u:Value} {A:Around} {E:Value->Shared->Prop}
end
section
variable {X:Cx} {o i e value:Expr} {pos pos' tpos:Pos} {td ty tv:TE}
end
theorem dk_empty {P:Program} {w:World} {H:Hp} (h:Heap) (hb:sysModules < h.objs.size):ObjOk P w H (h.push { cls:=.type "dict",data:=.dict #[] }) h.objs.size (.dK []) :=
 ⟨Nat.zero_le _,beq_eq_false_iff_ne.mpr (Ne.symm (Nat.ne_of_lt hb)),[],.nil,Heap.DictOf.new h⟩
def tDNewK:TE:=fun _ H Q=>∀ p,H p=none->Q (.ref p) (upd H p (.dK []))
section
variable {X:Cx} {pos:Pos}
theorem pe_dnewK:PE X (.Dict [] [] pos) tDNewK:=fun pins s σ H Q I h =>
 wpAny_Dict_empty ⟨.ref s.heap.objs.size,_,I.laid (a:=s.heap.objs.size) (o:=.dK []) (t':=s.toks) (fun _ _ q=>Heap.get?_push_of_some _ q) (Nat.le_refl _) (dk_empty s.heap I.big),rfl,h _ (I.hok.fresh (Nat.le_refl _))⟩
end
section
variable {X:Cx} {pins:List (Addr × Obj)} {σ:St} {H:Hp} {s:Shared} {a:Addr} {y d:V} {u r:Value} {o:Option V} {A:Around} {E:Value->Shared->Prop}
end
section
variable {X:Cx} {o e f:Expr} {apos cpos:Pos} {td ty tx:TE}
end
section
variable {X:Cx} {pins:List (Addr × Obj)} {σ:St} {H:Hp} {s:Shared} {a:Addr} {kvs:List (Key × V)} {A:Around} {E:Value->Shared->Prop}
end
section
variable {X:Cx} {pins:List (Addr × Obj)} {σ:St} {H:Hp} {s:Shared} {a:Addr} {y:V} {u:Value} {A:Around} {E:Value->Shared->Prop}
end
section
variable {X:Cx}
end
section
variable {κ:Type} [DecidableEq κ]
theorem nd_snoc:∀ {l:List κ} {k:κ},l.Nodup->¬ k∈l->(l++[k]).Nodup
 | [],k,_,_=>by simp
 | a::r,k,h,hk=>by
  obtain ⟨h1,h2⟩:=List.nodup_cons.mp h
  show (a::(r++[k])).Nodup
  refine List.nodup_cons.mpr ⟨fun m=>?_,nd_snoc h2 fun m=>hk (List.mem_cons.mpr (Or.inr m))⟩
  rcases List.mem_append.mp m with q | q
  ·exact h1 q
  ·exact hk (List.mem_cons.mpr (Or.inl (List.mem_singleton.mp q).symm))
end
section
variable {M:Model} {A:Around} {E:Value->Shared->Prop} {s:Shared}
def clOf (env:Env):List (Str × NameKind)->List (Str × Addr)->List (Str × Addr)
 | [],acc=>acc
 | (n,k)::r,acc=>if (k == NameKind.free)=true then clOf env r ((n,(env.cells.lookup n).getD 0)::acc) else clOf env r acc
theorem clOf_loop {env:Env} (f:Str × NameKind->List (Str × Addr)->Sem (ForInStep (List (Str × Addr))))
  (hf:∀ n k cs,f (n,k) cs=if (k == NameKind.free)=true then (do let a <- cellOf env n;pure (.yield ((n,a)::cs))) else pure (.yield cs)) :
  ∀ (names:List (Str × NameKind)) (acc:List (Str × Addr)),(∀ p∈names,p.2=.free->∃ c,env.cells.lookup p.1=some c)->forIn names acc f=pure (clOf env names acc)
 | [],acc,_=>by rw [List.forIn_nil];rfl
 | (n,k)::r,acc,h=>by
  have hr:∀ p∈r,p.2=.free->∃ c,env.cells.lookup p.1=some c:=fun p hp=>h p (List.mem_cons_of_mem _ hp)
  rw [List.forIn_cons,hf,clOf]
  by_cases hk:(k == NameKind.free)=true
  ·obtain ⟨c,hc⟩:=h (n,k) List.mem_cons_self (by simpa using hk)
   have hc':env.cells.lookup n=some c:=hc
   rw [if_pos hk,if_pos hk]
   have e:cellOf env n=pure c:=by unfold cellOf;rw [hc']
   rw [e,hc']
   exact clOf_loop f hf r _ hr
  ·rw [if_neg hk,if_neg hk]
   exact clOf_loop f hf r _ hr
theorem closureFor_of {sc:Scope} {env:Env} (h:∀ p∈sc.names,p.2=.free->∃ c,env.cells.lookup p.1=some c):closureFor sc env=pure (clOf env sc.names []):=by
 unfold closureFor
 have e:=clOf_loop (env:=env) (fun (x:Str × NameKind) (r:List (Str × Addr))=>if (x.2 == NameKind.free)=true then (do let a <- cellOf env x.1;pure (ForInStep.yield ((x.1,a)::r))) else pure (ForInStep.yield r)) (fun _ _ _=>rfl) sc.names [] h
 exact (congrArg (fun m=>m >>= fun cs=>pure cs) e)
theorem clOf_mem {env:Env} {x:Str} {c:Addr}:∀ {names:List (Str × NameKind)} {acc:List (Str × Addr)},(x,c)∈clOf env names acc->(x,c)∈acc\/((x,NameKind.free)∈names/\c=(env.cells.lookup x).getD 0)
 | [],_,h=>.inl h
 | (n,k)::r,acc,h=>by
  unfold clOf at h
  split at h
  ·rename_i hk
   have hk':k=.free:=by simpa using hk
   rcases clOf_mem h with q | ⟨q,e⟩
   ·rcases List.mem_cons.mp q with q | q
    ·cases q;exact .inr ⟨by rw [hk'];exact List.mem_cons_self,rfl⟩
    ·exact .inl q
   ·exact .inr ⟨List.mem_cons_of_mem _ q,e⟩
  ·rcases clOf_mem h with q | ⟨q,e⟩
   ·exact .inl q
   ·exact .inr ⟨List.mem_cons_of_mem _ q,e⟩
theorem lookup_mem_some {β:Type} {x:Str} {c:β}:∀ {l:List (Str × β)},(x,c)∈l->∃ c',l.lookup x=some c'
 | [],h=>nomatch h
 | (n,k)::r,h=>by
  cases hx:x == n with
  | true=>exact ⟨k,by simp [List.lookup_cons,hx]⟩
  | false =>
   rcases List.mem_cons.mp h with q | q
   ·cases q;simp at hx
   ·obtain ⟨c',e⟩:=lookup_mem_some q
    exact ⟨c',by simp [List.lookup_cons,hx,e]⟩
theorem clOf_has {env:Env} {x:Str}:∀ {names:List (Str × NameKind)} {acc:List (Str × Addr)},((x,NameKind.free)∈names\/∃ c,(x,c)∈acc)->∃ c,(x,c)∈clOf env names acc
 | [],acc,h=>by
  rcases h with h | ⟨c,h⟩
  ·exact nomatch h
  ·exact ⟨c,h⟩
 | (n,k)::r,acc,h=>by
  unfold clOf
  split
  ·rename_i hk
   apply clOf_has
   rcases h with h | ⟨c,h⟩
   ·rcases List.mem_cons.mp h with q | q
    ·cases q;exact .inr ⟨_,List.mem_cons_self⟩
    ·exact .inl q
   ·exact .inr ⟨c,List.mem_cons_of_mem _ h⟩
  ·rename_i hk
   apply clOf_has
   rcases h with h | ⟨c,h⟩
   ·rcases List.mem_cons.mp h with q | q
    ·cases q;simp at hk
    ·exact .inl q
   ·exact .inr ⟨c,h⟩
theorem cellsFrom_append:∀ (names:List (Str × NameKind)) (n:Nat) (acc:List (Str × Addr)),cellsFrom n names acc=cellsFrom n names []++acc
 | [],_,_=>rfl
 | (x,k)::r,n,acc=>by
  unfold cellsFrom
  split
  ·rw [cellsFrom_append r (n+1) ((x,n)::acc),cellsFrom_append r (n+1) [(x,n)]];simp
  ·exact cellsFrom_append r n acc
theorem cellsFrom_mem {x:Str} {c:Addr}:∀ {names:List (Str × NameKind)} {n:Nat} {acc:List (Str × Addr)},(x,c)∈cellsFrom n names acc->(x,c)∈acc\/(x,NameKind.cell)∈names
 | [],_,_,h=>.inl h
 | (m,k)::r,n,acc,h=>by
  unfold cellsFrom at h
  split at h
  ·rename_i hk
   have hk':k=.cell:=by simpa using hk
   rcases cellsFrom_mem h with q | q
   ·rcases List.mem_cons.mp q with q | q
    ·cases q;exact .inr (by rw [hk'];exact List.mem_cons_self)
    ·exact .inl q
   ·exact .inr (List.mem_cons_of_mem _ q)
  ·rcases cellsFrom_mem h with q | q
   ·exact .inl q
   ·exact .inr (List.mem_cons_of_mem _ q)
theorem cellsFrom_has {x:Str}:∀ {names:List (Str × NameKind)} {n:Nat} {acc:List (Str × Addr)},((x,NameKind.cell)∈names\/∃ c,(x,c)∈acc)->∃ c,(x,c)∈cellsFrom n names acc
 | [],n,acc,h=>by
  rcases h with h | ⟨c,h⟩
  ·exact nomatch h
  ·exact ⟨c,h⟩
 | (m,k)::r,n,acc,h=>by
  unfold cellsFrom
  split
  ·apply cellsFrom_has
   rcases h with h | ⟨c,h⟩
   ·rcases List.mem_cons.mp h with q | q
    ·cases q;exact .inr ⟨_,List.mem_cons_self⟩
    ·exact .inl q
   ·exact .inr ⟨c,List.mem_cons_of_mem _ h⟩
  ·rename_i hk
   apply cellsFrom_has
   rcases h with h | ⟨c,h⟩
   ·rcases List.mem_cons.mp h with q | q
    ·cases q;simp at hk
    ·exact .inl q
   ·exact .inr ⟨c,h⟩
theorem lookup_app {β:Type} {x:Str}:∀ (l1 l2:List (Str × β)),(l1++l2).lookup x=(l1.lookup x).or (l2.lookup x)
 | [],_=>by simp
 | (n,k)::r,l2=>by
  cases hx:x == n with
  | true=>simp [List.lookup_cons,hx]
  | false=>simp [List.lookup_cons,hx,lookup_app r l2]
theorem newEnv_comp {scope:Scope} {globals:Addr} {cl:List (Str × Addr)} {qual:Str} {env:Env} {Q:Env->Shared->Prop}
  (hQ:Q { scope,locals:=s.heap.objs.size,globals,cells:=cellsFrom (s.heap.objs.size+1) scope.names cl,qual,func:=none,code:=env.code,frame:=env.frame,builtins:=env.builtins }
   { s with heap:=pushCells (s.heap.push { cls:=.type "dict",data:=.dict #[] }) scope.names }) :
  wpAny M A (newFunctionEnv scope globals cl [] qual none .none (some env)) Q E s:=by
 have z:(s.heap.push { cls:=.type "dict",data:=.dict #[] }).objs.size=s.heap.objs.size+1:=Heap.size_push ..
 show wpAny M A (alloc { cls:=.type "dict",data:=.dict #[] } >>= _) Q E s
 apply wpAny_bind;apply wpAny_alloc;apply wpAny_bind
 refine wpAny_layCells _ (fun _ k _=>by by_cases y:k=NameKind.cell<;>simp [y]) _ _ _ _ ?_
 dsimp only
 rw [List.forIn_nil,z]
 exact wpAny_bind (wpAny_pure (wpAny_pure hQ))
theorem lookup_relabel {env:Env} {x:Str}:∀ (names:List (Str × NameKind)),
  (names.map fun (n,k)=>if (k == NameKind.free && env.scope.kind == .function && env.kindOf n == some .cell) then (n,NameKind.cell) else (n,k)).lookup x =
   (names.lookup x).map fun k=>if (k == NameKind.free && env.scope.kind == .function && env.kindOf x == some .cell)=true then NameKind.cell else k
 | []=>by simp
 | (n,k)::r=>by
  have ih:=lookup_relabel (env:=env) (x:=x) r
  cases hx:x == n with
  | true =>
   have e:x=n:=by simpa using hx
   subst e
   rw [List.map_cons]
   dsimp only
   by_cases hc:(k == NameKind.free && env.scope.kind == .function && env.kindOf x == some .cell)=true
   ·rw [if_pos hc,List.lookup_cons,List.lookup_cons,hx];dsimp only [Option.map_some];rw [if_pos hc]
   ·rw [if_neg hc,List.lookup_cons,List.lookup_cons,hx];dsimp only [Option.map_some];rw [if_neg hc]
  | false =>
   rw [List.map_cons]
   dsimp only
   by_cases hc:(k == NameKind.free && env.scope.kind == .function && env.kindOf n == some .cell)=true
   ·rw [if_pos hc,List.lookup_cons,List.lookup_cons,hx];exact ih
   ·rw [if_neg hc,List.lookup_cons,List.lookup_cons,hx];exact ih
end
def cxC (X:Cx) (own:List Str) (fr:List Nat) (scope:Scope) (s2:Shared) (H2:Hp) (fp:List Addr):Cx where
 prog:=X.prog
 w:=X.w
 K:=X.K
 mg:=X.mg
 base:=X.base
 A:=X.A
 N:=own++fr.map (fun i=>X.N.getD i Str.empty)
 s₀:=s2
 H₀:=H2
 env:={ scope:=relabel scope X.env,locals:=s2.heap.objs.size+1,globals:=X.env.globals,cells:=cellsFrom (s2.heap.objs.size+2) scope.names (clOf X.env scope.names []),qual:=X.env.qual,func:=none,code:=X.env.code,frame:=X.env.frame,builtins:=X.env.builtins }
 outer:=X.stack
 stack:=X.stack
 ex:=fp
 fn:=fun x=>scope.names.lookup x == some .cell
 calm:=X.calm
 pn:=[]
 xe:=fun _ _=>False
def cSt (own:List Str) (fr:List Nat) (σ:St):St:=List.replicate own.length none++fr.map fun i=>(σ[i]?).join
def compOk (osc:List (Str × NameKind)) (N:List Str) (own:List Str) (fr:List Nat) (sc:Scope):Bool :=
 decide (sc.kind=.function) && decide ((sc.names.map (·.1)).Nodup) &&
 sc.names.all (fun y=>!(y.2 == .free) || (osc.lookup y.1 == some .cell || osc.lookup y.1 == some .free)) &&
 fr.all (fun i=>decide (i < N.length) && (sc.names.lookup (N.getD i Str.empty) == some .free))
structure CompSc (X:Cx) (own:List Str) (fr:List Nat) (sc:Scope):Prop where
 kind:sc.kind=.function
 nd:(sc.names.map (·.1)).Nodup
 fre:∀ y∈sc.names,y.2=.free->X.env.scope.names.lookup y.1=some .cell\/X.env.scope.names.lookup y.1=some .free
 frl:∀ i∈fr,i < X.N.length
 frv:∀ i∈fr,sc.names.lookup (X.N.getD i Str.empty)=some .free
theorem compSc {X:Cx} {own:List Str} {fr:List Nat} {sc:Scope} {osc:List (Str × NameKind)} {N:List Str} (h1:X.env.scope.names=osc) (h2:X.N=N) (h:compOk osc N own fr sc=true):CompSc X own fr sc:=by
 unfold compOk at h
 simp only [Bool.and_eq_true,decide_eq_true_eq,List.all_eq_true] at h
 obtain ⟨⟨⟨h3,h4⟩,h5⟩,h6⟩:=h
 refine ⟨h3,h4,fun y hy hf=>?_,fun i hi=>?_,fun i hi=>?_⟩
 ·have:=h5 y hy
  rw [h1]
  simpa [hf] using this
 ·rw [h2];exact (h6 i hi).1
 ·rw [h2];simpa using (h6 i hi).2
theorem lookup_of_mem_nd {x:Str} {k:NameKind}:∀ {l:List (Str × NameKind)},(l.map (·.1)).Nodup->(x,k)∈l->l.lookup x=some k
 | [],_,h=>nomatch h
 | (n,q)::r,nd,h=>by
  rcases List.mem_cons.mp h with e | e
  ·cases e;simp [List.lookup_cons]
  ·have nd':=List.nodup_cons.mp nd
   have hne:(x == n)=false:=by
    have:x≠n:=fun z=>nd'.1 (by rw [<- z];exact List.mem_map.mpr ⟨_,e,rfl⟩)
    simpa using this
   rw [List.lookup_cons,hne]
   exact lookup_of_mem_nd nd'.2 e
section
variable {X:Cx} {pins:List (Addr × Obj)} {σ:St} {H:Hp} {s:Shared} {own:List Str} {fr:List Nat} {sc:Scope} {fp:List Addr}
abbrev hC (s:Shared) (sc:Scope) (h1:Heap):Heap:=pushCells (h1.push { cls:=.type "dict",data:=.dict #[] }) sc.names
theorem inv_comp (I : Inv X pins σ H s) (S : CompSc X own fr sc) (hfp : ∀ b ∈ fp, FpOk X pins H b) {h1 : Heap} (hz : h1.objs.size = s.heap.objs.size + 1) (hk : ∀ b o, s.heap.get? b = some o → h1.get? b = some o) (hfl : ∀ b ∈ fp, @LT.lt Nat _ b s.heap.objs.size) :
    Inv (cxC X own fr sc s H fp) [] (cSt own fr σ) H { s with heap := hC s sc h1 } := by
  have kk : ∀ b o, s.heap.get? b = some o → (hC s sc h1).get? b = some o := fun b o e => pushCells_keeps _ _ b o (Heap.get?_push_of_some _ (hk b o e))
  have nsC : (hC s sc h1).Ns (s.heap.objs.size + 1) (fun _ => none) := by
    have q := (Heap.Ns.new h1 (.type "dict")).keeps (pushCells_keeps sc.names _)
    rw [hz] at q
    exact q
  have ok := cellsFrom_ok sc.names (h1.push { cls := .type "dict", data := .dict #[] }) (s.heap.objs.size + 2) [] ⟨fun _ _ hm => (nomatch hm), List.Pairwise.nil⟩ (by rw [Heap.size_push, hz]; exact Nat.le_refl _)
  rw [Heap.size_push, hz] at ok
  have fcell : ∀ y ∈ sc.names, y.2 = .free → ∃ c, X.env.cells.lookup y.1 = some c := fun y hy hf => I.ok.has y.1 (by
    rcases S.fre y hy hf with q | q
    · exact .inl q
    · exact .inr q)
  have old : ∀ x c, (clOf X.env sc.names []).lookup x = some c → X.env.cells.lookup x = some c ∧ (x, NameKind.free) ∈ sc.names := fun x c e => by
    rcases clOf_mem (PySem.mem_of_lookup e) with q | ⟨q, e2⟩
    · exact nomatch q
    · obtain ⟨c', e3⟩ := fcell _ q rfl
      have e3' : X.env.cells.lookup x = some c' := e3
      rw [e3'] at e2
      have : c = c' := e2
      subst this
      exact ⟨e3', q⟩
  have cs : ∀ x c, (cxC X own fr sc s H fp).env.cells.lookup x = some c → ((cellsFrom (s.heap.objs.size + 2) sc.names []).lookup x = some c ∧ @LE.le Nat _ (s.heap.objs.size + 2) c) ∨ (X.env.cells.lookup x = some c ∧ (x, NameKind.free) ∈ sc.names ∧ @LT.lt Nat _ c s.heap.objs.size) := fun x c e => by
    have e' : (cellsFrom (s.heap.objs.size + 2) sc.names (clOf X.env sc.names [])).lookup x = some c := e
    rw [cellsFrom_append, lookup_app] at e'
    cases q : (cellsFrom (s.heap.objs.size + 2) sc.names []).lookup x with
    | some c' =>
      rw [q] at e'
      have : c' = c := by simpa using e'
      subst this
      exact .inl ⟨rfl, (ok.empty x c' (PySem.mem_of_lookup q)).2⟩
    | none =>
      rw [q] at e'
      obtain ⟨e1, e2⟩ := old x c (by simpa using e')
      obtain ⟨v, hv⟩ := I.cell x c e1
      exact .inr ⟨e1, e2, hv.lt⟩
  have okY : (cxC X own fr sc s H fp).Ok := by
    refine ⟨I.ok.mod, S.kind, I.ok.glob, I.ok.blt, Nat.le_succ _, fun x y c h1 h2 => ?_, fun x hx => ?_, fun x c hf e => ?_, I.ok.hd, I.ok.frames, .inl rfl, fun b hb => ⟨?_, fun x c e => ?_⟩, fun b o e => I.bs b o e, Nat.le_trans I.ok.bsz I.sz, fun b o e hb => ?_, fun b hb z => ?_, I.stack, I.stkFree⟩
    · rcases cs x c h1 with ⟨q1, g1⟩ | ⟨q1, _, g1⟩
      · rcases cs y c h2 with ⟨q2, g2⟩ | ⟨q2, _, g2⟩
        · exact name_of_addr ok.apart (PySem.mem_of_lookup q1) (PySem.mem_of_lookup q2)
        · omega
      · rcases cs y c h2 with ⟨q2, g2⟩ | ⟨q2, _, g2⟩
        · omega
        · exact I.ok.inj x y c q1 q2
    · -- a cell or free name of the block has its cell
      have hx' : (relabel sc X.env).names.lookup x = some .cell ∨ (relabel sc X.env).names.lookup x = some .free := hx
      have hl : sc.names.lookup x = some .cell ∨ sc.names.lookup x = some .free := by
        unfold relabel at hx'
        rw [lookup_relabel] at hx'
        cases q : sc.names.lookup x with
        | none => rw [q] at hx'; simp at hx'
        | some k =>
          rw [q] at hx'
          cases k <;> simp at hx' ⊢
      have hm : ∃ c, (x, c) ∈ cellsFrom (s.heap.objs.size + 2) sc.names (clOf X.env sc.names []) := by
        rcases hl with hl | hl
        · exact cellsFrom_has (.inl (PySem.mem_of_lookup hl))
        · exact cellsFrom_has (.inr (clOf_has (.inl (PySem.mem_of_lookup hl))))
      obtain ⟨c, hm⟩ := hm
      exact lookup_mem_some hm
    · have hf' : sc.names.lookup x = some .cell := by simpa using (show (sc.names.lookup x == some .cell) = true from hf)
      show @LE.le Nat _ s.heap.objs.size c
      rcases cs x c e with ⟨_, g⟩ | ⟨_, q, _⟩
      · omega
      · rw [lookup_of_mem_nd S.nd q] at hf'; cases hf'
    · have := hfl b hb
      show @Ne Nat b (s.heap.objs.size + 1)
      omega
    · intro z
      subst z
      rcases cs x c e with ⟨_, g⟩ | ⟨q, _, _⟩
      · have := hfl c hb; omega
      · exact (hfp c hb).2.2.2.2.1 x c q rfl
    · rcases (hfp b hb).2.2.2.1 with z | z
      · exact I.ok.noex b o e z
      · have z1 : @LT.lt Nat _ b X.base.objs.size := Heap.lt_size e
        have z2 : X.base.objs.size ≤ X.s₀.heap.objs.size := I.ok.bsz
        have z3 : @LE.le Nat _ X.s₀.heap.objs.size b := z
        omega
    · rcases List.mem_cons.mp (I.stkSub b z) with e | e
      · exact (hfp b hb).2.1 e
      · exact (hfp b hb).2.2.1 e
  refine ⟨okY, rfl, I.bare, Un.kept kk, ⟨_, nsC, fun i x v h1 h2 h3 => ?_⟩, fun x c e => ?_, I.hok.fresh (Nat.le_succ _), fun x c e => ?_, fun p hp => absurd (show p ∈ ([] : List (Addr × Obj)) from hp) (by simp), I.hok.kept kk, ?_⟩
  · -- an outer name that is read
    have hi : own.length ≤ i := by
      by_cases hi : i < own.length
      · exfalso
        unfold cSt at h2
        rw [List.getElem?_append_left (by simpa using hi), List.getElem?_replicate] at h2
        split at h2 <;> cases h2
      · omega
    have h1' : (own ++ fr.map (fun i => X.N.getD i Str.empty))[i]? = some x := h1
    rw [List.getElem?_append_right hi, List.getElem?_map] at h1'
    unfold cSt at h2
    rw [List.getElem?_append_right (by simpa using hi), List.getElem?_map, List.length_replicate] at h2
    cases e : fr[i - own.length]? with
    | none => rw [e] at h1'; cases h1'
    | some k =>
      rw [e] at h1' h2
      have hkm : k ∈ fr := List.mem_of_getElem? e
      have ex : X.N.getD k Str.empty = x := by simpa using h1'
      have ev : (σ[k]?).join = some v := by simpa using h2
      have hkl := S.frl k hkm
      have eN : X.N[k]? = some x := by rw [← ex]; simp [List.getD, hkl]
      have eσ : σ[k]? = some (some v) := by
        cases q : σ[k]? with
        | none => rw [q] at ev; cases ev
        | some o => rw [q] at ev; cases o with
          | none => cases ev
          | some v' => have : v' = v := by simpa using ev
                       subst this; rfl
      have hfr := S.frv k hkm
      rw [ex] at hfr
      have hmem : (x, NameKind.free) ∈ sc.names := PySem.mem_of_lookup hfr
      have hkd := S.fre _ hmem rfl
      have hkd' : X.env.scope.names.lookup x = some .cell ∨ X.env.scope.names.lookup x = some .free := hkd
      obtain ⟨m, hn, hl⟩ := I.loc
      obtain ⟨u, r, l⟩ := hl k x v eN eσ (hkd'.elim (fun z => .inr (.inl z)) fun z => .inr (.inr z))
      refine ⟨u, r, ?_⟩
      rcases l with ⟨z, _⟩ | ⟨_, c, hc, hcell⟩
      · exfalso
        have z' : X.env.scope.names.lookup x = some .local := z
        rcases hkd' with q | q <;> (rw [q] at z'; cases z')
      · refine .inr ⟨?_, c, ?_, hcell.keeps kk⟩
        · show (relabel sc X.env).names.lookup x = some .cell ∨ (relabel sc X.env).names.lookup x = some .free
          unfold relabel
          rw [lookup_relabel, hfr]
          simp only [Option.map_some]
          split
          · exact .inl rfl
          · exact .inr rfl
        · show (cellsFrom (s.heap.objs.size + 2) sc.names (clOf X.env sc.names [])).lookup x = some c
          rw [cellsFrom_append, lookup_app]
          have h0 : (cellsFrom (s.heap.objs.size + 2) sc.names []).lookup x = none := by
            cases q : (cellsFrom (s.heap.objs.size + 2) sc.names []).lookup x with
            | none => rfl
            | some c' =>
              exfalso
              rcases cellsFrom_mem (PySem.mem_of_lookup q) with z | z
              · exact nomatch z
              · rw [lookup_of_mem_nd S.nd z] at hfr; cases hfr
          rw [h0]
          obtain ⟨c', hm'⟩ := clOf_has (env := X.env) (acc := []) (.inl hmem)
          obtain ⟨c2, e2⟩ := lookup_mem_some hm'
          obtain ⟨e3, _⟩ := old x c2 e2
          rw [hc] at e3
          rw [e2]
          simpa using e3.symm
  · rcases cs x c e with ⟨q, _⟩ | ⟨q, _, _⟩
    · exact ⟨_, (ok.empty x c (PySem.mem_of_lookup q)).1⟩
    · obtain ⟨v, hv⟩ := I.cell x c q
      exact ⟨v, hv.keeps kk⟩
  · rcases cs x c e with ⟨_, g⟩ | ⟨q, _, _⟩
    · exact I.hok.fresh (by omega)
    · exact I.freeC x c q
  · unfold cSt
    show _ = (own ++ fr.map (fun i => X.N.getD i Str.empty)).length
    simp
theorem inv_back {own:List Str} {fr:List Nat} {sc:Scope} {fp:List Addr} {H1:Hp} {s1:Shared} {σ1:St} {pins1:List (Addr × Obj)} {h':Heap} {o:HO} {D:Addr}
  (I:Inv X pins σ H s) (hfp:∀ b∈fp,FpOk X pins H b) (I1:Inv (cxC X own fr sc s H fp) pins1 σ1 H1 s1) (hD:@LE.le Nat _ s.heap.objs.size D) (hDn:H1 D=none) (hDC:D≠s.heap.objs.size+1)
  (hs:Heap.SameBut (s.heap.objs.size+1) s1.heap h') (hO:ObjOk X.prog X.w (upd H1 D o) h' D o) (tk:Nat):Inv X pins σ (upd H1 D o) { s1 with heap:=h',toks:=tk }:=by
 have u:=I1.base
 have hCn:H1 (s.heap.objs.size+1)=none:=I1.free
 have hDo:∀ b ob,s.heap.get? b=some ob->b≠D:=fun b ob e z=>by
  have:=Heap.lt_size e
  have z':@Eq Nat b D:=z
  have q:@LT.lt Nat _ b s.heap.objs.size:=this
  omega
 have hCo:∀ b ob,s.heap.get? b=some ob->b≠s.heap.objs.size+1:=fun b ob e z=>by
  have q:@LT.lt Nat _ b s.heap.objs.size:=Heap.lt_size e
  have z':@Eq Nat b (s.heap.objs.size+1):=z
  omega
 have hDs:H D=none:=I.hok.fresh hD
 have cut:∀ b ob,s.heap.get? b=some ob->∀ oc,s1.heap.get? b=some oc->h'.get? b=some oc:=fun b ob e oc q=>(hs.2 b (hCo b ob e)).trans q
 refine Inv.call' (ch:=fp) I (s':={ s1 with heap:=h',toks:=tk }) I1.os ?_ ?_ I1.bare fun b hb=>⟨(hfp b hb).2.2.2.1,(hfp b hb).2.1,(hfp b hb).2.2.2.2.1,(hfp b hb).2.2.2.2.2⟩
 ·refine ⟨fun b ob e n hb hx=>cut b ob e _ (u.keep b ob e n hb hx),fun b ob e n hb hx=>?_,fun b ob e n hx=>?_,fun b ob e hx=>?_,fun b xs e=>?_,fun b ob xs e=>?_,fun b ps e=>?_⟩
  ·obtain ⟨sl,q⟩:=u.slot b ob e n hb hx
   exact ⟨sl,cut b ob e _ q⟩
  ·rw [upd_ne (hDo b ob e)];exact u.free b ob e n hx
  ·obtain ⟨o',q⟩:=u.there b ob e hx
   exact ⟨o',cut b ob e _ q⟩
  ·rw [upd_ne (ne_of_none e hDs)];exact u.tups b xs e
  ·rw [upd_ne (ne_of_none e hDs)];exact u.frzs b ob xs e
  ·rw [upd_ne (ne_of_none e hDs)];exact u.tbls b ps e
 ·intro b ob e
  by_cases hb:b=D
  ·subst hb;rw [upd_same] at e;cases e;exact hO
  ·rw [upd_ne hb] at e
   refine (I1.hok b ob e).stay (fun c q hc g=>?_) (fun c q=>by rw [upd_ne (ne_of_none q hDn)];exact q) fun c xs q=>by rw [upd_ne (ne_of_none q hDn)];exact q
   refine (hs.2 c ?_).trans g
   rcases hc with z | z
   ·rw [z];exact ne_of_none e hCn
   ·exact ne_of_none z hCn
end
abbrev Nev:Value->Shared->Prop:=fun _ _=>False
def oneTest (env:Env) (c:Expr) (b:Bool):Sem (ForInStep Bool) :=
 if b=true then (isTrue c env (eval c env) >>= fun b'=>pure (.yield b')) else pure (.yield b)
def allTests (env:Env) (cs:List Expr):Sem Bool:=forIn cs true (oneTest env)
structure Blk where
 add:Expr
 tgt:Expr
 src:Expr
 cs:List Expr
 sc:Scope
 pos:Pos
namespace Blk
variable (B:Blk)
abbrev expr:Expr:=.ListComp B.add [⟨B.tgt,B.src,B.cs,0⟩] B.sc B.pos
section
variable (prog:Program) (w:World) (A:Around) (env:Env) (it acc:Value)
abbrev Tame {α:Type} (e:Sem α) (Q:α->Shared->Prop) (s:Shared):Prop:=wpAny (model prog w) A e Q Nev s
def Lays (J:Shared->Prop):Bool->Shared->Prop
 | false,s=>J s
 | true,s=>Tame prog w A (eval B.add env) (fun x=>Tame prog w A (call (.builtin "list.append") [acc,x]) fun _=>J) s
def Takes (J:Shared->Prop) (v:Value):Shared->Prop :=
 Tame prog w A (letOwnedTupleGo B.tgt it v) fun _=>Tame prog w A (assign B.tgt env v) fun _=>Tame prog w A (allTests env B.cs) (B.Lays prog w A env acc J)
def Next (D J:Shared->Prop):Option Value->Shared->Prop
 | none=>D
 | some v=>B.Takes prog w A env it acc J v
end
theorem loops {B:Blk} {prog:Program} {w:World} {A:Around} {env:Env} {it acc:Value} {R:Result->Shared->Prop} (G:Nat->Shared->Prop)
  (turn:∀ k t,G k t->Tame prog w A (pyNext it) (B.Next prog w A env it acc (R (.ok .next)) fun u=>∃ j,j < k/\G j u) t)
  {k:Nat} {t:Shared} (g:G k t):codeAny (model prog w) A (.compLoop B.expr 0 it acc env) R t:=by
 have one:∀ k t,G k t->Tame prog w A (compTurn B.expr 0 it acc env) (fun x t'=>match x with | .done r=>R (.ok r) t' | .again c=>c=.compLoop B.expr 0 it acc env/\∃ j,j < k/\G j t') t:=by
  intro k t g
  rw [show B.expr=.ListComp B.add [⟨B.tgt,B.src,B.cs,0⟩] B.sc B.pos from rfl,compTurn_list]
  apply wpAny_bind;apply wpAny_standAt;apply wpAny_bind
  refine thn (turn k t g) fun x t1 h1=>?_
  match x,h1 with
  | none,h1=>exact wpAny_pure h1
  | some v,h1 =>
   apply wpAny_bind;refine thn h1 fun _ t2 h2=>?_
   apply wpAny_bind;refine thn h2 fun _ t3 h3=>?_
   apply wpAny_bind;refine thn h3 fun b t4 h4=>?_
   match b,h4 with
   | false,h4=>exact wpAny_pure ⟨rfl,h4⟩
   | true,h4 =>
    apply wpAny_bind;apply wpAny_bind
    refine thn h4 fun y t5 h5=>?_
    apply wpAny_bind
    refine thn h5 fun _ t6 h6=>?_
    exact wpAny_pure (wpAny_pure ⟨rfl,h6⟩)
 exact codeAny_loop rfl G (fun k t g=>wpAny_noted (wpAny_mono (one k t g) (fun _ _ q=>q) fun _ _ f=>f.elim)) k g
end Blk
def PIfs (X:Cx) (ifs:List Expr) (t:TT):Prop :=
 ∀ (pins:List (Addr × Obj)) (s:Shared) (σ:St) (H:Hp) (Q:Bool->Hp->Prop),Inv X pins σ H s->t σ H Q ->
  wpAny (model X.prog X.w) X.A (allTests X.env ifs) (TP X pins σ Q) X.xe s
def tYes:TT:=fun _ H Q=>Q true H
theorem pifs_nil {X:Cx}:PIfs X [] tYes:=fun _ _ _ H _ I h=>wpAny_tests_nil ⟨H,I,h⟩
theorem pifs_one {X:Cx} {c:Expr} {t:TT} (h:PT X c t):PIfs X [c] t:=fun pins s σ H Q I q=>wpAny_tests_one (h pins s σ H Q I q)
def GK (n:Nat) (g:TG):Prop:=∀ v σ H Q,g v σ H Q->g v σ H fun σ' H'=>Q σ' H'/\σ'.length=σ.length/\∀ j,n<=j->σ'[j]?=σ[j]?
def GKs (n:Nat) (g:TGs):Prop:=∀ vs σ H Q,g vs σ H Q->g vs σ H fun σ' H'=>Q σ' H'/\σ'.length=σ.length/\∀ j,n<=j->σ'[j]?=σ[j]?
theorem gk_name {n i:Nat} (h:i < n):GK n (gName i):=fun v σ H Q q=>⟨q,by simp,fun j hj=>by rw [List.getElem?_set_ne (by omega)]⟩
theorem gks_nil {n:Nat}:GKs n gNil:=fun vs σ H Q q=>⟨q.1,q.2,rfl,fun _ _=>rfl⟩
theorem gks_cons {n:Nat} {t:TG} {u:TGs} (m:∀ v σ H Q Q',(∀ σ' H',Q σ' H'->Q' σ' H')->t v σ H Q->t v σ H Q') (mu:∀ v σ H Q Q',(∀ σ' H',Q σ' H'->Q' σ' H')->u v σ H Q->u v σ H Q') (h1:GK n t) (h2:GKs n u):GKs n (gCons t u):=fun vs σ H Q ⟨v,r,e,q⟩ =>
 ⟨v,r,e,m _ _ _ _ _ (fun σ' H' ⟨q',l1,k1⟩=>mu _ _ _ _ _ (fun σ2 H2 ⟨q2,l2,k2⟩=>⟨q2,l2.trans l1,fun j hj=>(k2 j hj).trans (k1 j hj)⟩) (h2 _ _ _ _ q')) (h1 _ _ _ _ q)⟩
theorem gk_tup {K:PySem.W.Frag} {n k:Nat} {t:TGs} (h:GKs n t):GK n (gTup K k t):=fun v σ H Q ⟨a,xs,e,sq,l,q⟩=>⟨a,xs,e,sq,l,h _ _ _ _ q⟩
theorem gn_mono {i:Nat}:∀ v σ H Q Q',(∀ σ' H',Q σ' H'->Q' σ' H')->gName i v σ H Q->gName i v σ H Q':=fun _ _ _ _ _ m q=>m _ _ q
theorem gnil_mono:∀ v σ H Q Q',(∀ σ' H',Q σ' H'->Q' σ' H')->gNil v σ H Q->gNil v σ H Q':=fun _ _ _ _ _ m q=>⟨q.1,m _ _ q.2⟩
theorem gcons_mono {t:TG} {u:TGs} (m:∀ v σ H Q Q',(∀ σ' H',Q σ' H'->Q' σ' H')->t v σ H Q->t v σ H Q') (mu:∀ v σ H Q Q',(∀ σ' H',Q σ' H'->Q' σ' H')->u v σ H Q->u v σ H Q'):∀ v σ H Q Q',(∀ σ' H',Q σ' H'->Q' σ' H')->gCons t u v σ H Q->gCons t u v σ H Q' :=
 fun _ _ _ _ _ mq ⟨v,r,e,q⟩=>⟨v,r,e,m _ _ _ _ _ (fun _ _ q'=>mu _ _ _ _ _ mq q') q⟩
theorem gk_two {K:PySem.W.Frag} {n k i j:Nat} (h1:i < n) (h2:j < n):GK n (gTup K k (gCons (gName i) (gCons (gName j) gNil))) :=
 gk_tup (gks_cons gn_mono (gcons_mono gn_mono gnil_mono) (gk_name h1) (gks_cons gn_mono gnil_mono (gk_name h2) gks_nil))
def lcLoop (own : List Str) (fr : List Nat) (g : TG) (tt : TT) (te : TE) (σ : St) (Q : VK) (J : It) (H1 : Hp) : Prop :=
  ∃ W : Nat → Nat → List V → Hp → Prop, (∃ m, W 0 m [] H1) ∧ ∀ i m ys H2, W i m ys H2 → ys.length ≤ sizeLine ∧
    ((J.stop i H2 ∧ ∀ D, H2 D = none → Q (.ref D) (upd H2 D (.lst ys))) ∨
     (J.go i H2 ∧ ∀ x H3, J.yld i H2 x H3 → g x (cSt own fr σ) H3 fun σ4 H4 => tt σ4 H4 fun b H5 => if b = true then te σ4 H5 fun y H6 => ∃ m', m' < m ∧ W (i + 1) m' (ys ++ [y]) H6 else ∃ m', m' < m ∧ W (i + 1) m' ys H5))
def tLC (own:List Str) (fr:List Nat) (wi:TI) (g:TG) (tt:TT) (te:TE):TE:=fun σ H Q=>wi σ H (lcLoop own fr g tt te σ Q)
section
variable {X:Cx} {own:List Str} {fr:List Nat} {sc:Scope} {tg iter elt:Expr} {ifs:List Expr} {pos:Pos} {wi:TI} {g:TG} {tt:TT} {te:TE}
theorem lc_core {pins:List (Addr × Obj)} {σ:St} {H2:Hp} {s2:Shared} {Q:VK} {it:Addr} {fp:List Addr} {tn:Nat->Heap->Prop} {J:It} {RR:Value->Addr->Result->Shared->Prop} {E:Value->Shared->Prop} (hc:X.calm=true) (S:CompSc X own fr sc) (gk:GK own.length g)
  (hg:∀ s H fp,PG (cxC X own fr sc s H fp) tg g) (ht:∀ s H fp,PIfs (cxC X own fr sc s H fp) ifs tt) (he:∀ s H fp,PE (cxC X own fr sc s H fp) elt te)
  (I2:Inv X pins σ H2 s2) (T:Turn X.prog X.w X.K tg J fp it tn) (st2:tn 0 s2.heap) (f2:∀ b∈fp,FpOk X pins H2 b) (L:lcLoop own fr g tt te σ Q J H2)
  (hRR:∀ D C s',(∃ m,s'.heap.Ns C m)->@LE.le Nat _ s2.heap.objs.size C->(∃ H',H' C=none/\Q (.ref D) H'/\∀ h' tk,Heap.SameBut C s'.heap h'->Inv X pins σ H' { s' with heap:=h',toks:=tk })->RR (.ref D) C (.ok .next) s') :
  wpAny (model X.prog X.w) X.A (newList []) (fun acc s₃=>wpAny (model X.prog X.w) X.A (newFunctionEnv sc X.env.globals (clOf X.env sc.names []) [] X.env.qual none .none (some X.env)) (fun cenv s₄ =>
   codeAny (model X.prog X.w) X.A (.compStart (.ListComp elt [⟨tg,iter,ifs,0⟩] sc pos) 0 (.ref it) acc { cenv with scope:=relabel sc X.env }) (RR acc cenv.locals) s₄) E s₃) E s2:=by
 obtain ⟨W,⟨m0,w0⟩,turn⟩:=L
 refine wpAny_newObj_type (newEnv_comp ?_)
 dsimp only
 generalize hh1:s2.heap.push { cls:=.type "list",dict:=none,data:=.seq ([]:List Value).toArray }=h1
 have hz:h1.objs.size=s2.heap.objs.size+1:=by rw [<- hh1,Heap.size_push]
 have hk1:∀ b o,s2.heap.get? b=some o->h1.get? b=some o:=fun b o e=>by rw [<- hh1];exact Heap.get?_push_of_some _ e
 have hD1:h1.get? s2.heap.objs.size=some { cls:=.type "list",data:=.seq ([]:List Value).toArray }:=by rw [<- hh1];exact Heap.get?_push_size _ rfl
 have hfl:∀ b∈fp,@LT.lt Nat _ b s2.heap.objs.size:=fun b hb=>by
  obtain ⟨o,e,_⟩:=T.obj _ _ st2 b hb
  exact Heap.lt_size e
 have I3:=inv_comp I2 S f2 hz hk1 hfl
 rw [hz]
 generalize hY:cxC X own fr sc s2 H2 fp=Y at I3
 have hD3:(hC s2 sc h1).get? s2.heap.objs.size=some { cls:=.type "list",data:=.seq ([]:List Value).toArray }:=pushCells_keeps _ _ _ _ (Heap.get?_push_of_some _ hD1)
 have st3:tn 0 (hC s2 sc h1):=T.keep _ _ _ st2 fun b _ o e=>pushCells_keeps _ _ _ _ (Heap.get?_push_of_some _ (hk1 b o e))
 have eP:Y.prog=X.prog:=by rw [<- hY];rfl
 have eW:Y.w=X.w:=by rw [<- hY];rfl
 have eK:Y.K=X.K:=by rw [<- hY];rfl
 have eA:Y.A=X.A:=by rw [<- hY];rfl
 have eX:Y.xe=Nev:=by rw [<- hY];rfl
 have ecm:Y.calm=true:=by rw [<- hY];exact hc
 have eEnv:({ scope:=relabel sc X.env,locals:=s2.heap.objs.size+1,globals:=X.env.globals,cells:=cellsFrom (s2.heap.objs.size+1+1) sc.names (clOf X.env sc.names []),qual:=X.env.qual,func:=none,code:=X.env.code,frame:=X.env.frame,builtins:=X.env.builtins }:Env)=Y.env:=by rw [<- hY];rfl
 have eL:Y.env.locals=s2.heap.objs.size+1:=by rw [<- hY];rfl
 rw [eEnv]
 have hg':PG Y tg g:=hY ▸ hg s2 H2 fp
 have ht':PIfs Y ifs tt:=hY ▸ ht s2 H2 fp
 have he':PE Y elt te:=hY ▸ he s2 H2 fp
 have dfp:s2.heap.objs.size ∉ fp:=fun z=>Nat.lt_irrefl _ (hfl _ z)
 have dC:s2.heap.objs.size≠s2.heap.objs.size+1:=Nat.ne_of_lt (Nat.lt_succ_self _)
 have cellN:∀ x c,Y.env.cells.lookup x=some c->c≠s2.heap.objs.size:=fun x c e z=>by
  obtain ⟨v,o,q,d⟩:=I3.cell x c e
  rw [z] at q
  have q':=hD3.symm.trans q
  cases q'
  cases d
 have hDfs:s2.heap.objs.size ∉ Y.fs:=by
  rw [<- hY]
  intro z
  rcases List.mem_cons.mp (I2.stkSub _ z) with e | e
  ·exact Nat.lt_irrefl _ (by have:=I2.lt;rw [<- e] at this;exact this)
  ·exact I2.nofs (Nat.le_refl _) e
 have hD0:@LE.le Nat _ Y.s₀.heap.objs.size s2.heap.objs.size:=by rw [<- hY];exact Nat.le_refl _
 have fpY:∀ {H':Hp} {pp:List (Addr × Obj)},(∀ b∈fp,H' b=none)->(∀ p∈pp,p.1 ∉ fp)->∀ b∈fp,FpOk Y pp H' b:=fun {H' pp} hn hp b hb=>by
  refine ⟨hn b hb,?_,?_,?_,?_,fun p hq z=>?_⟩
  ·have:=hfl b hb;rw [eL];intro z;have z':@Eq Nat b (s2.heap.objs.size+1):=z;omega
  ·rw [<- hY]
   intro z
   rcases List.mem_cons.mp (I2.stkSub _ z) with e | e
   ·exact (f2 b hb).2.1 e
   ·exact (f2 b hb).2.2.1 e
  ·exact .inl (by rw [<- hY];exact hb)
  ·exact (I3.ok.exf b (by rw [<- hY];exact hb)).2
  ·rcases List.mem_append.mp hq with q | q
   ·have:p∈([]:List (Addr × Obj)):=by rw [<- hY] at q;exact q
    exact nomatch this
   ·exact hp p q (z ▸ hb)
 have pinD:∀ {H':Hp} {s':Shared} {σ':St} {ob:Obj},Inv Y [] σ' H' s'->H' s2.heap.objs.size=none->s'.heap.get? s2.heap.objs.size=some ob->(∀ v,ob.data≠.cell v)->Inv Y [(s2.heap.objs.size,ob)] σ' H' s':=fun {H' s' σ' ob} J0 hn e d =>
  J0.pins_of fun p hp=>by
   have:p=(s2.heap.objs.size,ob):=by simpa using hp
   subst this
   exact ⟨e,hn,by rw [eL];exact dC,hDfs,d⟩
 have fpp:∀ {ob:Obj} (p:Addr × Obj),p∈[(s2.heap.objs.size,ob)]->p.1 ∉ fp:=fun {ob} p hp=>by
  have:p=(s2.heap.objs.size,ob):=by simpa using hp
  subst this;exact dfp
 have loop:codeAny (model X.prog X.w) X.A (.compLoop (.ListComp elt [⟨tg,iter,ifs,0⟩] sc pos) 0 (.ref it) (.ref s2.heap.objs.size) Y.env) (RR (.ref s2.heap.objs.size) (s2.heap.objs.size+1)) { s2 with heap:=hC s2 sc h1 }:=by
  refine Blk.loops (B:=⟨elt,tg,iter,ifs,sc,pos⟩) (fun n s'=>∃ i ys us k H',W i n ys H'/\Inv Y [] (cSt own fr σ) H' s'/\tn i s'.heap/\(∀ b∈fp,H' b=none)/\H' s2.heap.objs.size=none/\s'.heap.get? s2.heap.objs.size=some { cls:=.type "list",data:=.seq (List.toArray us) k }/\Vals ys us) ?_ (k:=m0)
   ⟨0,[],[],_,H2,w0,I3,st3,fun b hb=>(f2 b hb).1,I2.hok.fresh (Nat.le_refl _),hD3,.nil⟩
  rintro n s' ⟨i,ys,us,k,H',w',J0,st',fr',hDn,hDo,rv⟩
  obtain ⟨hyl,cases'⟩:=turn i n ys H' w'
  have J1:=pinD J0 hDn hDo (fun v z=>nomatch z)
  rcases cases' with ⟨stop,fin⟩ | ⟨go,step⟩
  ·have d0:=T.done Y eP eW eK ecm i _ s' _ H' Nev J1 (fpY fr' fpp) st' stop
   rw [eA] at d0
   refine wpAny_mono d0 (fun r s4 ⟨hr,J4⟩=>?_) fun _ _ z=>z
   subst hr
   have pD:=(J4.pin (s2.heap.objs.size,_) (List.mem_append_right _ List.mem_cons_self)).1
   refine hRR _ _ s4 ?_ (Nat.le_succ _) ⟨upd H' s2.heap.objs.size (.lst ys),?_,fin _ hDn,fun h' tk hs=>?_⟩
   ·obtain ⟨m,hn,_⟩:=J4.loc
    rw [eL] at hn
    exact ⟨m,hn⟩
   ·rw [upd_ne (Ne.symm dC),<- eL];exact J4.free
   ·subst hY
    have hO:ObjOk X.prog X.w (upd H' s2.heap.objs.size (.lst ys)) h' s2.heap.objs.size (.lst ys):=⟨hyl,us,k,rv,(hs.2 _ dC).trans pD⟩
    exact inv_back I2 f2 J4 (Nat.le_refl _) hDn dC hs hO tk
  ·have d0:=T.item Y eP eW eK ecm i _ s' _ H' Nev J1 (fpY fr' fpp) st' go
   rw [eA] at d0
   refine wpAny_mono d0 (fun r s4 ⟨u,hr,h4⟩=>?_) fun _ _ z=>z
   subst hr
   refine wpAny_mono h4 (fun _ s5 ⟨x,H5,J5,r5,y5,st5,fr5⟩=>?_) fun _ _ z=>z
   have J5':=J5.pinned (fpY fr5 fpp) (T.obj _ _ st5)
   have s1:=hg' _ s5 _ H5 x u _ J5' r5 (gk _ _ _ _ (step x H5 y5))
   rw [eP,eW,eA,eX] at s1
   refine wpAny_mono s1 (fun _ s6 ⟨σ6,H6,J6,q6,kp6⟩=>?_) fun _ _ z=>z
   have s2':=ht' _ s6 σ6 H6 _ J6 q6
   rw [eP,eW,eA,eX] at s2'
   refine wpAny_mono s2' (fun ok s7 ⟨H7,J7,q7⟩=>?_) fun _ _ z=>z
   have low:∀ {H8:Hp} {s8:Shared},Inv Y ([(s2.heap.objs.size,({ cls:=.type "list",data:=.seq (List.toArray us) k }:Obj))]++pinsAt fp s5.heap) σ6 H8 s8 ->
     Inv Y (pinsAt fp s5.heap) σ6 H8 s8/\H8 s2.heap.objs.size=none/\s8.heap.get? s2.heap.objs.size=some { cls:=.type "list",data:=.seq (List.toArray us) k }/\(∀ b∈fp,H8 b=none)/\tn (i+1) s8.heap:=fun {H8 s8} J8=>by
    have p8:=J8.pin (s2.heap.objs.size,_) (List.mem_append_right _ (List.mem_append_left _ List.mem_cons_self))
    refine ⟨J8.pins_of fun p hp=>J8.pin p (List.mem_append_right _ (List.mem_append_right _ hp)),p8.2.1,p8.1,fun b hb=>?_,T.keep _ _ _ st5 fun b hb o e=>(J8.pin (b,o) (List.mem_append_right _ (List.mem_append_right _ (mem_pinsAt hb e)))).1⟩
    obtain ⟨o,e,d⟩:=T.obj _ _ st5 b hb
    exact (J8.pin (b,o) (List.mem_append_right _ (List.mem_append_right _ (mem_pinsAt hb e)))).2.1
   have weak:∀ {H8:Hp} {s8:Shared} {pp:List (Addr × Obj)},Inv Y pp σ6 H8 s8->Inv Y [] (cSt own fr σ) H8 s8:=fun {H8 s8 pp} J8=>(J8.weak kp6.1.symm (fun j v e=>by
    by_cases hj:j < own.length
    ·exfalso
     unfold cSt at e
     rw [List.getElem?_append_left (by simpa using hj),List.getElem?_replicate] at e
     split at e<;>cases e
    ·rw [kp6.2 j (Nat.not_lt.mp hj)];exact e)).pins_of fun p hp=>nomatch hp
   cases ok with
   | false =>
    obtain ⟨m',hm,w7⟩:=(show ∃ m',m' < n/\W (i+1) m' ys H7 by simpa using q7)
    obtain ⟨_,l1,l2,l3,l4⟩:=low J7
    exact ⟨m',hm,i+1,ys,us,k,H7,w7,weak J7,l4,l3,l1,l2,rv⟩
   | true =>
    have q7':te σ6 H7 fun y H6=>∃ m',m' < n/\W (i+1) m' (ys++[y]) H6:=by simpa using q7
    have s3:=he' _ s7 σ6 H7 _ J7 q7'
    rw [eP,eW,eA,eX] at s3
    show wpAny _ _ _ _ _ _
    refine wpAny_mono s3 (fun xv s8 ⟨y,H8,J8,r8,m',hm,w8⟩=>?_) fun _ _ z=>z
    obtain ⟨J8a,l1,l2,l3,l4⟩:=low J8
    refine append_at (hsz:=by rw [List.size_toArray,<- rv.length];exact hyl) l2 fun h' hs' hD'=>?_
    have J9:Inv Y [] (cSt own fr σ) H8 { s8 with heap:=h' }:=by
     refine (weak J8a).turned (t':=s8.toks) (it:=s2.heap.objs.size) (fun b o hb e=>(hs'.2 b hb).trans e) l1 (by rw [eL];exact dC) (.inr hD0) cellN fun p hp=>?_
     have:p∈([]:List (Addr × Obj)):=by rw [<- hY] at hp;exact hp
     exact nomatch this
    refine ⟨m',hm,i+1,ys++[y],us++[xv],k+1,H8,w8,J9,?_,l3,l1,?_,rv.append (.cons r8 .nil)⟩
    ·exact T.keep _ _ _ l4 fun b hb o e=>(hs'.2 b (fun z=>dfp (z ▸ hb))).trans e
    ·rw [hD'];simp
 exact codeAny_compStart_list loop (T.self X.A 0 _ _ _ st3 loop)
theorem pe_lc (own:List Str) (fr:List Nat) (hc:X.calm=true) (S:CompSc X own fr sc) (gk:GK own.length g) (hi:PI X tg iter wi)
  (hg:∀ s H fp,PG (cxC X own fr sc s H fp) tg g) (ht:∀ s H fp,PIfs (cxC X own fr sc s H fp) ifs tt) (he:∀ s H fp,PE (cxC X own fr sc s H fp) elt te)
  (hs:∀ x,foldedSetIterable iter X.env x=pure x:=by intro _;rfl):PE X (.ListComp elt [⟨tg,iter,ifs,0⟩] sc pos) (tLC own fr wi g tt te):=by
 intro pins s σ H Q I h
 rw [eval_ListComp]
 have hclos:closureFor sc X.env=pure (clOf X.env sc.names []):=closureFor_of fun y hy hf=>I.ok.has y.1 (by
  rcases S.fre y hy hf with q | q
  ·exact .inl q
  ·exact .inr q)
 refine wpAny_comprehension_free (use:=none) rfl hs hclos S.kind (fun y hy hl=>lookup_of_mem_nd S.nd (by rw [<- hl];exact hy)) ?_
 refine thn (hi pins s σ H _ I h) fun v s1 h1=>thn h1 fun itv s2 h2=>?_
 obtain ⟨it,fp,tn,J,H2,e,I2,T,st2,f2,L⟩:=h2
 subst e
 exact lc_core hc S gk hg ht he I2 T st2 f2 L fun D C s' ⟨m,hn⟩ _ ⟨H',_,q,hi⟩=>⟨m,hn,fun h' hs'=>⟨.ref D,H',hi h' s'.toks hs',rfl,q⟩⟩
end
theorem stored_use {X:Cx} {pins:List (Addr × Obj)} {σ:St} {H2:Hp} {s2 s':Shared} {i:Nat} {x:Str} {pos':Pos} {D:Addr} {C:Addr} {R:St->Hp->Prop} {E:Value->Shared->Prop} (I2:Inv X pins σ H2 s2) (hN:X.N.Nodup) (hi:X.N[i]?=some x) (hx:X.env.scope.names.lookup x=some .local)
  (ns:∃ m,s'.heap.Ns C m) (le:@LE.le Nat _ s2.heap.objs.size C) (h:∃ H',H' C=none/\R (σ.set i (some (.ref D))) H'/\∀ h' tk,Heap.SameBut C s'.heap h'->Inv X pins σ H' { s' with heap:=h',toks:=tk }) :
  wpAny (model X.prog X.w) X.A (assign (.Name x pos') X.env (.ref D)) (fun _ s''=>∃ m,s''.heap.Ns C m/\∀ h',Heap.SameBut C s''.heap h'->∃ σ1 H1,Inv X pins σ1 H1 { s'' with heap:=h' }/\R σ1 H1) E s':=by
 obtain ⟨H',hC,q,hv⟩:=h
 have I':Inv X pins σ H' s':=hv s'.heap s'.toks (Heap.SameBut.refl _ _)
 have lt:∀ {b:Addr} {o:Obj},s2.heap.get? b=some o->b≠C:=fun {b o} e z=>by
  have l1:@LT.lt Nat _ b s2.heap.objs.size:=Heap.lt_size e
  have z':@Eq Nat b C:=z
  omega
 have hLC:X.env.locals≠C:=by
  obtain ⟨m,⟨o,_,_,e,_⟩,_⟩:=I2.loc
  exact lt e
 have hcell:∀ y c,X.env.cells.lookup y=some c->c≠C:=fun y c e=>by
  obtain ⟨v,o,e1,_⟩:=I2.cell y c e
  exact lt e1
 refine wpAny_assign_Name (store_ok2 I' hN hi (.inl hx) (show RelV (.ref D) (.ref D) from rfl) (fun s3 I3 ⟨a,hs,ha⟩=>?_) (.inr hx))
 have aC:a≠C:=by
  rcases ha with e | e
  ·rw [e];exact hLC
  ·exact hcell _ _ e
 obtain ⟨m,hn⟩:=ns
 refine ⟨m,hn.sameBut hs (Ne.symm aC),fun h' hs'=>⟨_,H',?_,q⟩⟩
 refine I3.turned (t':=s3.toks) (it:=C) (fun b o hb e=>(hs'.2 b hb).trans e) hC (Ne.symm hLC) (.inr ?_) hcell fun p hp=>?_
 ·have:=I2.sz
  exact Nat.le_trans this le
 ·exact lt (I2.pin p hp).1
theorem ps_setL {X:Cx} {sc:Scope} {tg iter elt:Expr} {ifs:List Expr} {pos spos pos':Pos} {wi:TI} {g:TG} {tt:TT} {te:TE} {i:Nat} {x:Str} (own:List Str) (fr:List Nat) (hN:X.N.Nodup) (hix:X.N[i]?=some x) (hx:X.env.scope.names.lookup x=some .local) (hc:X.calm=true) (S:CompSc X own fr sc) (gk:GK own.length g) (hi:PI X tg iter wi)
  (hg:∀ s H fp,PG (cxC X own fr sc s H fp) tg g) (ht:∀ s H fp,PIfs (cxC X own fr sc s H fp) ifs tt) (he:∀ s H fp,PE (cxC X own fr sc s H fp) elt te)
  (hsw:swapsWith (.ListComp elt [⟨tg,iter,ifs,0⟩] sc pos) (some (.Name x pos')) spos.line X.env=pure true:=by rfl)
  (hs:∀ x,foldedSetIterable iter X.env x=pure x:=by intro _;rfl):PS X (.Assign [.Name x pos'] (.ListComp elt [⟨tg,iter,ifs,0⟩] sc pos) spos) (tAsg (tLC own fr wi g tt te) (gName i)):=by
 intro pins s σ H D I h
 rw [exec_Assign_Name_used _ _ _ _ hsw]
 apply wpAny_bind;apply wpAny_standAt;apply wpAny_bind
 show wpAny _ _ (comprehension (.ListComp elt [⟨tg,iter,ifs,0⟩] sc pos) sc X.env _ (newList []) false (eval iter X.env) (some (assign (.Name x pos') X.env)) >>= _) _ _ s
 apply wpAny_bind
 have hclos:closureFor sc X.env=pure (clOf X.env sc.names []):=closureFor_of fun y hy hf=>I.ok.has y.1 (by
  rcases S.fre y hy hf with q | q
  ·exact .inl q
  ·exact .inr q)
 refine wpAny_mono (wpAny_comprehension_free (use:=some (assign (.Name x pos') X.env)) (Q:=fun _ s'=>SP X pins D .next s') rfl hs hclos S.kind (fun y hy hl=>lookup_of_mem_nd S.nd (by rw [<- hl];exact hy)) ?_) (fun _ s' q=>wpAny_pure (wpAny_pure q)) fun _ _ z=>z
 refine thn (hi pins s σ H _ I h) fun v s1 h1=>thn h1 fun itv s2 h2=>?_
 obtain ⟨it,fp,tn,J,H2,e,I2,T,st2,f2,L⟩:=h2
 subst e
 exact lc_core hc S gk hg ht he I2 T st2 f2 L fun D0 C s' ns le h=>stored_use (R:=D.nx) I2 hN hix hx ns le h
def Its (x:Str):It:=⟨fun i _=>i < x.cps.size,fun i H v H'=>H'=H/\∃ c,x.cps[i]?=some c/\v=.str ⟨#[c]⟩,fun i _=>i=x.cps.size⟩
theorem go_str {M:Model} {A:Around} {E:Value->Shared->Prop} {s:Shared} {tg:Expr} {it:Addr} {x:Str} {t:Tok} {Q:Unit->Shared->Prop} (hQ:Q () s):wpAny M A (letOwnedTupleGo tg (.ref it) (.str x t)) Q E s:=by
 unfold letOwnedTupleGo
 cases tg<;>exact wpAny_pure hQ
theorem turn_str {P:Program} {w:World} {K:PySem.W.Frag} {tg:Expr} {it:Addr} {x:Str} {t:Tok} {ty:String} (W:∀ A:Around,A.handled=none->Walks P w A it [it] [it] x.cps.size (SignAt x) (fun i h=>h.IsStrIter it ty x t i))
  (hself:∀ (A:Around) (i:Nat) (s:Shared) (Q:Value->Shared->Prop) (E:Value->Shared->Prop),s.heap.IsStrIter it ty x t i->Q (.ref it) s->wpAny (model P w) A (pyIter (.ref it)) Q E s) :
  Turn P w K tg (Its x) [it] it (fun i h=>h.IsStrIter it ty x t i) where
 mem:=by simp
 obj:=fun i h st b hb=>by
  have e:b=it:=by simpa using hb
  subst e
  obtain ⟨o,e,c,d⟩:=st
  exact ⟨o,e,fun v z=>by rw [d] at z;cases z⟩
 keep:=fun i h h' st k=>by
  obtain ⟨o,e,r⟩:=st
  exact ⟨o,k it (by simp) o e,r⟩
 item:=by
  intro X hP hw hK hc i pins s σ H E I hf st hg
  subst hP hw hK
  obtain ⟨f0,f1,f2,f3,f4,f5⟩:=hf it (by simp)
  refine (W X.A (I.ok.hd hc)).item i s _ _ hg st fun v h' tk hv st' kk=>?_
  obtain ⟨c,u,hx,rfl⟩:=hv
  have I1:Inv X pins σ H { s with heap:=h',toks:=tk }:=I.turned (fun b o hb e=>kk b o (by simpa using hb) e) f0 f1 f3 f4 f5
  exact ⟨_,rfl,go_str ⟨.str ⟨#[c]⟩,H,I1,⟨u,rfl⟩,⟨rfl,c,hx,rfl⟩,st',fun b hb=>(hf b hb).1⟩⟩
 done:=by
  intro X hP hw hK hc i pins s σ H E I hf st hg
  subst hP hw hK
  obtain ⟨f0,f1,f2,f3,f4,f5⟩:=hf it (by simp)
  have hg':i=x.cps.size:=hg
  subst hg'
  exact (W X.A (I.ok.hd hc)).done s _ _ st fun h' tk kk=>⟨rfl,I.turned (fun b o hb e=>kk b o (by simpa using hb) e) f0 f1 f3 f4 f5⟩
 self:=hself
section
variable {X:Cx} {tg:Expr}
def iStr (tl:TE):TI:=fun σ H R=>tl σ H fun x H1=>∃ z,x=.str z/\R (Its z) H1
theorem pi_str {l:Expr} {tl:TE} (hl:PE X l tl):PI X tg l (iStr tl):=by
 intro pins s σ H R I h
 refine thn (hl pins s σ H _ I h) fun v s1 ⟨x,H1,I1,r1,q1⟩=>?_
 obtain ⟨z,rfl,q⟩:=q1
 obtain ⟨t,rfl⟩:=r1
 have fin:∀ ty:String,(∀ A:Around,A.handled=none->Walks X.prog X.w A s1.heap.objs.size [s1.heap.objs.size] [s1.heap.objs.size] z.cps.size (SignAt z) (fun i h=>h.IsStrIter s1.heap.objs.size ty z t i)) ->
   (∀ (A:Around) (i:Nat) (s:Shared) (Q:Value->Shared->Prop) (E:Value->Shared->Prop),s.heap.IsStrIter s1.heap.objs.size ty z t i->Q (.ref s1.heap.objs.size) s->wpAny (model X.prog X.w) A (pyIter (.ref s1.heap.objs.size)) Q E s) ->
   PIE X pins σ tg R (.ref s1.heap.objs.size) { s1 with heap:=s1.heap.push { cls:=.type ty,data:=.fields #[.str z t,.int 0 0] } }:=fun ty W hself=>by
  refine ⟨s1.heap.objs.size,[s1.heap.objs.size],_,_,H1,rfl,I1.kept (t':=s1.toks) fun b o e=>Heap.get?_push_of_some _ e,turn_str W hself,⟨_,Heap.get?_push_size _ rfl,rfl,rfl⟩,fun b hb=>?_,q⟩
  have e:b=s1.heap.objs.size:=by simpa using hb
  subst e
  exact I1.fpOk (Nat.le_refl _) (I1.hok.fresh (Nat.le_refl _))
 cases ha:z.cps.all (· < 128)
 ·exact wpAny_pyIter_wide ha (fin _ (fun A hA=>Walks.strWide hA _ z t) fun A i s Q E st q=>wpAny_pyIter_striter_wide st q)
 ·exact wpAny_pyIter_ascii ha (fin _ (fun A hA=>Walks.strAscii hA _ z t) fun A i s Q E st q=>wpAny_pyIter_striter_ascii st q)
theorem vals_bl_get:∀ {bs:List Bool} {us:List Value} {i:Nat} {u:Value},Vals (bs.map V.bl) us->us[i]?=some u->∃ b,bs[i]?=some b/\u=.bool b
 | [],_,i,u,.nil,e=>by simp at e
 | b::bs,_,0,u,.cons r _,e=>by simp at e;subst e;exact ⟨b,rfl,r⟩
 | b::bs,_,i+1,u,.cons _ t,e=>by
  obtain ⟨b',h1,h2⟩:=vals_bl_get (i:=i) (u:=u) t (by simpa using e)
  exact ⟨b',by simpa using h1,h2⟩
theorem range_all (bs:List Bool):((List.range bs.length).all fun i=>bs.getD i false)=bs.all id:=by
 induction bs with
 | nil=>rfl
 | cons b bs ih =>
  rw [List.length_cons,List.range_succ_eq_map,List.all_cons,List.all_map,List.all_cons]
  have e:((fun i=>(b::bs).getD i false) ∘ Nat.succ)=fun i=>bs.getD i false:=by funext i;simp
  rw [e,ih];simp
theorem call_all (hc:X.calm=true):CallR X (.builtin "all") (fun xs H Q=>∃ (p:Addr) (bs:List Bool),xs=[.ref p]/\SqL X.K H p (bs.map V.bl)/\Q (.bl (bs.all id)) H):=by
 intro pins s σ H xs us Q I r h
 obtain ⟨p,bs,rfl,hq,q⟩:=h
 obtain ⟨u,rfl,rx⟩:=vals1 r
 cases rx
 obtain ⟨its,rv,pl,hz⟩:=I.list hq
 have hlt:p < s.heap.objs.size:=by obtain ⟨o,n,e,_⟩:=pl;exact Heap.lt_size e
 have hlen:its.length=bs.length:=by rw [<- rv.length,List.length_map]
 refine call_all_walk (wpAny_pyIter_list pl.isList ?_)
 refine ⟨s.heap.objs.size,_,_,its.toArray.size,_,_,fun i=>bs.getD i false,rfl,Walks.list (A:=X.A.in1) (I.ok.hd hc) s.heap.objs.size p (Nat.ne_of_lt hlt) its.toArray,⟨⟨_,Heap.get?_push_size _ rfl,rfl,rfl⟩,pl.isList.push _⟩,fun i v s' Q' E' hP hQ=>?_,fun h' tk hk=>?_⟩
 ·obtain ⟨b,h1,rfl⟩:=vals_bl_get rv (by simpa using hP)
  refine wpAny_truthy_bool ?_
  have e:bs.getD i false=b:=by rw [List.getD,h1];rfl
  rw [<- e];exact hQ
 ·rw [List.size_toArray,hlen,range_all]
  refine ⟨.bl _,H,?_,rfl,q⟩
  have J:Inv X pins σ H { s with heap:=h',toks:=tk }:=I.kept fun b o e=>hk b o (fun z=>absurd (Heap.lt_size e) (by rw [List.mem_singleton.mp z];exact Nat.lt_irrefl _)) (Heap.get?_push_of_some _ e)
  exact J
theorem call_isinst {T:String}:CallR X (.builtin "isinstance") (fun xs H Q=>∃ x t b,xs=[x,.ty T]/\TyOf X.K H x t/\PySem.W.kitOne X.K t (.type T)=some b/\Q (.bl b) H):=by
 intro pins s σ H xs us Q I r h
 obtain ⟨x,t,b,rfl,ty,e,q⟩:=h
 obtain ⟨u,v,rfl,ru,rv⟩:=vals2 r
 cases rv
 exact isinst_ok I ru ty e fun tk=>⟨.bl b,H,I.tok _,rfl,q⟩
theorem strs_of:∀ {ys:List Str} {us:List Value},Vals (ys.map V.str) us->StrsAre us ys
 | [],_,.nil=>.nil
 | y::ys,_,.cons r t=>by obtain ⟨k,rfl⟩:=(show ∃ k,_=Value.str y k from r);exact .cons y k (strs_of t)
theorem mt_join:MtR X "str.join" (fun x vs H Q=>∃ (sep:Str) (p:Addr) (ys:List Str),x=.str sep/\vs=[.ref p]/\SqL X.K H p (ys.map V.str)/\(ys.map (·.length)).sum+ys.length * sep.length<=16777216/\Q (.str (Txt.join sep ys)) H):=by
 intro pins s σ H x xs v us Q I rx r h
 obtain ⟨sep,p,ys,rfl,rfl,hq,hl,q⟩:=h
 obtain ⟨u,rfl,ru⟩:=vals1 r
 cases ru
 obtain ⟨t,rfl⟩:=rx
 obtain ⟨its,rv,pl,hz⟩:=I.list hq
 exact join_list pl.isList (by simpa using strs_of rv) hl fun t' k=>⟨.str _,H,I.tok _,⟨t',rfl⟩,q⟩
def rSlS:V->Option Int->Option Int->Hp->VK->Prop:=fun x lo hi H Q=>∃ z,x=.str z/\z.length<=sizeLine/\Q (.str (Txt.slice z lo hi)) H
theorem sl_str:SlR X rSlS:=by
 intro pins s σ H x v vl vu lo hi sl Q I rx hs pl pu h
 obtain ⟨z,rfl,hz,q⟩:=h
 obtain ⟨t,rfl⟩:=rx
 refine ⟨"str",_,F.slot_str_getitem.lookup,typeIs_str _ _ _,?_⟩
 have fin:∀ t' k,EP X pins σ Q (.str (Txt.slice z lo hi) t') { s with toks:=k }:=fun t' k=>⟨.str _,H,I.tok _,⟨t',rfl⟩,q⟩
 cases pl with
 | none =>
  cases pu with
  | none=>exact wpAny_getItem_str_slice (l:=none) (u:=none) (st:=none) hs rfl (post_val_or_str ⟨Nat.le_trans (Txt.slice_le z _ _) hz,fun t' k=>fin t' k⟩)
  | int j uj=>exact wpAny_getItem_str_slice (l:=none) (u:=some (j,uj)) (st:=none) hs rfl (post_val_or_str ⟨Nat.le_trans (Txt.slice_le z _ _) hz,fun t' k=>fin t' k⟩)
 | int i ui =>
  cases pu with
  | none=>exact wpAny_getItem_str_slice (l:=some (i,ui)) (u:=none) (st:=none) hs rfl (post_val_or_str ⟨Nat.le_trans (Txt.slice_le z _ _) hz,fun t' k=>fin t' k⟩)
  | int j uj=>exact wpAny_getItem_str_slice (l:=some (i,ui)) (u:=some (j,uj)) (st:=none) hs rfl (post_val_or_str ⟨Nat.le_trans (Txt.slice_le z _ _) hz,fun t' k=>fin t' k⟩)
theorem op_le_str:OpR X (compareOp .LtE) (fun x y H Q=>∃ i j,x=.str i/\y=.str j/\Q (.bl (!decide (j.cps.toList < i.cps.toList))) H):=by
 intro pins s σ H x y v u Q I rx ry h
 obtain ⟨i,j,rfl,rfl,q⟩:=h
 obtain ⟨t,rfl⟩:=rx
 obtain ⟨t',rfl⟩:=ry
 exact PySem.P.le_str ⟨.bl _,H,I,rfl,by simpa using q⟩
end
theorem lc_range {own:List Str} {fr:List Nat} {g:TG} {tt:TT} {te:TE} {σ:St} {Q:VK} {lo:Int} {n:Nat} {H:Hp} (Pv:Nat->List V->Hp->Prop) (h0:Pv 0 [] H) (hlen:∀ i ys H,i<=n->Pv i ys H->ys.length<=sizeLine)
  (hs:∀ i ys H (R:List V->Hp->Prop),i < n->Pv i ys H->(∀ ys' H',Pv (i+1) ys' H'->R ys' H')->g (.int (lo+i)) (cSt own fr σ) H fun σ4 H4=>tt σ4 H4 fun b H5=>if b=true then te σ4 H5 fun y H6=>R (ys++[y]) H6 else R ys H5)
  (hd:∀ ys H,Pv n ys H->∀ D,H D=none->Q (.ref D) (upd H D (.lst ys))):lcLoop own fr g tt te σ Q (Itr lo n) H:=by
 refine ⟨fun i m ys H=>m=n - i/\i<=n/\Pv i ys H,⟨n,rfl,Nat.zero_le _,h0⟩,?_⟩
 rintro i m ys H2 ⟨rfl,hi,p⟩
 refine ⟨hlen i ys H2 hi p,?_⟩
 by_cases h:i < n
 ·refine .inr ⟨h,fun x H3 hy=>?_⟩
  obtain ⟨rfl,rfl⟩:=hy
  exact hs i ys _ (fun ys' H'=>∃ m',m' < n - i/\(m'=n - (i+1)/\i+1<=n/\Pv (i+1) ys' H')) h p fun ys' H' q=>⟨n - (i+1),by omega,rfl,h,q⟩
 ·have e:i=n:=by omega
  subst e
  exact .inl ⟨Nat.le_refl _,hd ys H2 p⟩
theorem lc_list {K:PySem.W.Frag} {a:Addr} {xs:List V} {own:List Str} {fr:List Nat} {g:TG} {tt:TT} {te:TE} {σ:St} {Q:VK} {H:Hp} (Pv:Nat->List V->Hp->Prop) (h0:Pv 0 [] H) (hlen:∀ i ys H,i<=xs.length->Pv i ys H->ys.length<=sizeLine)
  (hl:∀ i ys H,i<=xs.length->Pv i ys H->SqL K H a xs)
  (hs:∀ i x ys H (R:List V->Hp->Prop),xs[i]?=some x->Pv i ys H->(∀ ys' H',Pv (i+1) ys' H'->R ys' H')->g x (cSt own fr σ) H fun σ4 H4=>tt σ4 H4 fun b H5=>if b=true then te σ4 H5 fun y H6=>R (ys++[y]) H6 else R ys H5)
  (hd:∀ ys H,Pv xs.length ys H->∀ D,H D=none->Q (.ref D) (upd H D (.lst ys))):lcLoop own fr g tt te σ Q (Itl K a) H:=by
 refine ⟨fun i m ys H=>m=xs.length - i/\i<=xs.length/\Pv i ys H,⟨xs.length,rfl,Nat.zero_le _,h0⟩,?_⟩
 rintro i m ys H2 ⟨rfl,hi,p⟩
 refine ⟨hlen i ys H2 hi p,?_⟩
 have q:=hl i ys H2 hi p
 by_cases h:i < xs.length
 ·refine .inr ⟨⟨xs,xs[i],q,by simp [h]⟩,fun x H3 hy=>?_⟩
  obtain ⟨rfl,hy⟩:=hy
  exact hs i x ys _ (fun ys' H'=>∃ m',m' < xs.length - i/\(m'=xs.length - (i+1)/\i+1<=xs.length/\Pv (i+1) ys' H')) (hy xs q) p fun ys' H' q=>⟨xs.length - (i+1),by omega,rfl,h,q⟩
 ·have e:i=xs.length:=by omega
  subst e
  exact .inl ⟨⟨xs,q,Nat.le_refl _⟩,hd ys H2 p⟩
theorem glue_size (sep:Str):∀ (rest:List Str) (acc:Array Nat),(rest.foldl (fun acc p=>acc++sep.cps++p.cps) acc).size=acc.size+(rest.map (·.length)).sum+rest.length * sep.length
 | [],acc=>by simp
 | p::r,acc=>by
  rw [List.foldl_cons,glue_size sep r,List.map_cons,List.sum_cons,List.length_cons,Array.size_append,Array.size_append]
  have e1:sep.length=sep.cps.size:=rfl
  have e2:p.length=p.cps.size:=rfl
  rw [e1,e2,Nat.add_mul]
  omega
theorem join_le (sep:Str) (ys:List Str):(Txt.join sep ys).length<=(ys.map (·.length)).sum+ys.length * sep.length:=by
 cases ys with
 | nil=>exact Nat.zero_le _
 | cons x r =>
  show (Builtin.Str.glued sep (x::r)).length<=_
  have q:(Builtin.Str.glued sep (x::r)).length=x.cps.size+(r.map (·.length)).sum+r.length * sep.length:=by
   show (r.foldl (fun acc p=>acc++sep.cps++p.cps) x.cps).size=_
   exact glue_size sep r x.cps
  rw [q,List.map_cons,List.sum_cons,List.length_cons,Nat.add_mul]
  have e2:x.length=x.cps.size:=rfl
  omega
theorem ObjOk.there {P:Program} {w:World} {H:Hp} {h:Heap} {a:Addr} {o:HO} (x:ObjOk P w H h a o):∃ u,h.get? a=some u:=by
 cases o with
 | lst xs=>obtain ⟨_,_,_,_,e⟩:=x;exact ⟨_,e⟩
 | tup xs=>obtain ⟨_,_,_,o,e,_⟩:=x;exact ⟨_,e⟩
 | dK kvs=>obtain ⟨_,_,_,_,o,_,_,e,_⟩:=x;exact ⟨_,e⟩
 | dT kvs=>obtain ⟨_,_,_,_,o,_,_,e,_⟩:=x;exact ⟨_,e⟩
 | set S n=>obtain ⟨o,_,_,_,e,_⟩:=x;exact ⟨_,e⟩
 | ins C dx fs=>obtain ⟨_,_,_,e,_⟩:=x;exact ⟨_,e⟩
 | own y=>exact x
 | xd fs=>obtain ⟨_,⟨_,_,_,e,_⟩,_⟩:=x;exact ⟨_,e⟩
 | rng lo hi=>obtain ⟨_,_,_,e⟩:=x;exact ⟨_,e⟩
 | frz ob u=>obtain ⟨e,_⟩:=x;exact ⟨_,e⟩
 | tbl ps=>exact ⟨_,(show h.get? a=some _ from x)⟩
 | met f y=>exact ⟨_,(show h.get? a=some _ from x)⟩
 | ext φ=>obtain ⟨_,e,_⟩:=x;exact e
structure Fly (P:Program) (w:World) (outer:List Env) (H:Hp) (s:Shared) (H':Hp) (a:Addr) (cls:Value) (s':Shared):Prop where
 os:s'.os=s.os
 bare:AllBare s'.gens
 un:Un (frs outer) [] H H' s.heap s'.heap
 hok:HOk P w H' s'.heap
 an:H' a=none
 fly:∃ (B:Heap) (a0:Value),Heap.FlyingW B outer a cls a0 s'.heap/\∀ b o,s'.heap.get? b=some o->((∃ q,s.heap.get? b=some q)\/∃ u,H' b=some u)->b ∉ frs outer->B.get? b=some o
def CXO (P:Program) (w:World):CXT:=fun outer H s E e s'=>∃ a cls H',e=.ref a/\Fly P w outer H s H' a cls s'/\E cls none H'
section
variable {CX:CXT} {P:Program} {w:World} {K:PySem.W.Frag} {mg:Str->Option Value} {base:Heap} {N:List Str} {qual:Str} {scope:Scope} {f:Addr} {cdv:Value} {A:Around} {outer:List Env} {s s1 s2:Shared} {H H1 H2:Hp} {E:XK}
 {pins:List (Addr × Obj)} {σ:St} {a:Addr} {cls a0:Value} {B h':Heap}
theorem fly_out (I:Inv (cxOf CX P w K mg base N qual scope f cdv A outer s H E) pins σ H1 s1) (os:s2.os=s1.os) (bare:AllBare s2.gens)
  (un:Un (frs (envOfC qual scope s.heap.objs.size f cdv::outer)) [] H1 H2 s1.heap s2.heap) (hok:HOk P w H2 s2.heap) (an:H2 a=none)
  (hB:∀ b o,s2.heap.get? b=some o->((∃ q,s1.heap.get? b=some q)\/∃ u,H2 b=some u)->b ∉ frs (envOfC qual scope s.heap.objs.size f cdv::outer)->B.get? b=some o)
  (hfl:Heap.FlyingW B outer a cls a0 h') (hsl:∀ b∈frs outer,∀ o,s2.heap.get? b=some o->∃ sl,h'.get? b=some { o with slots:=sl }):Fly P w outer H s H2 a cls { s2 with heap:=h' }:=by
 have fr:frs (envOfC qual scope s.heap.objs.size f cdv::outer)=s.heap.objs.size::frs outer:=rfl
 have old:∀ b o,s.heap.get? b=some o->b≠s.heap.objs.size:=fun b o e=>Nat.ne_of_lt (Heap.lt_size e)
 have nin:∀ b,b≠s.heap.objs.size->b ∉ frs outer->b ∉ frs (envOfC qual scope s.heap.objs.size f cdv::outer):=fun b h1 h2 z=>by
  rw [fr] at z
  rcases List.mem_cons.mp z with z | z
  ·exact h1 z
  ·exact h2 z
 have u1:Un (frs outer) [] H H1 s.heap s1.heap:=I.base
 have hst:∀ b∈frs (envOfC qual scope s.heap.objs.size f cdv::outer),H2 b=none:=fun b hb=>by
  obtain ⟨_,o,e,_⟩:=I.stack.mem (show b∈(envOfC qual scope s.heap.objs.size f cdv::outer).filterMap (·.frame) from hb)
  exact un.free b o e (I.stkFree b hb) (by simp)
 have there2:∀ b o,s.heap.get? b=some o->∃ o',s2.heap.get? b=some o':=fun b o e=>by
  obtain ⟨o1,e1⟩:=u1.there b o e (by simp)
  exact un.there b o1 e1 (by simp)
 have inB:∀ b o,s.heap.get? b=some o->b ∉ frs outer->∀ o2,s2.heap.get? b=some o2->h'.get? b=some o2:=fun b o e hb o2 e2=>by
  obtain ⟨o1,e1⟩:=u1.there b o e (by simp)
  exact hfl.1 b o2 (hB b o2 e2 (.inl ⟨o1,e1⟩) (nin b (old b o e) hb))
 have trB:∀ b u,H2 b=some u->∀ o2,s2.heap.get? b=some o2->h'.get? b=some o2:=fun b u e o2 e2 =>
  hfl.1 b o2 (hB b o2 e2 (.inr ⟨u,e⟩) fun z=>by rw [hst b z] at e;cases e)
 refine ⟨os.trans I.os,bare,⟨fun b o e n hb hx=>?_,fun b o e n hb hx=>?_,fun b o e n hx=>?_,fun b o e hx=>?_,fun b xs e=>un.tups b xs (u1.tups b xs e),fun b o u e=>un.frzs b o u (u1.frzs b o u e),fun b ps e=>?_⟩,fun b u e=>?_,an,⟨B,a0,hfl,fun b o e hh hb=>?_⟩⟩
 ·exact inB b o e hb o (un.keep b o (u1.keep b o e n hb hx) (u1.free b o e n hx) (nin b (old b o e) hb) hx)
 ·obtain ⟨sl,e1⟩:=u1.slot b o e n hb hx
  obtain ⟨sl2,e2⟩:=un.any e1 (u1.free b o e n hx) hx
  obtain ⟨sl3,e3⟩:=hsl b hb _ e2
  exact ⟨sl3,e3⟩
 ·obtain ⟨o1,e1⟩:=u1.there b o e hx
  exact un.free b o1 e1 (u1.free b o e n hx) hx
 ·obtain ⟨o2,e2⟩:=there2 b o e
  by_cases hb:b∈frs outer
  ·obtain ⟨sl,e3⟩:=hsl b hb _ e2
   exact ⟨_,e3⟩
  ·exact ⟨o2,inB b o e hb o2 e2⟩
 ·obtain ⟨m1,e1⟩:=u1.tbls b ps e
  obtain ⟨m2,e2⟩:=un.tbls b _ e1
  exact ⟨m1++m2,by rw [e2,Array.append_assoc]⟩
 ·refine (hok b u e).stay (fun c v hc q=>?_) (fun _ q=>q) fun _ _ q=>q
  rcases hc with z | z
  ·subst z;exact trB c u e v q
  ·exact trB c _ z v q
 ·rcases hh with ⟨q,hq⟩ | ⟨u,hu⟩
  ·obtain ⟨o2,e2⟩:=there2 b q hq
   have e3:=inB b q hq hb o2 e2
   have e':h'.get? b=some o:=e
   rw [e3] at e';cases e'
   obtain ⟨o1,e1⟩:=u1.there b q hq (by simp)
   exact hB b _ e2 (.inl ⟨o1,e1⟩) (nin b (old b q hq) hb)
  ·obtain ⟨o2,e2⟩:=(hok b u hu).there
   have e3:=trB b u hu o2 e2
   have e':h'.get? b=some o:=e
   rw [e3] at e';cases e'
   exact hB b _ e2 (.inr ⟨u,hu⟩) fun z=>by rw [hst b z] at hu;cases hu
theorem passO:Passes (CXO P w) (cxOf (CXO P w) P w K mg base N qual scope f cdv A outer s H E) E:=by
 intro pins σ H1 s1 e s2 I ⟨a,cls,H2,he,F,hE⟩
 subst he
 obtain ⟨B,a0,hfl,hB⟩:=F.fly
 have hfr:(A.deeper (envOfC qual scope s.heap.objs.size f cdv)).frames=some (envOfC qual scope s.heap.objs.size f cdv::outer):=I.ok.frames
 show wpAny _ _ (leaving _ _) _ _ _
 refine wpAny_leaves_onW hfr rfl hfl fun h' x1 x2=>⟨a,cls,H2,rfl,?_,hE⟩
 refine fly_out I F.os F.bare F.un F.hok F.an hB x1 fun b hb o e=>x2 b o e ?_
 obtain ⟨_,o',e',d⟩:=hfl.2.2.1.mem (show b∈(envOfC qual scope s.heap.objs.size f cdv::outer).filterMap (·.frame) from List.mem_cons_of_mem _ hb)
 rw [e] at e';cases e'
 exact d
theorem own_cls {K:PySem.W.Frag} {h:Heap} {mg:Str->Option Value} {x:Str} {C:Addr} {bmB:List Value} {newId:String} (X:K.In h) (b:mg x=some (.ref C)) (q:PySem.W.excIn K C bmB newId=true):OwnCls x C bmB newId mg h:=by
 have no:∀ {P:Prop},false=true->P:=fun z=>absurd z Bool.false_ne_true
 unfold PySem.W.excIn at q
 split at q<;>first | exact no q | skip
 next dict data slots found =>
 split at q<;>first | exact no q | skip
 next first above w0 w1 w2 w3 made w5 order listed =>
 simp only [Bool.and_eq_true] at q
 obtain ⟨⟨⟨⟨⟨isC,isNew⟩,noDel⟩,tail⟩,ok⟩,noInit⟩:=q
 have eC:first=C:=beq_iff_eq.mp isC
 have eN:made=newId:=beq_iff_eq.mp isNew
 have eD:data.hasDel=false:=by simpa using noDel
 have eS:slots=#[w0,w1,w2,w3,some (.builtin made),w5]:=Array.toList_inj.mp (by rw [listed])
 cases data
 simp only at order eD
 subst eC eN order eD eS
 exact { bound:=b,obj:=⟨above,_,_,_,_,_,_,_,_,_,dict,w0,w1,w2,w3,w5,_,X _ _ found,.of_isNs (PySem.W.isNs_of_in X ok),PySem.W.nsMap_none_of_in X ok (by simpa using noInit),PySem.W.tail_of_in X tail⟩ }
def tRaise (C:Addr) (t:TA) (E:XK):TS:=fun D σ H=>t σ H fun vs H1=>vs.length<=sizeLine/\E (.ref C) none H1
theorem ps_raise {x:Str} {C:Addr} {bm:List Value} {Bn newId initId:String} {np cpos pos:Pos} {e₀:Expr} {rest:List Expr} {t:TA} (hx:Gl (cxOf (CXO P w) P w K mg base N qual scope f cdv A outer s H E) x) (b:mg x=some (.ref C)) (q:PySem.W.excIn K C bm newId=true) (FB:ExcBaseFacts Bn newId initId bm)
  (ha:PA (cxOf (CXO P w) P w K mg base N qual scope f cdv A outer s H E) (e₀::rest) t) (hd:(x == ("__debug__" : Str))=false:=by decide)
  (he:starEach (e₀::rest) (envOfC qual scope s.heap.objs.size f cdv)=(false,eval e₀ (envOfC qual scope s.heap.objs.size f cdv))::starEach rest (envOfC qual scope s.heap.objs.size f cdv):=by rfl)
  (hplain:(backTo cpos (starEach rest (envOfC qual scope s.heap.objs.size f cdv))).any (·.1)=false:=by rfl) :
  PS (cxOf (CXO P w) P w K mg base N qual scope f cdv A outer s H E) (.Raise (some (.Call (.Name x np) (e₀::rest) [] cpos)) none pos) (tRaise C t E):=by
 intro pins s0 σ H0 D I h
 obtain ⟨tl,Nn,nm,q',bs,hdct,sn,sub,ab,col,dd,k0,k1,k2,k3,k5,mN,hC,hN,hni,T⟩:=(own_cls I.mod.kin b q).obj
 refine wpAny_Raise_call_subT (C:=C) (nm:=nm) (q:=q') (N:=Nn) (bs:=bs) (bm:=tl) (hdct:=hdct) (sn:=sn) (sub:=sub) (ab:=ab) (col:=col) (dd:=dd) (k0:=k0) (k1:=k1) (k2:=k2) (k3:=k3) (k5:=k5)
  FB (mN:=mN) (T.hasType FB.hasBase) (I.ok.hd rfl) (by show (backTo cpos (starEach (e₀::rest) (envOfC qual scope s.heap.objs.size f cdv))).any _=false;rw [he];show (false || (backTo cpos (starEach rest (envOfC qual scope s.heap.objs.size f cdv))).any (·.1))=false;rw [hplain];rfl) hni (ld_glob I hx b ⟨rfl,?_⟩ hd)
 have hA:=ha cpos pins s0 σ H0 _ I h
 have he':starEach (e₀::rest) (cxOf (CXO P w) P w K mg base N qual scope f cdv A outer s H E).env=(false,eval e₀ (cxOf (CXO P w) P w K mg base N qual scope f cdv A outer s H E).env)::starEach rest (cxOf (CXO P w) P w K mg base N qual scope f cdv A outer s H E).env:=he
 rw [he'] at hA ⊢
 refine Calls.evalArgs_plain (wpAny_mono hA (fun us s2 ⟨vs,H2,I2,rv,hz,hE⟩=>⟨rfl,by rw [<- rv.length];exact hz,I2.bk _ _ hC,hN.keeps I2.bk,T.keeps I2.bk,fun h' e hx'=>?_⟩) fun _ _ y=>y)
 have hfr:(A.deeper (envOfC qual scope s.heap.objs.size f cdv)).frames=some (envOfC qual scope s.heap.objs.size f cdv::outer):=I2.ok.frames
 have hin:∀ env∈(envOfC qual scope s.heap.objs.size f cdv::outer),∀ b,env.frame=some b->b∈frs (envOfC qual scope s.heap.objs.size f cdv::outer):=fun env he b hb=>List.mem_filterMap.mpr ⟨env,he,hb⟩
 have noH:∀ b,s2.heap.get? b=none->H2 b=none:=fun b e=>by
  cases z:H2 b with
  | none=>rfl
  | some u=>obtain ⟨o,eo⟩:=(I2.hok b u z).there;rw [e] at eo;cases eo
 show wpAny _ _ (leaving _ _) _ _ _
 refine wpAny_leaves_madeW (base:=PySem.W.hideAll s2.heap (frs (envOfC qual scope s.heap.objs.size f cdv::outer))) (h:=s2.heap) hfr rfl (fun b o q=>PySem.W.of_hideAll _ q) (PySem.W.funFrames_hide I2.stack hin) hx' fun h'' t x1 x2 x3 x4=>⟨e,.ref C,H2,rfl,?_,hE⟩
 refine fly_out (s2:={ s2 with heap:=h' }) I2 rfl I2.bare (Un.kept hx'.keeps) (I2.hok.kept hx'.keeps) (noH e hx'.new) (fun b o eb hh hb=>?_) x1 fun b hb o eb=>x4 b o eb ?_
 ·have key:∀ o',s2.heap.get? b=some o'->(PySem.W.hideAll s2.heap (frs (envOfC qual scope s.heap.objs.size f cdv::outer))).get? b=some o:=fun o' e'=>by
   have e2:=hx'.keeps b o' e'
   have e3:h'.get? b=some o:=eb
   rw [e2] at e3;cases e3
   exact PySem.W.hideAll_get _ e' hb
  rcases hh with ⟨o',e'⟩ | ⟨u,hu⟩
  ·exact key o' e'
  ·obtain ⟨o',e'⟩:=(I2.hok b u hu).there
   exact key o' e'
 ·obtain ⟨_,o',e',d⟩:=I2.stack.mem (show b∈(envOfC qual scope s.heap.objs.size f cdv::outer).filterMap (·.frame) from List.mem_cons_of_mem _ hb)
  have e2:=hx'.keeps b o' e'
  have e3:h'.get? b=some o:=eb
  rw [e2] at e3;cases e3
  exact d
end
def XPe (X:Cx) (pins:List (Addr × Obj)) (σ:St) (R:XK) (e:Value) (s':Shared):Prop:=∃ a cls H1 s1 H',e=.ref a/\Inv X pins σ H1 s1/\Fly X.prog X.w X.stack H1 s1 H' a cls s'/\R cls none H'
abbrev TX:=St->Hp->VK->XK->Prop
def PEX (X:Cx) (e:Expr) (tx:TX):Prop:=∀ (pins:List (Addr × Obj)) (s:Shared) (σ:St) (H:Hp) (Q:VK) (R:XK),Inv X pins σ H s->tx σ H Q R->wpAny (model X.prog X.w) X.A (eval e X.env) (EP X pins σ Q) (XPe X pins σ R) s
def tCallX (sp:Sp) (dvs:List V) (t:TA):TX:=fun σ H Q R=>t σ H fun vs H1=>sp (vs++dvs) H1 Q R
def tMakeX (C:Addr) (sp:Sp) (dvs:List V) (t:TA):TX:=fun σ H Q R=>t σ H fun vs H1=>∀ x dx,H1 x=none->H1 dx=none->dx≠x ->
 sp (.ref x::(vs++dvs)) (upd (upd H1 dx (.own x)) x (.ins C dx [])) (fun v H2=>v=.non/\Q (.ref x) H2) R
section
variable {X:Cx} {k:Nat} {f C:Addr} {fd:FuncData} {ps:List Str} {sp:Sp} {dvs:List V} {ds:List Value} {x m:Str} {p pos apos:Pos} {e o:Expr} {es:List Expr} {ta:TE} {t:TA}
theorem run_fnX {pins:List (Addr × Obj)} {σ:St} {H:Hp} {s:Shared} {Q:VK} {R:XK} {us:List Value} {vs:List V} (F:FnOk X.prog X.w X.K X.mg X.base (CXO X.prog X.w) k f fd ps sp) (hr:Room k X.A) (hb:Binds X.K fd ps ds) (hd:Vals dvs ds)
  (I:Inv X pins σ H s) (r:Vals vs us) (h:sp (vs++dvs) H Q R):wpAny (model X.prog X.w) X.A (call (.ref f) us) (EP X pins σ Q) (XPe X pins σ R) s:=by
 have r2:Vals (vs++dvs) (us++ds):=r.append hd
 have hl:(us++ds).length=ps.length:=by rw [<- r2.length];exact F.len _ _ _ _ h
 refine wpAny_call (codeAny_mono (F.run X.A X.stack s H ⟨us,[]⟩ (us++ds) (vs++dvs) Q R hr I.env0 (hb s us I.kIn hl) r2 h) fun r s' hq=>?_)
 cases r with
 | error e =>
  obtain ⟨a,cls,H',rfl,fl,hR⟩:=hq
  exact ⟨a,cls,H,s,H',rfl,I,fl,hR⟩
 | ok fl =>
  cases fl with
  | ret u=>exact I.after hq
  | next=>exact False.elim hq
  | brk=>exact False.elim hq
  | cont=>exact False.elim hq
theorem pex_call (F:FnOk X.prog X.w X.K X.mg X.base (CXO X.prog X.w) k f fd ps sp) (hr:Room k X.A) (hg:Gl X x) (hm:X.mg x=some (.ref f)) (hk:PySem.W.keepIn X.K (.ref f)=true) (hb:Binds X.K fd ps ds) (hd:Vals dvs ds)
  (ha:∀ xe,PA (X.wish xe) (e::es) t) (hdb:(x == ("__debug__" : Str))=false:=by decide) (he:starEach (e::es) X.env=(false,eval e X.env)::starEach es X.env:=by rfl) (hpl:(backTo pos (starEach es X.env)).any (·.1)=false:=by rfl) :
  PEX X (.Call (.Name x p) (e::es) [] pos) (tCallX sp dvs t):=by
 intro pins s σ H Q R I h
 refine wpAny_Call_Name_kw (ld_glob I hg hm ?_ hdb)
 refine PySem.W.callWith_K (h₀:=X.base) I.ok.mod.kin hk (thn (ha (XPe X pins σ R) pos pins s σ H _ (I.wish _) h) fun us s1 ⟨vs,H1,I1,r,q⟩=>⟨I1.unwish.kIn,?_⟩) he hpl
 exact run_fnX F hr hb hd I1.unwish r q
theorem goes_ok {M:Model} {A:Around} {E:Value->Shared->Prop} {pins:List (Addr × Obj)} {σ:St} {H:Hp} {s:Shared} {i:Nat} {x:Str} {hpos:Pos} {Q:Unit->Shared->Prop} (I:Inv X pins σ H s) (hN:X.N.Nodup) (hi:X.N[i]?=some x) (hk:X.env.scope.names.lookup x=some .local)
  (h:∀ s',Inv X pins (σ.set i none) H s'->Q () s'):wpAny M A (do bindName X.env x .none;unbindBehindTheSuite X.env x hpos) Q E s:=by
 obtain ⟨m,hn,hl⟩:=id I.loc
 have hcls:(X.env.scope.kind == .class || (X.env.scope.kind == .module && X.env.locals != X.env.globals))=false:=by rw [I.ok.kind];rfl
 have hiσ:i < σ.length:=by rw [I.len];exact (List.getElem?_eq_some_iff.mp hi).1
 have cne:=I.cne
 refine wpAny_nameGoes_keeps hk hn hcls fun h' v hn' hs=>h _ ?_
 obtain ⟨oL,_,_,hoL,_⟩:=id hn
 have tracked:HOk X.prog X.w H h':=fun b ob e=>by
  refine (I.hok b ob e).stay (fun c w' hc q=>(hs.2 c ?_).trans q) (fun _ q=>q) fun _ _ q=>q
  rintro rfl
  have hfree:=I.free
  rcases hc with rfl | hc
  ·rw [hfree] at e;cases e
  ·rw [hfree] at hc;cases hc
 refine ⟨I.ok,I.os,I.bare,⟨fun b o e n hb hx=>?_,fun b o e n hb hx=>?_,I.base.free,fun b o e hx=>?_,I.base.tups,I.base.frzs,I.base.tbls⟩,⟨_,hn',fun j y v' e1 e2 e3=>?_⟩,fun y c e=>?_,I.free,I.freeC,fun p hp=>?_,tracked,by simpa using I.len⟩
 ·exact (hs.2 b (Nat.ne_of_lt (Nat.lt_of_lt_of_le (Heap.lt_size e) I.ok.above))).trans (I.base.keep b o e n hb hx)
 ·obtain ⟨sl,e1⟩:=I.base.slot b o e n hb hx
  exact ⟨sl,(hs.2 b (Nat.ne_of_lt (Nat.lt_of_lt_of_le (Heap.lt_size e) I.ok.above))).trans e1⟩
 ·obtain ⟨o',e1⟩:=I.base.there b o e hx
  exact ⟨o',(hs.2 b (Nat.ne_of_lt (Nat.lt_of_lt_of_le (Heap.lt_size e) I.ok.above))).trans e1⟩
 ·by_cases hj:j=i
  ·subst hj
   rw [List.getElem?_set_self hiσ] at e2
   cases e2
  ·rw [List.getElem?_set_ne (Ne.symm hj)] at e2
   obtain ⟨u',r',q⟩:=hl j y v' e1 e2 e3
   refine ⟨u',r',?_⟩
   rcases q with ⟨k,e⟩ | ⟨k,c,e,z⟩
   ·refine .inl ⟨k,?_⟩
    have:y≠x:=fun e=>hj (nodup_ix hN e1 (e ▸ hi))
    simp [this,e]
   ·exact .inr ⟨k,c,e,z.sameBut hs (cne y c e)⟩
 ·obtain ⟨w',z⟩:=I.cell y c e
  exact ⟨w',z.sameBut hs (cne y c e)⟩
 ·obtain ⟨e,n,ne,nf,d⟩:=I.pin p hp
  exact ⟨(hs.2 p.1 ne).trans e,n,ne,nf,d⟩
end
def excO (a:Addr) (cls:Value):HO:=.ext fun h=>∃ o vs,h.get? a=some o/\o.cls=cls/\o.data=.fields vs
section
variable {X:Cx} {pins:List (Addr × Obj)} {σ:St} {H1 H2:Hp} {s1 s2:Shared} {a:Addr} {cls a0:Value} {B h':Heap}
abbrev Cx.catch (X:Cx) (a:Addr):Cx:={ X with A:=X.A.mark (some (.ref a)),calm:=false }
theorem Cx.Ok.catch {X:Cx} (ok:X.Ok) (a:Addr):(X.catch a).Ok :=
 ⟨ok.mod,ok.kind,ok.glob,ok.blt,ok.above,ok.inj,ok.has,ok.cab,fun z=>Bool.noConfusion (show false=true from z),ok.frames,ok.stk,ok.exf,ok.bs,ok.bsz,ok.noex,ok.exfs,ok.funs,ok.frf⟩
theorem Inv.catch {H:Hp} {s:Shared} (I:Inv X pins σ H s) (a:Addr):Inv (X.catch a) pins σ H s:=⟨I.ok.catch a,I.os,I.bare,I.base,I.loc,I.cell,I.free,I.freeC,I.pin,I.hok,I.len⟩
theorem Inv.uncatch {H:Hp} {s:Shared} (ok:X.Ok) (I:Inv ((X.catch a).nox) pins σ H s):Inv X pins σ H s:=⟨ok,I.os,I.bare,I.base,I.loc,I.cell,I.free,I.freeC,I.pin,I.hok,I.len⟩
theorem fly_in (I:Inv X pins σ H1 s1) (fl:Fly X.prog X.w X.stack H1 s1 H2 a cls s2) (hB:∀ b o,s2.heap.get? b=some o->((∃ q,s1.heap.get? b=some q)\/∃ u,H2 b=some u)->b ∉ frs X.stack->B.get? b=some o)
  (hfl:Heap.FlyingW B X.stack a cls a0 h') (hsl:∀ b∈frs X.stack,∀ o,s2.heap.get? b=some o->∃ sl,h'.get? b=some { o with slots:=sl }) :
  Inv X pins σ H2 { s2 with heap:=h' }/\Inv X pins σ (upd H2 a (excO a cls)) { s2 with heap:=h' }:=by
 have un:=fl.un
 have hst:∀ b∈frs X.stack,H2 b=none:=fun b hb=>by
  obtain ⟨_,o,e,_⟩:=I.stack.mem (show b∈X.stack.filterMap (·.frame) from hb)
  exact un.free b o e (I.stkFree b hb) (by simp)
 have inB:∀ b o,s1.heap.get? b=some o->b ∉ frs X.stack->∀ o2,s2.heap.get? b=some o2->h'.get? b=some o2:=fun b o e hb o2 e2=>hfl.1 b o2 (hB b o2 e2 (.inl ⟨o,e⟩) hb)
 have trB:∀ b u,H2 b=some u->∀ o2,s2.heap.get? b=some o2->h'.get? b=some o2:=fun b u e o2 e2=>hfl.1 b o2 (hB b o2 e2 (.inr ⟨u,e⟩) fun z=>by rw [hst b z] at e;cases e)
 have un':Un (frs X.stack) [] H1 H2 s1.heap h':=by
  refine ⟨fun b o e n hb hx=>inB b o e hb o (un.keep b o e n hb hx),fun b o e n hb hx=>?_,un.free,fun b o e hx=>?_,un.tups,un.frzs,un.tbls⟩
  ·obtain ⟨sl2,e2⟩:=un.any e n hx
   obtain ⟨sl3,e3⟩:=hsl b hb _ e2
   exact ⟨sl3,e3⟩
  ·obtain ⟨o2,e2⟩:=un.there b o e hx
   by_cases hb:b∈frs X.stack
   ·obtain ⟨sl,e3⟩:=hsl b hb _ e2
    exact ⟨_,e3⟩
   ·exact ⟨o2,inB b o e hb o2 e2⟩
 have hok':HOk X.prog X.w H2 h':=fun b u e=>by
  refine (fl.hok b u e).stay (fun c v hc q=>?_) (fun _ q=>q) fun _ _ q=>q
  rcases hc with z | z
  ·subst z;exact trB c u e v q
  ·exact trB c _ z v q
 obtain ⟨oe,vs,he,hc,hd,_⟩:=hfl.first
 have anew:s1.heap.get? a=none:=by
  cases q:s1.heap.get? a with
  | none=>rfl
  | some o =>
   exfalso
   by_cases hb:a∈frs X.stack
   ·obtain ⟨_,o',e',d⟩:=hfl.2.2.1.mem (show a∈X.stack.filterMap (·.frame) from hb)
    rw [he] at e';cases e'
    exact d vs hd
   ·obtain ⟨o2,e2⟩:=un.there a o q (by simp)
    have:=hB a o2 e2 (.inl ⟨o,q⟩) hb
    rw [hfl.2.1] at this;cases this
 have aH1:H1 a=none:=by
  cases z:H1 a with
  | none=>rfl
  | some u=>obtain ⟨o,eo⟩:=(I.hok a u z).there;rw [anew] at eo;cases eo
 refine ⟨I.call' (ch:=[]) (s':={ s2 with heap:=h' }) fl.os un' hok' fl.bare (fun b z=>nomatch z),I.call' (ch:=[]) (s':={ s2 with heap:=h' }) fl.os ?_ ?_ fl.bare (fun b z=>nomatch z)⟩
 ·have na:∀ b o,s1.heap.get? b=some o->b≠a:=fun b o e z=>by rw [z,anew] at e;cases e
  refine ⟨un'.keep,un'.slot,fun b o e n hx=>by rw [upd_ne (na b o e)];exact un'.free b o e n hx,un'.there,fun b xs e=>?_,fun b o u e=>?_,fun b ps e=>?_⟩
  ·rw [upd_ne (ne_of_none e aH1)];exact un.tups b xs e
  ·rw [upd_ne (ne_of_none e aH1)];exact un.frzs b o u e
  ·rw [upd_ne (ne_of_none e aH1)];exact un.tbls b ps e
 ·intro b u e
  by_cases hb:b=a
  ·subst hb
   rw [upd_same] at e;cases e
   refine ⟨⟨oe,vs,he,hc,hd⟩,⟨oe,he⟩,fun g1 g2 ⟨o,vs',q1,q2,q3⟩ k=>⟨o,vs',k o q1,q2,q3⟩⟩
  ·rw [upd_ne hb] at e
   refine (hok' b u e).stay (fun c v _ q=>q) (fun c q=>by rw [upd_ne (ne_of_none q fl.an)];exact q) fun c xs q=>by rw [upd_ne (ne_of_none q fl.an)];exact q
end
def tTry (K:PySem.W.Frag) (c:Value) (i:Nat) (tx:TX) (ts:TS):TS:=fun D σ H=>tx σ H (fun _ H1=>D.nx σ H1) fun cls _ H1=>PySem.W.exmOne K cls c=some true/\∀ a,H1 a=none ->
 ts { nx:=fun σ2 H2=>D.nx (σ2.set i none) H2,rt:=D.rt,bk:=fun σ2 H2=>D.bk (σ2.set i none) H2,ct:=fun σ2 H2=>D.ct (σ2.set i none) H2 } (σ.set i (some (.ref a))) (upd H1 a (excO a cls))
section
variable {X:Cx} {e:Expr} {tx:TX} {ts:TS} {x n:Str} {c:Value} {i:Nat} {b₀:Stmt} {suite:List Stmt} {pos pos' np hpos:Pos}
theorem ps_try (hst:X.stack=X.env::X.outer) (hf:X.env.frame=some X.env.locals) (he:PEX X e tx) (hx:Gl X x) (hm:X.mg x=some c) (hN:X.N.Nodup) (hi:X.N[i]?=some n) (hn:X.env.scope.names.lookup n=some .local)
  (hs:∀ a,PSs ((X.catch a).nox) (b₀::suite) ts) (hd:(x == ("__debug__" : Str))=false:=by decide) (hsw:swapsWith e none pos'.line X.env=pure false:=by rfl) :
  PS X (.Try [.Expr e pos'] [.ExceptHandler (some (.Name x np)) (some n) (b₀::suite) hpos] [] [] pos) (tTry X.K c i tx ts):=by
 intro pins s σ H D I h
 refine wpAny_Try_except (wpAny_execs_cons (wpAny_Expr_any (wpAny_mono (he pins s σ H _ _ I h) (fun v s1 ⟨y,H1,I1,r1,q1⟩=>wpAny_execs_nil (wpAny_execs_nil ⟨σ,H1,I1,q1⟩)) fun ev s2 hx2=>?_) I.quiet hsw))
 obtain ⟨a,cls,H1,s1,H2,rfl,I1,fl,hex,hR⟩:=hx2
 obtain ⟨B,a0,hfl,hB⟩:=fl.fly
 have hfr:X.A.frames=some (X.env::X.outer):=by rw [I.ok.frames,hst]
 have hfl0:Heap.FlyingW B (X.env::X.outer) a cls a0 s2.heap:=hst ▸ hfl
 have fs0:∀ {g:Heap},s2.heap.UpToSlots g->∀ b∈frs X.stack,∀ o,s2.heap.get? b=some o->∃ sl,g.get? b=some { o with slots:=sl }:=fun {g} u b hb o e=>u b o e (by
  obtain ⟨_,o',e',d⟩:=hfl.2.2.1.mem (show b∈X.stack.filterMap (·.frame) from hb)
  rw [e] at e';cases e'
  exact d)
 refine wpAny_looks_onW hfr hf hfl0 fun h4 held4 u4=>?_
 refine wpAny_landsW held4 fun h5 fly5 u5=>?_
 have fly5':Heap.FlyingW B X.stack a cls a0 h5:=hst ▸ fly5
 have I5:=(fly_in I1 fl hB fly5' (fs0 (u4.trans u5))).1
 have J5:=I5.catch a
 refine wpAny_handleBy_cons (codeAny_handlers_test ?_) (by intro q;cases q)
 refine ld_glob (X:=X.catch a) J5 hx hm ?_ hd
 have LT:PySem.W.Looks (model X.prog X.w) h5 (typeOf (.ref a)) cls:=by
  obtain ⟨ob,hob,hc⟩:=fly5.there
  subst hc
  exact (PySem.W.Looks.ld hob).andThen .now
 refine PySem.W.Looks.here (s:={ s2 with heap:=h5 }) (PySem.W.exm_one I5.kIn LT hex) ?_
 show codeAny _ _ _ _ _
 refine codeAny_handlers_suite_as ?_
 refine lands_againW fly5' fun h6 fly6 u6=>?_
 have I6:=(fly_in I1 fl hB fly6 (fs0 ((u4.trans u5).trans u6))).2
 have J6:=I6.catch a
 refine store_ok (X:=X.catch a) J6 hN hi (.inl hn) (v:=.ref a) rfl (fun s7 J7=>?_) (.inr hn)
 have J7':Inv ((X.catch a).nox) pins (σ.set i (some (.ref a))) (upd H2 a (excO a cls)) s7:=J7.wish _
 refine wpAny_mono (hs a pins s7 _ _ _ J7' (hR a fl.an)) (fun f s8 q8=>?_) fun _ _ z=>False.elim z
 cases f with
 | next =>
  obtain ⟨σ8,H8,J8,q8⟩:=q8
  exact goes_ok (Inv.uncatch I.ok J8) hN hi hn fun s9 I9=>⟨_,H8,I9,q8⟩
 | brk =>
  obtain ⟨σ8,H8,J8,q8⟩:=q8
  exact goes_ok (Inv.uncatch I.ok J8) hN hi hn fun s9 I9=>⟨_,H8,I9,q8⟩
 | cont =>
  obtain ⟨σ8,H8,J8,q8⟩:=q8
  exact goes_ok (Inv.uncatch I.ok J8) hN hi hn fun s9 I9=>⟨_,H8,I9,q8⟩
 | ret u =>
  obtain ⟨v,σ8,H8,J8,r8,q8⟩:=q8
  exact goes_ok (Inv.uncatch I.ok J8) hN hi hn fun s9 I9=>⟨v,_,H8,I9,r8,q8⟩
end
section
variable {prog:Program} {w:World} {A:Around} {E:Value->Shared->Prop} {h:Heap} {g:Array GenState} {d:Drawn} {t:Nat} {os:OsState} {K:PySem.W.Frag} {a C:Addr} {o:Obj} {vs:Array Value}
theorem owner_class:(".".intercalate ("object.__class__".cutAt '.').dropLast)="object" := by decide +kernel
theorem exc_class_get {R:Result->Shared->Prop} (X:K.In h) (hx:h.get? a=some o) (hc:o.cls=.ref C) (m1:PySem.W.mroIn K C (.type "object")=some true) (hq:R (.ok (.ret (.ref C))) ⟨h,g,d,t,os⟩) :
  codeAny (model prog w) A (.call (.builtin "getset_descriptor.__get__") ⟨[.builtin "object.__class__",.ref a,.ref C],[]⟩) R ⟨h,g,d,t,os⟩:=by
 have hT5:(⟨h,g,d,t,os⟩:Shared).TypeIs (.builtin "object.__class__") "getset_descriptor" := F.typeOf_object_class
 have L1:=PySem.W.looks_mroIn (M:=model prog w) X m1
 rw [<- owner_class] at L1
 refine codeAny_call_builtin F.slot_gs_get.plain F.entry_gs_get (F.slot_gs_get.check _ _ _ _ _ _ _ _ hT5 (F.args_gs_get _ _ _) ?_)
 repeat (any_goals (first | assumption | (with_reducible refine wpAny_loadPart_at hx ?_;rw [hc]) | with_reducible refine L1.at ?_ | wp_step))
 refine ⟨Code.quiet_builtin _ (by decide +kernel),codeAny_builtin F.entry_object_class ?_⟩
 repeat (any_goals (first | assumption | (with_reducible refine wpAny_loadPart_at hx ?_;rw [hc]) | wp_step))
theorem exc_class_entry {tk:Tok} {Q:PySem.Fin->Shared->Prop} (X:K.In h) (hx:h.get? a=some o) (hc:o.cls=.ref C) (m1:PySem.W.mroIn K C (.type "object")=some true) (g3:PySem.W.findIn K (.ref C) "__class__" = some (some (.builtin "object.__class__")))
  (hq:Q (.done (.ret (.ref C))) ⟨h,g,d,t,os⟩):wpAny (model prog w) A (Builtin.«object.__getattribute__» ⟨[.ref a,.str "__class__" tk],[]⟩) Q E ⟨h,g,d,t,os⟩:=by
 have hT5:(⟨h,g,d,t,os⟩:Shared).TypeIs (.builtin "object.__class__") "getset_descriptor" := F.typeOf_object_class
 have L3:=PySem.W.looks_findIn (M:=model prog w) X g3
 have f5:=F.typeOf_object_class
 have f6:=F.slot_gs_get.lookup
 have f7:=F.slot_gs_set.lookup
 repeat (any_goals (first | assumption | (with_reducible refine wpAny_loadPart_at hx ?_;rw [hc]) | with_reducible refine L3.at ?_ | wp_step))
 refine exc_class_get X hx hc m1 ?_
 repeat (any_goals (first | assumption | wp_step))
theorem exc_check {M:Model} {nameV:Value} {Q:Unit->Shared->Prop} (X:K.In h) (hx:h.get? a=some o) (hc:o.cls=.ref C) (m2:PySem.W.mroIn K C (.type "BaseException")=some true) (hq:Q () ⟨h,g,d,t,os⟩) :
  wpAny M A (checkBuiltinCall "BaseException.__getattribute__" ⟨[.ref a,nameV],[]⟩) Q E ⟨h,g,d,t,os⟩:=by
 have hk:builtinKind "BaseException.__getattribute__" = some .slot:=by decide +kernel
 have hsplit:splitId "BaseException.__getattribute__" = some ("BaseException","__getattribute__"):=by decide +kernel
 have L2:=PySem.W.looks_mroIn (M:=M) X m2
 have ha:=F.args_bexc_ga (.ref a) nameV
 simp only [checkBuiltinCall,hk,hsplit]
 refine wpAny_bind ?_
 ·unfold isInstance
  repeat (first | (with_reducible refine wpAny_loadPart_at hx ?_;rw [hc]) | with_reducible refine L2.at ?_ | wp_step)
  exact hq
theorem exc_class_call {tk:Tok} {R:Result->Shared->Prop} (X:K.In h) (hx:h.get? a=some o) (hc:o.cls=.ref C) (m1:PySem.W.mroIn K C (.type "object")=some true) (m2:PySem.W.mroIn K C (.type "BaseException")=some true)
  (g3:W.findIn K (.ref C) "__class__" = some (some (.builtin "object.__class__"))) (hq:R (.ok (.ret (.ref C))) ⟨h,g,d,t,os⟩) :
  codeAny (model prog w) A (.call (.builtin "BaseException.__getattribute__") ⟨[.ref a,.str "__class__" tk],[]⟩) R ⟨h,g,d,t,os⟩ :=
 codeAny_call_builtin F.attr_ValueError.ga.plain F.entry_bexc_ga (exc_check X hx hc m2 (exc_class_entry X hx hc m1 g3 hq))
theorem exc_class_by {tk:Tok} {Q:Value->Shared->Prop} (X:K.In h) (hx:h.get? a=some o) (hc:o.cls=.ref C) (m1:PySem.W.mroIn K C (.type "object")=some true) (m2:PySem.W.mroIn K C (.type "BaseException")=some true)
  (g1:W.findIn K (.ref C) "__getattribute__" = some (some (.builtin "BaseException.__getattribute__"))) (g2:W.findIn K (.ref C) "__getattr__" = some none) (g3:W.findIn K (.ref C) "__class__" = some (some (.builtin "object.__class__")))
  (hq:Q (.ref C) ⟨h,g,d,t,os⟩):wpAny (model prog w) A (getAttrBy (.ref a) (.str "__class__" tk) false) Q E ⟨h,g,d,t,os⟩:=by
 have f3:=F.attr_ValueError.ga.bind (.ref a)
 have L1:=PySem.W.looks_findIn (M:=model prog w) X g1
 have L2:=PySem.W.looks_findIn (M:=model prog w) X g2
 have hx2:(Value.builtin "BaseException.__getattribute__" == Value.builtin "object.__getattribute__")=false:=by decide +kernel
 have hx1:(onTheHeap (Value.ref C) && Value.builtin "BaseException.__getattribute__" == Value.builtin "object.__getattribute__")=false:=by rw [hx2];rfl
 repeat (any_goals (first | assumption | (with_reducible refine wpAny_loadPart_at hx ?_;rw [hc]) | with_reducible refine L1.at ?_ | with_reducible refine L2.at ?_ | wp_step))
 refine exc_class_call X hx hc m1 m2 g3 ?_
 repeat (any_goals (first | assumption | wp_step))
end
structure ExcCl (K:PySem.W.Frag) (C:Addr):Prop where
 cl:(PySem.W.clsIn K C).isSome=true
 m1:PySem.W.mroIn K C (.type "object")=some true
 m2:PySem.W.mroIn K C (.type "BaseException")=some true
 g1:PySem.W.findIn K (.ref C) "__getattribute__" = some (some (.builtin "BaseException.__getattribute__"))
 g2:PySem.W.findIn K (.ref C) "__getattr__" = some none
 g3:PySem.W.findIn K (.ref C) "__class__" = some (some (.builtin "object.__class__"))
theorem kitx_exc {K:PySem.W.Frag} {a C:Addr} (x:ExcCl K C):PySem.W.KitX K (.ref a) (.ref C) (fun h=>∃ o vs,h.get? a=some o/\o.cls=.ref C/\o.data=.fields vs) where
 ty:=fun M h _ ⟨o,vs,ho,hc,_⟩=>by
  have L:=(PySem.W.Looks.ld (M:=M) (part:=none) ho)
  have e:PySem.W.Looks M h (typeOf (.ref a)) o.cls:=(PySem.W.Looks.ld ho).andThen .now
  rw [hc] at e
  exact e
 it:=fun _ _ X _=>by
  obtain ⟨cdD,hcD⟩:=Option.isSome_iff_exists.mp x.cl
  unfold PySem.W.clsIn at hcD
  split at hcD
  ·rename_i c' d' cd' sl' ho
   intro A' Q' E' s' k q
   unfold isType loadHead
   exact wpAny_bind (wpAny_loadPart (k _ _ (X _ _ ho)) (wpAny_pure q))
  ·cases hcD
 ne:=fun h tp dd its n sl X htp=>by
  obtain ⟨cdD,hcD⟩:=Option.isSome_iff_exists.mp x.cl
  refine Bool.eq_false_iff.mpr fun q=>?_
  have e:C=tp:=Value.ref.inj (beq_iff_eq.mp q)
  subst e
  unfold PySem.W.clsIn at hcD
  split at hcD
  ·rename_i c' d' cd' sl' ho
   have z:=(X _ _ ho).symm.trans htp
   cases z
  ·cases hcD
 ca:=fun {prog w A E Q s} X ⟨o,vs,ho,hc,hd⟩ k=>by
  obtain ⟨h,g,d,t,os⟩:=s
  unfold getAttr? getAttrBy?
  refine wpAny_bind (wpAny_mkText (wpAny_bind (wpAny_attempt ?_)))
  exact exc_class_by X ho hc x.m1 x.m2 x.g1 x.g2 x.g3 (wpAny_pure k)
section
variable {X:Cx}
theorem call_isinstE:CallR X (.builtin "isinstance") (fun xs H Q=>∃ (a C:Addr) (c:V) (cv:Value) (b:Bool),xs=[.ref a,c]/\(∀ u,RelV c u->u=cv)/\H a=some (excO a (.ref C))/\ExcCl X.K C/\PySem.W.kitOne X.K (.ref C) cv=some b/\Q (.bl b) H):=by
 intro pins s σ H xs us Q I r h
 obtain ⟨a,C,c,cv,b,rfl,hc,hH,x,e,q⟩:=h
 obtain ⟨u,v,rfl,ru,rv⟩:=vals2 r
 cases ru
 cases hc v rv
 obtain ⟨p,_,_⟩:=I.hok a _ hH
 exact PySem.W.kia_one (kitx_exc x) I.kIn p e (fun z=>nomatch z) fun tk=>⟨.bl b,H,I.tok _,rfl,q⟩
theorem call_isinstT:CallR X (.builtin "isinstance") (fun xs H Q=>∃ (a C tp:Addr) (cs:List V) (cvs:List Value) (b:Bool),xs=[.ref a,.ref tp]/\H tp=some (.tup cs)/\(∀ us,Vals cs us->us=cvs)/\H a=some (excO a (.ref C))/\ExcCl X.K C/\PySem.W.kitAny X.K (.ref C) cvs=some b/\Q (.bl b) H):=by
 intro pins s σ H xs us Q I r h
 obtain ⟨a,C,tp,cs,cvs,b,rfl,htp,hcs,hH,x,e,q⟩:=h
 obtain ⟨u,v,rfl,ru,rv⟩:=vals2 r
 cases ru
 cases rv
 obtain ⟨p,_,_⟩:=I.hok a _ hH
 obtain ⟨z,its,rt,⟨o,ho,hc,n,hd⟩⟩:=I.hok tp _ htp
 cases hcs its rt
 obtain ⟨c0,d0,dt0,sl0⟩:=o
 cases hc
 cases hd
 exact PySem.W.kia_tup (kitx_exc x) I.kIn p ho e (fun z=>nomatch z) fun tk=>⟨.bl b,H,I.tok _,rfl,q⟩
end
def addS (σ:List Str) (z:Str):List Str:=if z∈σ then σ else z::σ
def dist (zs:List Str):List Str:=zs.foldl addS []
theorem mem_addS {σ:List Str} {z k:Str}:k∈addS σ z ↔ k∈σ\/k=z:=by
 unfold addS
 split
 ·exact ⟨.inl,fun h=>h.elim id fun e=>by rw [e];assumption⟩
 ·rw [List.mem_cons];exact or_comm
theorem len_addS (σ:List Str) (z:Str):(addS σ z).length=if z∈σ then σ.length else σ.length+1:=by
 unfold addS;split<;>simp
theorem dist_snoc (zs:List Str) (z:Str):dist (zs++[z])=addS (dist zs) z:=by simp [dist,List.foldl_append]
theorem fold_le:∀ (zs σ:List Str),(zs.foldl addS σ).length<=σ.length+zs.length
 | [],σ=>by simp
 | z::zs,σ=>by
  have h:=fold_le zs (addS σ z)
  rw [len_addS] at h
  simp only [List.foldl_cons,List.length_cons]
  split at h<;>omega
theorem dist_le (zs:List Str):(dist zs).length<=zs.length:=by
 have h:=fold_le zs []
 rw [List.length_nil,Nat.zero_add] at h
 exact h
theorem fold_nd:∀ (zs σ:List Str),zs.Nodup->(∀ z∈zs,z ∉ σ)->(zs.foldl addS σ).length=σ.length+zs.length
 | [],σ,_,_=>by simp
 | z::zs,σ,nd,h=>by
  rw [List.nodup_cons] at nd
  simp only [List.foldl_cons,List.length_cons]
  rw [fold_nd zs (addS σ z) nd.2 fun y hy q=>?_,len_addS,if_neg (h z List.mem_cons_self)]
  ·omega
  ·rcases mem_addS.mp q with q | q
   ·exact h y (List.mem_cons_of_mem _ hy) q
   ·exact nd.1 (q ▸ hy)
theorem dist_nd {zs:List Str} (nd:zs.Nodup):(dist zs).length=zs.length:=by
 have h:=fold_nd zs [] nd fun _ _ h=>nomatch h
 rw [List.length_nil,Nat.zero_add] at h
 exact h
theorem strs_at:∀ {its:List Value} {zs:List Str} {i:Nat} {v:Value},StrsAre its zs->its[i]?=some v->∃ z t,zs[i]?=some z/\v=.str z t:=by
 intro its zs i v h
 induction h generalizing i with
 | nil=>intro e;simp at e
 | cons z t _ ih =>
  intro e
  cases i with
  | zero=>simp at e;exact ⟨z,t,rfl,e.symm⟩
  | succ i=>exact ih (by simpa using e)
theorem strs_len:∀ {its:List Value} {zs:List Str},StrsAre its zs->its.length=zs.length:=by
 intro its zs h
 induction h with
 | nil=>rfl
 | cons z t _ ih=>simp [ih]
theorem of_strs:∀ {its:List Value} {zs:List Str},StrsAre its zs->Vals (zs.map V.str) its:=by
 intro its zs h
 induction h with
 | nil=>exact .nil
 | cons z t _ ih=>exact .cons ⟨t,rfl⟩ ih
section
variable {prog:Program} {w:World} {A:Around} {I S:Addr} {fp wr:List Addr} {G:Array GenState->Array GenState->Prop} {P:Nat->Value->Prop} {St:Nat->Shared->Prop} {zs:List Str} {R:Result->Shared->Prop}
abbrev TxtSet (prog:Program) (w:World) (h:Heap) (S:Addr) (zs:List Str):Prop:=h.SetOf (strKind prog w) S (fun k=>decide (k∈dist zs)) (dist zs).length
theorem TxtSet.keep {h h':Heap} (x:TxtSet prog w h S zs) (k:∀ o,h.get? S=some o->h'.get? S=some o):TxtSet prog w h' S zs:=by
 obtain ⟨o,es,ep,t,ho,r⟩:=x
 exact ⟨o,es,ep,t,k o ho,r⟩
theorem TxtSet.more {h:Heap} {z:Str} (x:h.SetOf (strKind prog w) S (fun k=>decide (k∈dist zs) || decide (k=z)) (if decide (z∈dist zs)=true then (dist zs).length else (dist zs).length+1)):TxtSet prog w h S (zs++[z]):=by
 have e1:(fun k=>decide (k∈dist (zs++[z])))=fun k=>decide (k∈dist zs) || decide (k=z):=by
  funext k;rw [dist_snoc,Bool.eq_iff_iff];simp [mem_addS]
 have e2:(dist (zs++[z])).length=if decide (z∈dist zs)=true then (dist zs).length else (dist zs).length+1:=by
  rw [dist_snoc,len_addS];simp
 unfold TxtSet
 rw [e1,e2];exact x
theorem texts_in (W:WalksS prog w A.in1 I fp wr G zs.length P St) (off:S ∉ fp) (hz:∀ i v,P i v->∃ z t,zs[i]?=some z/\v=.str z t) (small:zs.length+1 < scanBound) :
  ∀ (left i:Nat) (s:Shared),i+left=zs.length->St i s->TxtSet prog w s.heap S (zs.take i) ->
   (∀ s',Moved (S::wr) G s s'->TxtSet prog w s'.heap S zs->R (.ok (.ret .none)) s')->codeAny (model prog w) A (.builtin "set.update.loop" ⟨[.ref S,.ref I],[]⟩) R s
 | 0,i,s,hi,st,x,k=>by
  have e:zs.take i=zs:=List.take_of_length_le (by omega)
  rw [show i=zs.length by omega] at st
  refine codeAny_builtin F.entry_set_update_loop ?_
  rw [Around.under_plainId F.plain_set_update_loop _]
  apply wpAny_bind
  refine W.done s _ _ st fun s' m=>?_
  exact wpAny_pure (k s' (m.mono fun b hb=>List.mem_cons_of_mem _ hb) (by rw [e] at x;exact x.keep fun o ho=>m.heap S o (fun hs=>off (W.sub _ hs)) ho))
 | left+1,i,s,hi,st,x,k=>by
  refine codeAny_builtin F.entry_set_update_loop ?_
  rw [Around.under_plainId F.plain_set_update_loop _]
  apply wpAny_bind
  refine W.item i s _ _ (by omega) st fun v s1 p st1 m=>?_
  obtain ⟨z,t,ez,rfl⟩:=hz i v p
  have x1:=x.keep fun o ho=>m.heap S o (fun hs=>off (W.sub _ hs)) ho
  have et:zs.take (i+1)=zs.take i++[z]:=by rw [List.take_add_one,ez];rfl
  have yes:(strKind prog w).is z (.str z t)=true:=by show Value.isStrOf z (.str z t)=true;simp [Value.isStrOf]
  show wpAny _ A.in1 (holding [Value.str z t] (setAdd S (.str z t)) >>= _) _ _ s1
  apply wpAny_bind;apply wpAny_holding
  show wpAny _ A.in1 (holding _ _) _ _ _
  apply wpAny_holding;apply wpAny_bind
  refine (strKind prog w).pyHash yes ?_
  have few:=dist_le (zs.take i)
  rw [List.length_take] at few
  refine wpAny_setAddHashed_of (knd:=strKind prog w) (s:={ s1 with toks:=s1.toks+1 }) yes rfl x1 (by omega) fun h2 sb x2=>?_
  refine wpAny_pure ⟨plainId_quiet F.plain_set_update_loop _,texts_in W off hz small left (i+1) _ (by omega) ?_ (by rw [et];exact TxtSet.more x2) fun s3 m3 x3=>?_⟩
  ·exact W.frame _ s1 _ _ st1 (Nat.le_succ _) fun b hb o e=>(sb.2 b fun z'=>off (z' ▸ hb)).trans e
  ·refine k s3 (Moved.trans W.gtrans ((m.mono fun b hb=>List.mem_cons_of_mem _ hb).then_heap (Nat.le_succ _) fun b o hb e=>?_) m3) x3
   exact (sb.2 b fun z'=>hb (by rw [z'];exact List.mem_cons_self)).trans e
end
section
variable {prog:Program} {w:World} {A:Around} {E:Value->Shared->Prop} {s:Shared}
theorem made_by {T newId initId:String} {args:List Value} {Q:Value->Shared->Prop} (ft:TypeCalled T newId initId) (hc:checkTypeCall T ⟨args,[]⟩=pure ())
  (h:codeAny (model prog w) A.in1 (.call (.builtin newId) ⟨.type T::args,[]⟩) (wants (fun x t=>t.TypeIs x T/\codeAny (model prog w) A.in1 (.call (.builtin initId) ⟨x::args,[]⟩) (wants (fun r t'=>r=.none/\Q x t') E) t) E) s) :
  wpAny (model prog w) A (call (.type T) args) Q E s:=by
 have q1:=ft.made
 have q2:=ft.sub
 have q3:=ft.notType
 have q4:=ft.canCreate
 have q5:=ft.init.lookup
 obtain ⟨_,_,q6⟩:=ft.mro
 apply wpAny_call;apply codeAny_of_tree
 show wpAny _ _ (callAny (.type T) _) _ _ _
 apply wpAny_pure
 refine ⟨Code.quiet_builtin _ (by decide +kernel),codeAny_builtin PySem.F.entry_type_call ?_⟩
 rw [Around.under_plain (weight_type_call_type T args []) rfl]
 repeat (any_goals (first | wp_step | assumption))
 apply codeAny_mono h
 rintro (e | f) t k
 ·exact k
 cases f<;>first | exact k.elim | skip
 rename_i x
 have q7:=ft.init.bind x
 obtain ⟨ty,k⟩:=k
 repeat (any_goals (first | wp_step | assumption))
 apply codeAny_mono k
 rintro (e | f) t' k'
 ·exact k'
 cases f<;>first | exact k'.elim | skip
 obtain ⟨z,k'⟩:=k'
 cases z
 repeat (any_goals (first | wp_step | assumption))
theorem set_texts {l:Addr} {its:List Value} {zs:List Str} {Q:Value->Shared->Prop} (hh:A.handled=none) (hl:s.heap.IsList l its.toArray) (hz:StrsAre its zs) (small:zs.length+1 < scanBound)
  (h:∀ (h':Heap) (tk:Nat),TxtSet prog w h' s.heap.objs.size zs->(∀ b o,s.heap.get? b=some o->h'.get? b=some o)->Q (.ref s.heap.objs.size) { s with heap:=h',toks:=tk }) :
  wpAny (model prog w) A (call (.type "set") [.ref l]) Q E s:=by
 refine made_by PySem.F.called_set (PySem.F.typeCall_set_1 _) (code_set_new_1 (.ref l) fun led=>?_)
 generalize hh1:s.heap.push { cls:=.type "set",dict:=none,data:=.set #[] 0 (.fresh 0 0 led) }=h1
 have kp:∀ b o,s.heap.get? b=some o->h1.get? b=some o:=fun b o e=>by rw [<- hh1];exact Heap.get?_push_of_some _ e
 have sz:h1.objs.size=s.heap.objs.size+1:=by rw [<- hh1];exact Heap.size_push ..
 have new:h1.get? s.heap.objs.size=some { cls:=.type "set",dict:=none,data:=.set #[] 0 (.fresh 0 0 led) }:=by rw [<- hh1];exact Heap.get?_push_size _ rfl
 have ty:({ s with heap:=h1 }:Shared).TypeIs (.ref s.heap.objs.size) "set" := ⟨_,new,rfl⟩
 refine ⟨ty,codeAny_call_builtin PySem.F.called_set.init.plain PySem.F.entry_set_init (check_set_init_1 ty ?_)⟩
 have el:its.length=zs.length:=strs_len hz
 obtain ⟨⟨c,d,dt,sl⟩,ho,rfl,n,rfl⟩:=hl
 have ho1:=kp _ _ ho
 have lt:@LT.lt Nat _ l s.heap.objs.size:=Heap.lt_size ho
 have il:h1.IsList l its.toArray:=⟨_,ho1,rfl,n,rfl⟩
 have n1:=PySem.F.sub_list_set
 have n2:=PySem.F.sub_list_frozenset
 have n3:(Value.type "list" == Value.type "dict")=false:=by decide
 unfold Builtin.«set.__init__» noKeywords Builtin.Frozenset.updateFrom
 generalize pi:pyIter=it
 wp_walk
 subst pi
 apply wpAny_pyIter_list il
 apply wpAny_bind;apply wpAny_runValue
 have W:=(Walks.list (prog:=prog) (w:=w) (A:=A.in1.in1.in1) (by simpa using hh) h1.objs.size l (by rw [sz];exact Nat.ne_of_lt (Nat.lt_succ_of_lt lt)) its.toArray).toS
 have e0:its.toArray.size=zs.length:=by rw [List.size_toArray];exact el
 rw [e0] at W
 refine texts_in (zs:=zs) W ?_ (fun i v p=>?_) small zs.length 0 _ (Nat.zero_add _) ⟨⟨_,Heap.get?_push_size _ rfl,rfl,rfl⟩,il.push _⟩ ?_ fun t m x=>?_
 ·rw [sz]
  intro q
  rcases List.mem_cons.mp q with q | q
  ·exact absurd q (Nat.ne_of_lt (Nat.lt_succ_self _))
  ·exact absurd (List.mem_singleton.mp q) (Nat.ne_of_gt lt)
 ·have p':its[i]?=some v:=by simpa using p
  exact strs_at hz p'
 ·exact (setObjOf_fresh (knd:=strKind prog w) led).setOf (Heap.get?_push_of_some _ new) (by decide)
 ·obtain ⟨h2,g2,d2,t2,o2⟩:=t
  cases (show g2=s.gens from m.gens)
  cases (show d2=s.drawn from m.drawn)
  cases (show o2=s.os from m.os)
  apply wpAny_pure
  refine wpAny_pure ⟨rfl,h h2 t2 x fun b o e=>m.heap b o ?_ (Heap.get?_push_of_some _ (kp b o e))⟩
  have lb:@LT.lt Nat _ b s.heap.objs.size:=Heap.lt_size e
  rw [sz]
  intro q
  rcases List.mem_cons.mp q with q | q
  ·exact absurd q (Nat.ne_of_lt lb)
  ·exact absurd (List.mem_singleton.mp q) (Nat.ne_of_lt (Nat.lt_succ_of_lt lb))
end
def leS (a b:Str):Bool:=decide (a.cps.toList<=b.cps.toList)
theorem leS_iff {a b:Str}:leS a b=true ↔ a.cps.toList<=b.cps.toList:=by simp [leS]
theorem leS_trans {a b c:Str} (h:leS a b=true) (k:leS b c=true):leS a c=true:=leS_iff.mpr (List.le_trans (leS_iff.mp h) (leS_iff.mp k))
theorem leS_anti {a b:Str} (h:leS a b=true) (k:leS b a=true):a=b:=by
 have e:=List.le_antisymm (leS_iff.mp h) (leS_iff.mp k)
 cases a;cases b
 simp only [Str.mk.injEq]
 exact Array.toList_inj.mp e
theorem leS_total (a b:Str):(leS a b || leS b a)=true:=by
 rcases List.le_total a.cps.toList b.cps.toList with h | h
 ·simp [leS_iff.mpr h]
 ·simp [leS_iff.mpr h]
def srt (zs:List Str):List Str:=zs.mergeSort leS
theorem srt_perm (zs:List Str):(srt zs).Perm zs:=List.mergeSort_perm _ _
theorem srt_pw (zs:List Str):(srt zs).Pairwise fun a b=>leS a b=true:=List.pairwise_mergeSort (le:=leS) (fun _ _ _ h k=>leS_trans h k) leS_total zs
theorem rising_pw:∀ (l:List Str) (p:Str),risingS p l=true->(p::l).Pairwise fun a b=>leS a b=true
 | [],p,_=>by simp
 | x::r,p,h=>by
  have h':(!ltCps x.cps.toList p.cps.toList && risingS x r)=true:=h
  rw [Bool.and_eq_true] at h'
  have ih:=rising_pw r x h'.2
  have px:leS p x=true:=by
   have:=h'.1
   rw [ltCps_eq] at this
   refine leS_iff.mpr ?_
   intro q
   rw [decide_eq_true q] at this
   cases this
  refine List.pairwise_cons.mpr ⟨fun y hy=>?_,ih⟩
  rcases List.mem_cons.mp hy with rfl | hy
  ·exact px
  ·exact leS_trans px ((List.pairwise_cons.mp ih).1 y hy)
theorem sorted_pw:∀ (l:List Str),sortedS l=true->l.Pairwise fun a b=>leS a b=true
 | [],_=>.nil
 | x::r,h=>rising_pw r x h
theorem pw_uniq:∀ {l m:List Str},l.Perm m->(l.Pairwise fun a b=>leS a b=true)->(m.Pairwise fun a b=>leS a b=true)->l=m
 | [],m,p,_,_=>(List.nil_perm.mp p).symm
 | x::l,[],p,_,_=>absurd p (by simp)
 | x::l,y::m,p,a,b=>by
  have a':=List.pairwise_cons.mp a
  have b':=List.pairwise_cons.mp b
  have e:x=y:=by
   rcases List.mem_cons.mp (p.mem_iff.mp List.mem_cons_self) with q | q
   ·exact q
   rcases List.mem_cons.mp (p.mem_iff.mpr List.mem_cons_self) with q' | q'
   ·exact q'.symm
   ·exact leS_anti (a'.1 y q') (b'.1 x q)
  subst e
  rw [pw_uniq ((List.perm_cons _).mp p) a'.2 b'.2]
theorem srt_of {zs ss:List Str} (p:ss.Perm zs) (h:ss.Pairwise fun a b=>leS a b=true):ss=srt zs:=pw_uniq (p.trans (srt_perm zs).symm) h (srt_pw zs)
theorem srt_len (zs:List Str):(srt zs).length=zs.length:=(srt_perm zs).length_eq
section
variable {X:Cx}
theorem call_sorted_txt:CallR X (.builtin "sorted") (fun xs H Q=>∃ (p:Addr) (zs:List Str),xs=[.ref p]/\SqL X.K H p (zs.map V.str)/\zs.length < 64/\∀ l,H l=none->Q (.ref l) (upd H l (.lst ((srt zs).map V.str)))):=by
 intro pins s σ H xs us Q I r h
 obtain ⟨p,zs,rfl,hq,few,q⟩:=h
 obtain ⟨u,rfl,rx⟩:=vals1 r
 cases rx
 obtain ⟨its,rv,pl,hz⟩:=I.list hq
 have el:=strs_len (strs_of rv)
 refine sorted_strs pl.isList (strs_of rv) (by omega) fun out ss a1 a2 a3=>?_
 have e:=srt_of a2 (sorted_pw ss a3)
 subst e
 obtain ⟨n,hn⟩:=sortedAll_at s.heap its out
 have lb:((srt zs).map V.str).length<=sizeLine:=by
  rw [List.length_map,srt_len]
  exact Nat.le_trans (Nat.le_of_lt few) (by decide)
 refine ⟨.ref (s.heap.objs.size+1),_,I.laid (t':=s.toks) (o:=.lst ((srt zs).map V.str)) (fun b o e=>sortedAll_old e) (Nat.le_succ _) ?_,rfl,q _ (I.hok.fresh (Nat.le_succ _))⟩
 exact ⟨lb,out.toList,n,of_strs a1,by rw [hn]⟩
end
def Al (K:PySem.W.Frag) (H:Hp):Nat->V->V->Prop
 | 0,x,y=>flatV x=true/\x=y
 | n+1,x,y=>(flatV x=true/\x=y)\/∃ p q xs ys,x=.ref p/\y=.ref q/\((SqL K H p xs/\SqL K H q ys)\/(SqT K H p xs/\SqT K H q ys))/\xs.length=ys.length/\∀ (i:Nat) a b,xs[i]?=some a->ys[i]?=some b->Al K H n a b
def AlS (K:PySem.W.Frag) (H:Hp) (n:Nat) (x y:V):Prop :=
 ∃ p q xs ys,x=.ref p/\y=.ref q/\((SqL K H p xs/\SqL K H q ys)\/(SqT K H p xs/\SqT K H q ys))/\xs.length=ys.length/\∀ (i:Nat) a b,xs[i]?=some a->ys[i]?=some b->Al K H n a b
theorem AlS.al {K:PySem.W.Frag} {H:Hp} {n:Nat} {x y:V} (h:AlS K H n x y):Al K H (n+1) x y:=.inr h
theorem Al.txt {K:PySem.W.Frag} {H:Hp} {n:Nat} {z:Str}:Al K H n (.str z) (.str z):=by
 cases n
 ·exact ⟨rfl,rfl⟩
 ·exact .inl ⟨rfl,rfl⟩
theorem eqV_self {x:V} (h:flatV x=true):eqV x x=true:=by
 cases x<;>first | (exact absurd h Bool.false_ne_true) | simp [eqV]
theorem all_range (n:Nat):(List.range n).all (fun _=>true)=true:=by simp
section
variable {X:Cx} {pins:List (Addr × Obj)} {σ:St} {H:Hp} {s:Shared}
theorem al_at (I:Inv X pins σ H s):∀ (n:Nat) (x y:V) (u v:Value) (A:Around),Al X.K H n x y->RelV x u->RelV y v->A.units+n < cLine->SeqAt.EqAt A s u v true:=by
 intro n
 induction n with
 | zero =>
  rintro x y u v A ⟨f,rfl⟩ ru rv _
  have h:=eqAt_V (A:=A) (s:=s) ru rv f f
  rw [eqV_self f] at h
  exact h
 | succ n ih =>
  rintro x y u v A h ru rv hu
  rcases h with ⟨f,rfl⟩ | ⟨p,q,xs,ys,rfl,rfl,h,el,k⟩
  ·have h:=eqAt_V (A:=A) (s:=s) ru rv f f
   rw [eqV_self f] at h
   exact h
  ·cases ru
   cases rv
   by_cases hpq:p=q
   ·subst hpq;exact SeqAt.EqAt.same _
   refine SeqAt.EqAt.of_refs hpq ?_
   have low:A.in1.units+n < cLine:=by rw [units_in1];omega
   have item:∀ {is js:List Value},Vals xs is->Vals ys js->∀ j (h1:j < is.toArray.size) (h2:j < js.toArray.size),SeqAt.EqAt A.in1 s is.toArray[j] js.toArray[j] true:=fun {is js} ri rj j h1 h2=>by
    have b1:j < xs.length:=by rw [ri.length];simpa using h1
    have b2:j < ys.length:=by rw [rj.length];simpa using h2
    obtain ⟨u',e1,r1⟩:=ri.get (List.getElem?_eq_getElem b1)
    obtain ⟨v',e2,r2⟩:=rj.get (List.getElem?_eq_getElem b2)
    have c1:is.toArray[j]=u':=by
     rw [List.getElem_toArray]
     have:=List.getElem?_eq_getElem (l:=is) (i:=j) (by simpa using h1)
     rw [this] at e1;exact Option.some.inj e1
    have c2:js.toArray[j]=v':=by
     rw [List.getElem_toArray]
     have:=List.getElem?_eq_getElem (l:=js) (i:=j) (by simpa using h2)
     rw [this] at e2;exact Option.some.inj e2
    rw [c1,c2]
    exact ih _ _ _ _ _ (k j _ _ (List.getElem?_eq_getElem b1) (List.getElem?_eq_getElem b2)) r1 r2 low
   rcases h with ⟨hp,hq⟩ | ⟨hp,hq⟩
   ·obtain ⟨is,ri,pi,_⟩:=I.list hp
    obtain ⟨js,rj,pj,_⟩:=I.list hq
    have z:=SeqAt.RcAt.lists (A:=A) (e:=fun _=>true) pi.isList pj.isList (by simp only [List.size_toArray];rw [<- ri.length,<- rj.length];exact el) (by omega) (item ri rj)
    rw [all_range] at z
    exact z
   ·obtain ⟨is,ri,pi,_⟩:=I.tuple hp
    obtain ⟨js,rj,pj,_⟩:=I.tuple hq
    have z:=SeqAt.RcAt.tuples (A:=A) (e:=fun _=>true) pi pj (by omega) (item ri rj)
    have e:(is.toArray.size == js.toArray.size)=true:=by simp only [List.size_toArray,beq_iff_eq];rw [<- ri.length,<- rj.length];exact el
    rw [all_range,e] at z
    exact z
theorem als_items (I:Inv X pins σ H s) {n:Nat} {xs ys:List V} {A:Around} (low:A.in1.units+n < cLine) (k:∀ (i:Nat) a b,xs[i]?=some a->ys[i]?=some b->Al X.K H n a b) {is js:List Value} (ri:Vals xs is) (rj:Vals ys js) :
  ∀ j (h1:j < is.toArray.size) (h2:j < js.toArray.size),SeqAt.EqAt A.in1 s is.toArray[j] js.toArray[j] true:=fun j h1 h2=>by
 have b1:j < xs.length:=by rw [ri.length];simpa using h1
 have b2:j < ys.length:=by rw [rj.length];simpa using h2
 obtain ⟨u',e1,r1⟩:=ri.get (List.getElem?_eq_getElem b1)
 obtain ⟨v',e2,r2⟩:=rj.get (List.getElem?_eq_getElem b2)
 have c1:is.toArray[j]=u':=by
  rw [List.getElem_toArray]
  have:=List.getElem?_eq_getElem (l:=is) (i:=j) (by simpa using h1)
  rw [this] at e1;exact Option.some.inj e1
 have c2:js.toArray[j]=v':=by
  rw [List.getElem_toArray]
  have:=List.getElem?_eq_getElem (l:=js) (i:=j) (by simpa using h2)
  rw [this] at e2;exact Option.some.inj e2
 rw [c1,c2]
 exact al_at I n _ _ _ _ _ (k j _ _ (List.getElem?_eq_getElem b1) (List.getElem?_eq_getElem b2)) r1 r2 low
end
section
variable {X:Cx}
theorem op_eq_al (n:Nat) (hu:X.A.units+n+1 < cLine):OpR X (compareOp .Eq) (fun x y H Q=>AlS X.K H n x y/\Q (.bl true) H):=by
 intro pins s σ H x y v u Q I rx ry h
 obtain ⟨⟨p,q,xs,ys,rfl,rfl,h,el,k⟩,fin⟩:=h
 cases rx
 cases ry
 have low:X.A.in1.units+n < cLine:=by rw [units_in1];omega
 rcases h with ⟨hp,hq⟩ | ⟨hp,hq⟩
 ·obtain ⟨is,ri,pi,_⟩:=I.list hp
  obtain ⟨js,rj,pj,_⟩:=I.list hq
  refine SeqAt.eq_listAt (e:=fun _=>true) pi.isList pj.isList (by simp only [List.size_toArray];rw [<- ri.length,<- rj.length];exact el) (by omega) (als_items I low k ri rj) ?_
  exact fin_bl I fin (all_range _).symm
 ·obtain ⟨is,ri,pi,_⟩:=I.tuple hp
  obtain ⟨js,rj,pj,_⟩:=I.tuple hq
  refine SeqAt.eq_tupleAt (e:=fun _=>true) pi pj (by omega) (als_items I low k ri rj) ?_
  have e:(is.toArray.size == js.toArray.size)=true:=by simp only [List.size_toArray,beq_iff_eq];rw [<- ri.length,<- rj.length];exact el
  refine fin_bl I fin ?_
  rw [all_range,e];rfl
theorem op_ne_al (n:Nat) (hu:X.A.units+n+1 < cLine):OpR X (compareOp .NotEq) (fun x y H Q=>AlS X.K H n x y/\Q (.bl false) H):=by
 intro pins s σ H x y v u Q I rx ry h
 obtain ⟨⟨p,q,xs,ys,rfl,rfl,h,el,k⟩,fin⟩:=h
 cases rx
 cases ry
 have low:X.A.in1.units+n < cLine:=by rw [units_in1];omega
 rcases h with ⟨hp,hq⟩ | ⟨hp,hq⟩
 ·obtain ⟨is,ri,pi,_⟩:=I.list hp
  obtain ⟨js,rj,pj,_⟩:=I.list hq
  refine PySem.EqBoolInt.of_rcne (SeqAt.RcNeAt.lists (e:=fun _=>true) pi.isList pj.isList (by simp only [List.size_toArray];rw [<- ri.length,<- rj.length];exact el) (by omega) (als_items I low k ri rj)) ?_
  refine fin_bl I fin ?_
  rw [all_range];rfl
 ·obtain ⟨is,ri,pi,_⟩:=I.tuple hp
  obtain ⟨js,rj,pj,_⟩:=I.tuple hq
  refine PySem.EqBoolInt.of_rcne (SeqAt.RcNeAt.tuples (e:=fun _=>true) pi pj (by omega) (als_items I low k ri rj)) ?_
  have e:(is.toArray.size == js.toArray.size)=true:=by simp only [List.size_toArray,beq_iff_eq];rw [<- ri.length,<- rj.length];exact el
  refine fin_bl I fin ?_
  rw [all_range,e];rfl
def tLenSet (K:PySem.W.Frag) (te:TE):TE:=fun σ H Q=>te σ H fun x H1=>∃ (p:Addr) (zs:List Str),x=.ref p/\SqL K H1 p (zs.map V.str)/\zs.length+1 < scanBound/\Q (.int (dist zs).length) H1
theorem pe_lenset {e:Expr} {te:TE} {xl xs:Str} {p1 p2 pos1 pos2:Pos} (hc:X.calm=true) (he:PE X e te) (gl:Gl X xl) (ml:X.mg xl=none) (vl:bootBuiltins xl=some (.builtin "len")) (gs:Gl X xs) (ms:X.mg xs=none) (vs:bootBuiltins xs=some (.type "set"))
  (hn1:xl≠"__name__" := by decide) (hd1:(xl == ("__debug__" : Str))=false:=by decide) (hn2:xs≠"__name__" := by decide) (hd2:(xs == ("__debug__" : Str))=false:=by decide)
  (hs:starEach [e] X.env=[(false,eval e X.env)]:=by rfl):PE X (.Call (.Name xl p1) [.Call (.Name xs p2) [e] [] pos2] [] pos1) (tLenSet X.K te):=by
 intro pins s σ H Q I h
 refine wpAny_Call_Name_kw (ld_blt I gl ml vl ?_ hn1 hd1)
 refine PyProof.Rows.callWith_builtin1 ?_ rfl rfl
 show wpAny _ _ (spliced [(false,eval (.Call (.Name xs p2) [e] [] pos2) X.env)]) _ _ s
 refine Calls.spliced_cons ?_
 refine wpAny_Call_Name_kw (ld_blt I gs ms vs ?_ hn2 hd2)
 refine PyProof.Rows.callWith_type1 (thn (pa_cons he pa_nil hs pos2 pins s σ H (fun vs H1=>∃ x,vs=[x]/\∃ (p:Addr) (zs:List Str),x=.ref p/\SqL X.K H1 p (zs.map V.str)/\zs.length+1 < scanBound/\Q (.int (dist zs).length) H1) I ?_) fun us s1 h1=>?_) hs rfl
 ·have mono:=h
  refine ?_
  show te σ H _
  exact (show te σ H (fun x H1=>∃ x',[x]=[x']/\∃ (p:Addr) (zs:List Str),x'=.ref p/\SqL X.K H1 p (zs.map V.str)/\zs.length+1 < scanBound/\Q (.int (dist zs).length) H1) from by
   have e:(fun (x:V) (H1:Hp)=>∃ x',[x]=[x']/\∃ (p:Addr) (zs:List Str),x'=.ref p/\SqL X.K H1 p (zs.map V.str)/\zs.length+1 < scanBound/\Q (.int (dist zs).length) H1)=fun x H1=>∃ (p:Addr) (zs:List Str),x=.ref p/\SqL X.K H1 p (zs.map V.str)/\zs.length+1 < scanBound/\Q (.int (dist zs).length) H1:=by
    funext x H1
    refine propext ⟨fun ⟨x',e,r⟩=>?_,fun r=>⟨x,rfl,r⟩⟩
    cases e
    exact r
   rw [e]
   exact h)
 ·obtain ⟨vs',H1,I1,r1,x,rfl,p,zs,rfl,hq,small,q⟩:=h1
  obtain ⟨u,rfl,ru⟩:=vals1 r1
  cases ru
  obtain ⟨its,rv,pl,_⟩:=I1.list hq
  refine set_texts (I1.ok.hd hc) pl.isList (strs_of rv) small fun h' tk T kp=>?_
  refine Calls.spliced_nil ?_
  obtain ⟨o,es,ep,t,ho,hex,hd,_,_,hb,hf,hN⟩:=T
  have I2:Inv X pins σ H1 { s1 with heap:=h',toks:=tk }:=I1.kept (t':=tk) kp
  have fit:(es.size:Int) < 2 ^ 63:=by
   have:es.size < scanBound:=hb
   have z:scanBound<=4096:=by decide
   have:(es.size:Int) < 4096:=by omega
   exact Int.lt_of_lt_of_le this (by decide)
  rw [<- hN] at q
  exact call_len_set ho hex hd hf fit ⟨.int es.size,H1,I2.tok _,⟨_,rfl⟩,q⟩
theorem call_divmod':CallR X (.builtin "divmod") (fun xs H Q=>∃ i j,xs=[.int i,.int j]/\0 < j/\j < 2 ^ 64/\∀ p,H p=none->Q (.ref p) (upd H p (.tup [.int (i / j),.int (i % j)]))):=by
 intro pins s σ H xs us Q I r h
 obtain ⟨i,j,rfl,h1,h2,q⟩:=h
 obtain ⟨u,w',rfl,⟨t,rfl⟩,⟨t',rfl⟩⟩:=vals2 r
 have small:j.natAbs.log2 < 9000:=by
  have a:j.natAbs < 2 ^ 64:=by omega
  have b:j.natAbs≠0:=by omega
  have c:=(Nat.log2_lt b).mpr a
  omega
 refine divmod_int (by omega) ?_ (.inl (PyProof.noPylong_of_log2 small))
 rw [Int.fdiv_eq_ediv_of_nonneg i (by omega),Int.fmod_eq_emod_of_nonneg i (by omega)]
 refine ⟨.ref s.heap.objs.size,_,I.laid (o:=.tup [.int (i / j),.int (i % j)]) (fun b o e=>Heap.get?_push_of_some _ e) (Nat.le_refl _) ⟨?_,[.int (i / j) s.toks,.int (i % j) (s.toks+1)],.cons ⟨_,rfl⟩ (.cons ⟨_,rfl⟩ .nil),⟨_,Heap.get?_push_size s.heap rfl,rfl,0,rfl⟩⟩,rfl,q _ I.fresh⟩
 show 2<=sizeLine
 decide
end
theorem Fun.okO {P:Program} {w:World} {K:PySem.W.Frag} {mg:Str->Option Value} {base:Heap} {x qual:Str} {st:Stmt} {f:Addr} {fd:FuncData} {N ps:List Str} {k:Nat} {sp:Sp} (F:Fun K x qual st f fd) (S:FnScope N ps (defScope st)) (len:∀ vs H Q E,sp vs H Q E->vs.length=ps.length)
  (hbody:∀ (cdv:Value) (A:Around) (outer:List Env) (s:Shared) (H:Hp) (vs:List V) (Q:VK) (E:XK),Room k (A.deeper (envOfC qual (defScope st) s.heap.objs.size f cdv))->sp vs H Q E ->
   ∃ t,PSs (cxOf (CXO P w) P w K mg base N qual (defScope st) f cdv A outer s H E) (defBody st) t/\t { nx:=fun _ H'=>Q .non H',rt:=Q } (start N vs) H):FnOk P w K mg base (CXO P w) (k+1) f fd ps sp:=by
 obtain ⟨oc,od,kV,doc,pm,an,cdv,ct,osl,rfl,lk,hcd⟩:=F.ex
 exact fn_of lk hcd S len (hbody cdv)
end L2
namespace K91
open PySem PySem.Spec PyProof.Rows L2
def top (i:Nat):Stmt:=PySem.Challenge.pw_cutmeet_k91_writings.main.body.getD i (.Pass ⟨0,0,0,0⟩)
abbrev sName:Stmt:=top 10
abbrev sChkP:Stmt:=top 14
abbrev sAmong:Stmt:=top 15
abbrev sTie:Stmt:=top 16
abbrev sChkT:Stmt:=top 17
abbrev sInit:Stmt:=inClass (top 18) 0
abbrev sPlaces:Stmt:=inClass (top 18) 1
abbrev sTies:Stmt:=inClass (top 18) 4
abbrev sRow:Stmt:=top 32
abbrev sDraw:Stmt:=top 33
abbrev sLName:Stmt:=top 34
abbrev sWeb:Stmt:=top 35
abbrev sLaw:Stmt:=top 43
structure Df (K:PySem.W.Frag) (mg:Str->Option Value) (x:Str) (st:Stmt) (ps:List Str) (f:Addr) (fd:FuncData):Prop where
 fn:Fun K x x st f fd
 mgf:mg x=some (.ref f)
 b:Binds K fd ps []
def But (p:Addr) (H H':Hp):Prop:=∀ b o,H b=some o->b≠p->H' b=some o
def Row (H:Hp) (p:Addr):Prop:=∃ a b:Int,H p=some (.lst [.int a,.int b])
def spDraw:Sp:=fun vs H Q _=>∃ (p:Addr) (m:Int),vs=[.ref p,.int m]/\Row H p/\0 < m/\m < 2 ^ 64/\∀ (d:Int) (H':Hp),0<=d->d < m->Row H' p->But p H H'->Q (.int d) H'
structure Glb (mg:Str->Option Value):Prop where
 divmod:mg "divmod" = none
 len:mg "len" = none
 all:mg "all" = none
 isinst:mg "isinstance" = none
 str:mg "str" = none
 range:mg "range" = none
 max:mg "max" = none
 min:mg "min" = none
 bool:mg "bool" = none
 list:mg "list" = none
 int:mg "int" = none
 tuple:mg "tuple" = none
 set:mg "set" = none
 sorted:mg "sorted" = none
 longest:∃ t,mg "LONGEST" = some (.int 8 t)
 places:∃ t,mg "MOST_PLACES" = some (.int 12 t)
 ties:∃ t,mg "MOST_TIES" = some (.int 30 t)
section
variable {P:Program} {w:World} {K:PySem.W.Frag} {mg:Str->Option Value} {base:Heap}
theorem scD:FnScope ["_law_row","_law_many","_law_digit"] ["_law_row","_law_many"] (defScope sDraw):=⟨rfl,rfl,rfl,by decide +kernel,rfl,by decide +kernel,by decide +kernel⟩
theorem ok_draw {f:Addr} {fd:FuncData} (F:Fun K "_law_draw" "_law_draw" sDraw f fd) (T:Glb mg):FnOk P w K mg base CX0 1 f fd ["_law_row","_law_many"] spDraw:=by
 refine F.ok scD (fun vs H Q E h=>?_) (fun cdv A outer s H vs Q E hr h=>?_)
 ·obtain ⟨p,m,rfl,_⟩:=h
  rfl
 ·obtain ⟨p,m,rfl,⟨a,b,hp⟩,m0,m1,k⟩:=h
  refine ⟨_,pss_cons (ps_if (pt_cmpR op_gt (pe_ix ix_list (pv 0) pe_int (fun _ _=>rfl)) pe_int (nomark _))
   (pss_cons (ps_asg (pe_callB call_divmod' (by rfl) T.divmod PyProof.Rows.boot_divmod (pa_cons (pe_ix ix_list (pv 0) pe_int (fun _ _=>rfl)) (pa_cons (pv 1) pa_nil)))
    (pg_tup rfl (pgs_cons (pg_sub (pv 0) pe_int set_list) (pgs_cons (pg_name (i:=2) scD.nd rfl (Or.inl rfl)) pgs_nil)))) (pss_one (ps_ret (pv 2)))) pss_nil)
   (pss_cons (ps_if (pt_cmpR op_lt (pe_ix ix_list (pv 0) pe_int (fun _ _=>rfl)) pe_int (nomark _)) (pss_one (ps_ret pe_int)) pss_nil)
   (pss_cons (ps_asg (pe_op op_mod (pe_op op_add (pe_op op_mul (pe_ix ix_list (pv 0) pe_int (fun _ _=>rfl)) pe_int) pe_int) pe_int) (pg_sub (pv 0) pe_int set_list))
   (pss_one (ps_ret (pe_op op_mod (pe_op op_fdiv (pe_ix ix_list (pv 0) pe_int (fun _ _=>rfl)) pe_int) (pv 1)))))),?_⟩
  refine ⟨_,rfl,p,_,_,_,rfl,rfl,SqL.of hp,atI_nat (j:=0) rfl,?_⟩
  refine ⟨_,_,rfl,rfl,_,rfl,?_⟩
  refine ite2 (fun ha=>?_) (fun ha=>?_)
  ·refine ⟨_,rfl,p,_,_,_,rfl,rfl,SqL.of hp,atI_nat (j:=0) rfl,_,rfl,a,m,rfl,m0,m1,fun t ht=>?_⟩
   have npt:p≠t:=ne_of_none hp ht
   refine ⟨t,_,rfl,SqT.of upd_same,rfl,_,_,rfl,_,rfl,p,_,_,0,rfl,rfl,(by rw [upd_ne npt];exact hp),rfl,?_⟩
   refine ⟨_,_,rfl,rfl,_,rfl,?_⟩
   refine k _ _ (Int.emod_nonneg _ (by omega)) (Int.emod_lt_of_pos _ m0) ⟨_,_,upd_same⟩ fun c o e hc=>?_
   rw [upd_ne hc,upd_ne (ne_of_none e ht)]
   exact e
  ·refine ⟨_,rfl,p,_,_,_,rfl,rfl,SqL.of hp,atI_nat (j:=1) rfl,?_⟩
   refine ⟨_,_,rfl,rfl,_,rfl,?_⟩
   refine ite2 (fun hb=>?_) (fun hb=>?_)
   ·exact k 0 H (Int.le_refl _) m0 ⟨_,_,hp⟩ fun c o e _=>e
   ·refine ⟨_,rfl,p,_,_,_,rfl,rfl,SqL.of hp,atI_nat (j:=1) rfl,_,_,rfl,rfl,.inr ⟨by decide,by decide⟩,_,_,rfl,rfl,_,_,rfl,rfl,(by show (0:Int) < 2147483647;decide),?_⟩
    refine ⟨_,rfl,p,_,_,1,rfl,rfl,hp,rfl,?_⟩
    refine ⟨_,rfl,p,_,_,_,rfl,rfl,SqL.of upd_same,atI_nat (j:=1) rfl,_,_,rfl,rfl,⟨by decide,by decide⟩,_,rfl,_,_,rfl,rfl,m0,?_⟩
    refine k _ _ (Int.emod_nonneg _ (by omega)) (Int.emod_lt_of_pos _ m0) ⟨_,_,upd_same⟩ fun c o e hc=>?_
    rw [upd_ne hc]
    exact e
def spRow:Sp:=fun vs H Q _=>∃ (a:Addr) (ns:List Int) (k:Nat),vs=[.ref a,.int k]/\SqL K H a (ns.map V.int)/\ns.length<=63/\∀ (p:Addr) (H':Hp),H p=none->Row H' p->Same H H'->Q (.ref p) H'
theorem scR:FnScope ["_law_script","_law_k","_law_cell","_law_mixed"] ["_law_script","_law_k"] (defScope sRow):=⟨rfl,rfl,rfl,by decide +kernel,rfl,by decide +kernel,by decide +kernel⟩
theorem row_end {H:Hp} {Q:VK} (k:∀ (p:Addr) (H':Hp),H p=none->Row H' p->Same H H'->Q (.ref p) H') (a b:Int) (p:Addr) (hp:H p=none):Q (.ref p) (upd H p (.lst [.int a,.int b])) :=
 k p _ hp ⟨a,b,upd_same⟩ fun c o e=>by rw [upd_ne (ne_of_none e hp)];exact e
theorem ok_row {f:Addr} {fd:FuncData} (F:Fun K "_law_row_at" "_law_row_at" sRow f fd) (T:Glb mg):FnOk P w K mg base CX0 1 f fd ["_law_script","_law_k"] (spRow (K:=K)):=by
 refine F.ok scR (fun vs H Q E h=>?_) (fun cdv A outer s H vs Q E hr h=>?_)
 ·obtain ⟨a,ns,k,rfl,_⟩:=h
  rfl
 ·obtain ⟨a,ns,n,rfl,hS,hl,k⟩:=h
  refine ⟨_,pss_cons (ps_set (i:=2) scR.nd rfl (Or.inl rfl) pe_int)
   (pss_cons (ps_if (pt_cmpR op_lt (pv 1) (pe_callB call_len_seq (by rfl) T.len PySem.boot_len (pa_cons (pv 0) pa_nil)) (nomark _)) (pss_one (ps_set (i:=2) scR.nd rfl (Or.inl rfl) (pe_ix ix_list (pv 0) (pv 1) (fun _ _=>rfl)))) pss_nil)
   (pss_cons (ps_set (i:=3) scR.nd rfl (Or.inl rfl) (pe_op op_mod (pe_op op_add (pe_op op_mul (pv 2) pe_int) (pe_op op_mul pe_int (pe_op op_add (pv 1) pe_int))) pe_int))
   (pss_cons (ps_if (pt_cmpR op_lt (pv 2) (pe_op op_pow pe_int pe_int) (nomark _)) (pss_one (ps_ret (pe_lst (pa_cons pe_int (pa_cons (pv 3) pa_nil))))) pss_nil)
   (pss_cons (ps_if (pt_cmpR op_eq (pe_op op_mod (pv 2) pe_int) pe_int (nomark _)) (pss_one (ps_set (i:=3) scR.nd rfl (Or.inl rfl) (pe_un un_neg pe_int))) pss_nil)
   (pss_one (ps_ret (pe_lst (pa_cons (pe_op op_fdiv (pe_op op_sub (pv 2) (pe_op op_pow pe_int pe_int)) pe_int) (pa_cons (pv 3) pa_nil))))))))),?_⟩
  refine ⟨_,rfl,_,rfl,a,_,rfl,.inl hS,_,_,rfl,rfl,_,rfl,?_⟩
  refine ite2 (fun hlt=>?_) (fun hlt=>?_)
  ·have hlt':n < ns.length:=by simpa using hlt
   refine ⟨_,rfl,_,rfl,a,_,_,_,rfl,rfl,hS,atI_nat (j:=n) (v:=.int ns[n]) (by simp [hlt']),?_⟩
   refine ⟨_,rfl,_,_,rfl,rfl,.inr ⟨by decide,by decide⟩,_,rfl,_,_,rfl,rfl,_,_,rfl,rfl,.inl ⟨by decide,by decide⟩,_,_,rfl,rfl,_,_,rfl,rfl,(by show (0:Int) < 2147483647;decide),?_⟩
   refine ⟨_,rfl,_,_,rfl,rfl,⟨by decide,by decide,by decide⟩,_,_,rfl,rfl,_,rfl,?_⟩
   refine ite2 (fun _=>?_) (fun _=>?_)
   ·exact ⟨_,rfl,(by show 2<=sizeLine;decide),row_end k _ _⟩
   ·refine ⟨_,rfl,_,_,rfl,rfl,(by show (0:Int) < 2;decide),rfl,_,rfl,?_⟩
    refine ite2 (fun _=>?_) (fun _=>?_)
    ·refine ⟨_,rfl,_,rfl,_,_,rfl,rfl,⟨by decide,by decide,by decide⟩,_,_,rfl,rfl,_,_,rfl,rfl,⟨by decide,by decide⟩,_,rfl,(by show 2<=sizeLine;decide),row_end k _ _⟩
    ·refine ⟨_,rfl,_,_,rfl,rfl,⟨by decide,by decide,by decide⟩,_,_,rfl,rfl,_,_,rfl,rfl,⟨by decide,by decide⟩,_,rfl,(by show 2<=sizeLine;decide),row_end k _ _⟩
  ·refine ⟨_,rfl,_,_,rfl,rfl,.inr ⟨by decide,by decide⟩,_,rfl,_,_,rfl,rfl,_,_,rfl,rfl,.inl ⟨by decide,by decide⟩,_,_,rfl,rfl,_,_,rfl,rfl,(by show (0:Int) < 2147483647;decide),?_⟩
   refine ⟨_,rfl,_,_,rfl,rfl,⟨by decide,by decide,by decide⟩,_,_,rfl,rfl,_,rfl,?_⟩
   refine ite2 (fun _=>?_) (fun _=>?_)
   ·exact ⟨_,rfl,(by show 2<=sizeLine;decide),row_end k _ _⟩
   ·refine ⟨_,rfl,_,_,rfl,rfl,(by show (0:Int) < 2;decide),rfl,_,rfl,?_⟩
    refine ite2 (fun _=>?_) (fun _=>?_)
    ·refine ⟨_,rfl,_,rfl,_,_,rfl,rfl,⟨by decide,by decide,by decide⟩,_,_,rfl,rfl,_,_,rfl,rfl,⟨by decide,by decide⟩,_,rfl,(by show 2<=sizeLine;decide),row_end k _ _⟩
    ·refine ⟨_,rfl,_,_,rfl,rfl,⟨by decide,by decide,by decide⟩,_,_,rfl,rfl,_,_,rfl,rfl,⟨by decide,by decide⟩,_,rfl,(by show 2<=sizeLine;decide),row_end k _ _⟩
def lo (c:Nat):Bool:=!decide ((⟨#[c]⟩:Str).cps.toList < ("a" : Str).cps.toList)
def hi (c:Nat):Bool:=!decide (("z" : Str).cps.toList < (⟨#[c]⟩:Str).cps.toList)
def nm (z:Str):Bool:=(decide (1<=z.length) && decide (z.length<=8)) && (z.cps.toList.map fun c=>lo c && hi c).all id
theorem signs_loop {K:PySem.W.Frag} {z:Str} {H:Hp} {Q:VK} {te:TE} {σ:L2.St} {x:Str} (hz:z.cps.size<=sizeLine) (f:Nat->Bool)
  (he:∀ (c:Nat) (H:Hp) (Q:VK),Q (.bl (f c)) H->te [some (V.str ⟨#[c]⟩)] H Q) (k:∀ D,H D=none->Q (.ref D) (upd H D (.lst ((z.cps.toList.map f).map V.bl)))) :
  lcLoop [x] [] (gName 0) tYes te σ Q (Its z) H:=by
 refine ⟨fun i m ys H2=>H2=H/\i<=z.cps.size/\m=z.cps.size - i/\ys=((z.cps.toList.take i).map f).map V.bl,⟨z.cps.size,rfl,Nat.zero_le _,rfl,rfl⟩,?_⟩
 rintro i m ys H2 ⟨rfl,hi,rfl,rfl⟩
 refine ⟨by simp;omega,?_⟩
 by_cases h:i < z.cps.size
 ·refine .inr ⟨h,fun x H3 hy=>?_⟩
  obtain ⟨rfl,c,hc,rfl⟩:=hy
  simp only [tYes,gName,if_true]
  refine he c _ _ ⟨z.cps.size - (i+1),by omega,rfl,h,rfl,?_⟩
  have e:(z.cps.toList.take (i+1))=z.cps.toList.take i++[c]:=by
   rw [List.take_add_one]
   have:z.cps.toList[i]?=some c:=by simpa using hc
   rw [this];rfl
  rw [e];simp
 ·have e:i=z.cps.size:=by omega
  subst e
  refine .inl ⟨rfl,fun D hD=>?_⟩
  have q:=k D hD
  rw [List.take_of_length_le (by simp)]
  exact q
def spName:Sp:=fun vs H Q _=>(∃ z:Str,vs=[.str z]/\z.length<=20000/\∀ H',Same H H'->Q (.bl (nm z)) H')\/∃ x t,vs=[x]/\TyOf K H x t/\PySem.W.kitOne K t (.type "str")=some false/\Q (.bl false) H
theorem scN:FnScope ["thing"] ["thing"] (defScope sName):=⟨rfl,rfl,rfl,by decide +kernel,rfl,by decide +kernel,by decide +kernel⟩
theorem ok_name {f:Addr} {fd:FuncData} (F:Fun K "is_name" "is_name" sName f fd) (T:Glb mg):FnOk P w K mg base CX0 1 f fd ["thing"] (spName (K:=K)):=by
 refine F.ok scN (fun vs H Q E h=>?_) (fun cdv A outer s H vs Q E hr h=>?_)
 ·rcases h with ⟨z,rfl,_⟩ | ⟨x,t,rfl,_⟩<;>rfl
 ·obtain ⟨t8,h8⟩:=T.longest
  refine ⟨_,pss_cons (ps_if (PW.pt (pw_or (pt_not (pt_val (pe_callB (call_isinst (T:="str")) (by rfl) T.isinst boot_isinstance (pa_cons (pv 0) (pa_cons (pe_bltn (v:=.ty "str") rfl T.str PyProof.Rows.boot_str rfl) pa_nil))) (fun _=>rfl)))
    (pw_or1 (pt_not (pt_chain op_le op_le pe_int (pe_callB call_len_str (by rfl) T.len PySem.boot_len (pa_cons (pv 0) pa_nil)) (pe_glob (v:=.int 8) rfl h8 ⟨_,rfl⟩)))))) (pss_one (ps_ret pe_bl)) pss_nil)
   (pss_one (ps_ret (pe_callB (call_all rfl) (by rfl) T.all boot_all (pa_cons (pe_lc ["sign"] [] rfl (compSc (osc:=(defScope sName).names) (N:=["thing"]) rfl rfl (by decide +kernel)) (gk_name (by decide)) (pi_str (pv 0)) (fun _ _ _=>pg_name (i:=0) (show (["sign"]:List Str).Nodup by decide +kernel) rfl (Or.inl rfl)) (fun _ _ _=>pifs_nil)
    (fun _ _ _=>pe_chain op_le_str op_le_str pe_str (pv 0) pe_str)) pa_nil)))),?_⟩
  rcases h with ⟨z,rfl,hz,k⟩ | ⟨x,t,rfl,ty,ki,k⟩
  ·have hzs:z.length<=sizeLine:=Nat.le_trans hz (by decide)
   refine ⟨_,rfl,_,_,true,rfl,.str z,rfl,_,rfl,?_⟩
   refine iteF ?_
   refine ⟨_,rfl,z,rfl,hzs,_,_,rfl,rfl,_,rfl,?_⟩
   refine ite2 (fun h1=>?_) (fun h1=>?_)
   ·refine ⟨_,_,rfl,rfl,_,rfl,?_⟩
    refine ite2 (fun h2=>?_) (fun h2=>?_)
    ·have e:nm z=false:=by
      have:¬ z.length<=8:=by simp at h2;omega
      simp [nm,this]
     exact e ▸ k H (Same.refl _)
    ·have e:nm z=(z.cps.toList.map fun c=>lo c && hi c).all id:=by
      have a1:1<=z.length:=by simp at h1;omega
      have a2:z.length<=8:=by simp at h2;omega
      unfold nm
      rw [decide_eq_true a1,decide_eq_true a2];rfl
     refine ⟨_,rfl,z,rfl,signs_loop (K:=K) hzs (fun c=>lo c && hi c) (fun c H Q q=>?_) (fun D hD=>⟨D,_,rfl,SqL.of upd_same,?_⟩)⟩
     ·refine ⟨_,rfl,_,_,rfl,rfl,_,rfl,?_⟩
      have q':Q (.bl (lo c && hi c)) H:=q
      refine ite2 (fun h=>?_) (fun h=>?_)
      ·refine ⟨_,_,rfl,rfl,?_⟩
       have e1:lo c=true:=h
       rw [e1,Bool.true_and] at q'
       exact q'
      ·have e1:lo c=false:=by simpa using (show ¬ lo c=true from h)
       rw [e1,Bool.false_and] at q'
       exact q'
     ·exact e ▸ k _ fun c o q=>by rw [upd_ne (ne_of_none q hD)];exact q
   ·refine ⟨_,rfl,?_⟩
    have e:nm z=false:=by
     have:¬ 1<=z.length:=by simp at h1;omega
     simp [nm,this]
    exact iteT (e ▸ k H (Same.refl _))
  ·refine ⟨_,rfl,_,_,false,rfl,ty,ki,_,rfl,?_⟩
   exact iteT k
theorem But.refl (p:Addr) (H:Hp):But p H H:=fun _ _ h _=>h
theorem But.trans {p:Addr} {H H1 H2:Hp} (a:But p H H1) (b:But p H1 H2):But p H H2:=fun c o h n=>b c o (a c o h n) n
theorem But.laid {p q:Addr} {H H1:Hp} {o:HO} (a:But p H H1) (hq:H1 q=none) (hp:Row H1 p):But p H (upd H1 q o)/\Row (upd H1 q o) p:=by
 obtain ⟨x,y,hp⟩:=hp
 exact ⟨fun c u h n=>by rw [upd_ne (ne_of_none (a c u h n) hq)];exact a c u h n,x,y,by rw [upd_ne (ne_of_none hp hq)];exact hp⟩
theorem letters26:("abcdefghijklmnopqrstuvwxyz" : Str).length=26:=by decide +kernel
theorem lit_ix {z:Str} {d:Int} (h0:0<=d) (h1:d < (z.length:Int)):∃ c,atI z.cps.toList d=some c:=by
 obtain ⟨n,rfl⟩:=Int.eq_ofNat_of_zero_le h0
 have hn:n < z.cps.toList.length:=by
  have:n < z.length:=by omega
  rw [Array.length_toList];exact this
 exact ⟨z.cps.toList[n],atI_nat (by simp [hn])⟩
theorem same_upd {H:Hp} {a:Addr} {o:HO} (h:H a=none):Same H (upd H a o):=fun b u e=>by rw [upd_ne (ne_of_none e h)];exact e
structure GoodP (ns:List Str):Prop where
 one:1<=ns.length
 few:ns.length<=12
 nms:∀ z∈ns,nm z=true
 nd:ns.Nodup
theorem nm_len {z:Str} (h:nm z=true):z.length<=8:=by
 unfold nm at h
 simp only [Bool.and_eq_true,decide_eq_true_eq] at h
 exact h.1.2
def spChkP:Sp:=fun vs H Q _=>∃ (a:Addr) (ns:List Str),vs=[.ref a]/\H a=some (.lst (ns.map V.str))/\GoodP ns/\∀ H',Same H H'->Q .non H'
theorem scCP:FnScope ["places"] ["places"] (defScope sChkP):=⟨rfl,rfl,rfl,by decide +kernel,rfl,by decide +kernel,by decide +kernel⟩
theorem ok_chkP {f fN:Addr} {fd fdN:FuncData} (F:Fun K "check_places" "check_places" sChkP f fd) (DN:Df K mg "is_name" sName ["thing"] fN fdN) (T:Glb mg):FnOk P w K mg base CX0 2 f fd ["places"] spChkP:=by
 have GN:FnOk P w K mg base CX0 1 fN fdN ["thing"] (spName (K:=K)):=ok_name DN.fn T
 refine F.ok scCP (fun vs H Q E h=>?_) (fun cdv A outer s H vs Q E hr h=>?_)
 ·obtain ⟨a,ns,rfl,_⟩:=h
  rfl
 ·obtain ⟨a,ns,rfl,ha,g,k⟩:=h
  obtain ⟨t12,h12⟩:=T.places
  refine ⟨_,pss_cons (ps_if (PW.pt (pw_or (pt_not (pt_val (pe_callB (call_isinst (T:="list")) (by rfl) T.isinst boot_isinstance (pa_cons (pv 0) (pa_cons (pe_bltn (v:=.ty "list") rfl T.list PyProof.Rows.boot_list rfl) pa_nil))) (fun _=>rfl)))
    (pw_or1 (pt_not (pt_chain op_le op_le pe_int (pe_callB call_len_seq (by rfl) T.len PySem.boot_len (pa_cons (pv 0) pa_nil)) (pe_glob (v:=.int 12) rfl h12 ⟨_,rfl⟩)))))) (pss_one ps_never) pss_nil)
   (pss_cons (ps_if (pt_not (pt_val (pe_callB (call_all rfl) (by rfl) T.all boot_all (pa_cons (pe_lc ["place"] [] rfl (compSc (osc:=(defScope sChkP).names) (N:=["places"]) rfl rfl (by decide +kernel)) (gk_name (by decide)) (pi_list (pv 0)) (fun _ _ _=>pg_name (i:=0) (show (["place"]:List Str).Nodup by decide +kernel) rfl (Or.inl rfl)) (fun _ _ _=>pifs_nil)
     (fun _ _ _=>pe_call GN hr rfl DN.mgf DN.fn.kp DN.b .nil pass0 (pa_cons (pv 0) pa_nil))) pa_nil)) (fun _=>rfl))) (pss_one ps_never) pss_nil)
   (pss_one (ps_if (pt_cmpR op_lt (pe_lenset rfl (pv 0) rfl T.len PySem.boot_len rfl T.set PyProof.Rows.boot_set) (pe_callB call_len_seq (by rfl) T.len PySem.boot_len (pa_cons (pv 0) pa_nil)) (nomark _)) (pss_one ps_never) pss_nil))),?_⟩
  refine ⟨_,rfl,_,_,true,rfl,.lst ha,rfl,_,rfl,?_⟩
  refine iteF ?_
  have le:(ns.map V.str).length=ns.length:=List.length_map ..
  refine ⟨_,rfl,a,_,rfl,.inl (SqL.of ha),_,_,rfl,rfl,_,rfl,?_⟩
  rw [le]
  have g1:=g.one
  have g2:=g.few
  refine ite2 (fun _=>?_) (fun z=>absurd z (by simp;omega))
  refine ⟨_,_,rfl,rfl,_,rfl,?_⟩
  refine ite2 (fun z=>absurd z (by simp;omega)) (fun _=>?_)
  refine ⟨_,rfl,a,rfl,⟨_,SqL.of ha⟩,lc_list (K:=K) (xs:=ns.map V.str) (fun i ys H2=>Same H H2/\ys=List.replicate i (V.bl true)) ⟨Same.refl _,rfl⟩ ?_ ?_ ?_ ?_⟩
  ·rintro i ys H2 hi ⟨_,rfl⟩
   rw [List.length_replicate]
   rw [le] at hi
   exact Nat.le_trans hi (Nat.le_trans g.few (by decide))
  ·rintro i ys H2 _ ⟨s2,_⟩
   exact SqL.of (s2 _ _ ha)
  ·rintro i x ys H2 R hx ⟨s2,rfl⟩ kR
   rw [List.getElem?_map] at hx
   obtain ⟨z,ez,rfl⟩:=Option.map_eq_some_iff.mp hx
   have gz:=g.nms z (List.mem_of_getElem? ez)
   simp only [tYes,gName,if_true]
   refine ⟨_,rfl,.inl ⟨z,rfl,Nat.le_trans (nm_len gz) (by decide),fun H3 s3=>?_⟩⟩
   rw [gz]
   exact kR _ _ ⟨s2.trans s3,by rw [List.replicate_succ']⟩
  ·rintro ys H2 ⟨s2,rfl⟩ D hD
   rw [le]
   have e:List.replicate ns.length (V.bl true)=(List.replicate ns.length true).map V.bl:=by simp
   refine ⟨D,List.replicate ns.length true,rfl,(by rw [e];exact SqL.of upd_same),_,rfl,?_⟩
   have e2:(List.replicate ns.length true).all id=true:=by simp
   rw [e2]
   refine iteF ?_
   have s3:Same H (upd H2 D (.lst (List.replicate ns.length (V.bl true)))):=s2.trans (same_upd hD)
   refine ⟨_,rfl,a,ns,rfl,SqL.of (s3 _ _ ha),(by have:=g.few;show ns.length+1 < scanBound;exact Nat.lt_of_le_of_lt (Nat.succ_le_succ this) (by decide)),_,rfl,a,_,rfl,.inl (SqL.of (s3 _ _ ha)),_,_,rfl,rfl,_,rfl,?_⟩
   rw [dist_nd g.nd,le]
   refine ite2 (fun z=>absurd z (by simp)) (fun _=>?_)
   exact k _ s3
end
theorem inV_str (z:Str) (ns:List Str):inV (.str z) (ns.map V.str)=decide (z∈ns):=by
 unfold inV
 rw [List.any_map,Bool.eq_iff_iff,decide_eq_true_iff]
 simp only [List.any_eq_true,Function.comp,eqV,beq_iff_eq]
 exact ⟨fun ⟨y,h,e⟩=>e ▸ h,fun h=>⟨z,h,rfl⟩⟩
theorem flat_strs (ns:List Str):(ns.map V.str).all flatV=true:=by
 rw [List.all_map,List.all_eq_true]
 intro _ _
 rfl
section
variable {P:Program} {w:World} {K:PySem.W.Frag} {mg:Str->Option Value} {base:Heap}
def spAmong:Sp:=fun vs H Q _=>(∃ (a:Addr) (ns:List Str) (z:Str),vs=[.ref a,.str z]/\SqL K H a (ns.map V.str)/\Q (.bl (decide (z∈ns))) H)\/∃ (a:Addr) (x:V) (t:Value),vs=[.ref a,x]/\TyOf K H x t/\PySem.W.kitOne K t (.type "str")=some false/\Q (.bl false) H
theorem scAm:FnScope ["places","thing"] ["places","thing"] (defScope sAmong):=⟨rfl,rfl,rfl,by decide +kernel,rfl,by decide +kernel,by decide +kernel⟩
theorem ok_among {f:Addr} {fd:FuncData} (F:Fun K "is_among" "is_among" sAmong f fd) (T:Glb mg):FnOk P w K mg base CX0 1 f fd ["places","thing"] (spAmong (K:=K)):=by
 refine F.ok scAm (fun vs H Q E h=>?_) (fun cdv A outer s H vs Q E hr h=>?_)
 ·rcases h with ⟨a,ns,z,rfl,_⟩ | ⟨a,x,t,rfl,_⟩<;>rfl
 ·refine ⟨_,pss_one (ps_ret (pe_and (pe_callB (call_isinst (T:="str")) (by rfl) T.isinst boot_isinstance (pa_cons (pv 1) (pa_cons (pe_bltn (v:=.ty "str") rfl T.str PyProof.Rows.boot_str rfl) pa_nil))) (pe_one (pe_cmpR op_in_seq (pv 1) (pv 0) rfl)))),?_⟩
  rcases h with ⟨a,ns,z,rfl,ha,k⟩ | ⟨a,x,t,rfl,ty,e,k⟩
  ·refine ⟨_,rfl,_,_,true,rfl,.str z,rfl,_,rfl,?_⟩
   refine iteT ⟨_,rfl,_,rfl,a,_,rfl,.inl ha,rfl,flat_strs ns,?_⟩
   rw [inV_str]
   exact k
  ·refine ⟨_,rfl,x,t,false,rfl,ty,e,_,rfl,?_⟩
   exact iteF k
def spTie:Sp:=fun vs H Q _=>∃ (a:Addr) (ns:List Str) (t:Addr) (x y:Str),vs=[.ref a,.ref t]/\SqL K H a (ns.map V.str)/\H t=some (.tup [.str x,.str y])/\Q (.bl (decide (x∈ns) && decide (y∈ns))) H
theorem scTi:FnScope ["places","thing"] ["places","thing"] (defScope sTie):=⟨rfl,rfl,rfl,by decide +kernel,rfl,by decide +kernel,by decide +kernel⟩
theorem ok_tie {f fA:Addr} {fd fdA:FuncData} (F:Fun K "is_tie" "is_tie" sTie f fd) (DA:Df K mg "is_among" sAmong ["places","thing"] fA fdA) (T:Glb mg):FnOk P w K mg base CX0 2 f fd ["places","thing"] (spTie (K:=K)):=by
 have GA:FnOk P w K mg base CX0 1 fA fdA ["places","thing"] (spAmong (K:=K)):=ok_among DA.fn T
 refine F.ok scTi (fun vs H Q E h=>?_) (fun cdv A outer s H vs Q E hr h=>?_)
 ·obtain ⟨a,ns,t,x,y,rfl,_⟩:=h
  rfl
 ·obtain ⟨a,ns,t,x,y,rfl,ha,ht,k⟩:=h
  refine ⟨_,pss_cons (ps_if (PW.pt (pw_or (pt_not (pt_val (pe_callB (call_isinst (T:="tuple")) (by rfl) T.isinst boot_isinstance (pa_cons (pv 1) (pa_cons (pe_bltn (v:=.ty "tuple") rfl T.tuple PyProof.Rows.boot_tuple rfl) pa_nil))) (fun _=>rfl)))
    (pw_or1 (pt_cmpR op_ne (pe_callB call_len_seq (by rfl) T.len PySem.boot_len (pa_cons (pv 1) pa_nil)) pe_int (nomark _))))) (pss_one (ps_ret pe_bl)) pss_nil)
   (pss_one (ps_ret (pe_and (pe_call GA hr rfl DA.mgf DA.fn.kp DA.b .nil pass0 (pa_cons (pv 0) (pa_cons (pe_ix ix_tup (pv 1) pe_int (fun _ _=>rfl)) pa_nil))) (pe_one (pe_call GA hr rfl DA.mgf DA.fn.kp DA.b .nil pass0 (pa_cons (pv 0) (pa_cons (pe_ix ix_tup (pv 1) pe_int (fun _ _=>rfl)) pa_nil))))))),?_⟩
  refine ⟨_,rfl,_,_,true,rfl,.tup ht,rfl,_,rfl,?_⟩
  refine iteF ⟨_,rfl,t,_,rfl,.inr (SqT.of ht),rfl,_,rfl,?_⟩
  refine iteF ?_
  refine ⟨_,rfl,_,rfl,t,_,_,_,rfl,rfl,SqT.of ht,atI_nat (j:=0) rfl,.inl ⟨a,ns,x,rfl,ha,_,rfl,?_⟩⟩
  refine ite2 (fun e=>?_) (fun e=>?_)
  ·refine ⟨_,rfl,_,rfl,t,_,_,_,rfl,rfl,SqT.of ht,atI_nat (j:=1) rfl,.inl ⟨a,ns,y,rfl,ha,?_⟩⟩
   rw [e,Bool.true_and] at k
   exact k
  ·rw [Bool.eq_false_iff.mpr e,Bool.false_and] at k
   exact k
def TiesAt (H:Hp):List Addr->List (Str × Str)->Prop:=Paired fun t p=>H t=some (.tup [.str p.1,.str p.2])
def InP (ns:List Str) (ps:List (Str × Str)):Prop:=∀ p∈ps,p.1∈ns/\p.2∈ns
theorem TiesAt.mono {H H':Hp} {ts:List Addr} {ps:List (Str × Str)} (h:TiesAt H ts ps) (k:∀ t xs,H t=some (.tup xs)->H' t=some (.tup xs)):TiesAt H' ts ps:=Paired.mapP h fun t p e=>k t _ e
theorem TiesAt.same {H H':Hp} {ts:List Addr} {ps:List (Str × Str)} (h:TiesAt H ts ps) (s:Same H H'):TiesAt H' ts ps:=h.mono fun t xs e=>s t _ e
theorem TiesAt.but {p:Addr} {H H':Hp} {ts:List Addr} {ps:List (Str × Str)} (h:TiesAt H ts ps) (s:But p H H') (np:∀ xs,H p≠some (.tup xs)):TiesAt H' ts ps:=h.mono fun t xs e=>s t _ e fun z=>np xs (z ▸ e)
theorem TiesAt.len {H:Hp} {ts:List Addr} {ps:List (Str × Str)} (h:TiesAt H ts ps):ts.length=ps.length:=Paired.length h
theorem TiesAt.get {H:Hp}:∀ {ts:List Addr} {ps:List (Str × Str)} {i:Nat} {t:Addr},TiesAt H ts ps->ts[i]?=some t->∃ p,ps[i]?=some p/\H t=some (.tup [.str p.1,.str p.2])
 | _,_,_,_,.nil,e=>by simp at e
 | _,_,0,_,.cons r _,e=>by simp at e;subst e;exact ⟨_,rfl,r⟩
 | _,_,i+1,t,.cons _ h,e=>by
  obtain ⟨p,h1,h2⟩:=TiesAt.get (i:=i) (t:=t) h (by simpa using e)
  exact ⟨p,by simpa using h1,h2⟩
theorem TiesAt.snoc {H:Hp} {ts:List Addr} {ps:List (Str × Str)} {t:Addr} {p:Str × Str} (h:TiesAt H ts ps) (e:H t=some (.tup [.str p.1,.str p.2])):TiesAt H (ts++[t]) (ps++[p]):=Paired.snoc h e
def spChkT:Sp:=fun vs H Q _=>∃ (a b:Addr) (ns:List Str) (ts:List Addr) (ps:List (Str × Str)),vs=[.ref a,.ref b]/\H a=some (.lst (ns.map V.str))/\H b=some (.lst (ts.map V.ref))/\TiesAt H ts ps/\InP ns ps/\ps.length<=30/\∀ H',Same H H'->Q .non H'
theorem scCT:FnScope ["places","ties"] ["places","ties"] (defScope sChkT):=⟨rfl,rfl,rfl,by decide +kernel,rfl,by decide +kernel,by decide +kernel⟩
theorem ok_chkT {f fA fT:Addr} {fd fdA fdT:FuncData} (F:Fun K "check_ties" "check_ties" sChkT f fd) (DA:Df K mg "is_among" sAmong ["places","thing"] fA fdA) (DT:Df K mg "is_tie" sTie ["places","thing"] fT fdT) (T:Glb mg):FnOk P w K mg base CX0 3 f fd ["places","ties"] spChkT:=by
 have GT:FnOk P w K mg base CX0 2 fT fdT ["places","thing"] (spTie (K:=K)):=ok_tie DT.fn DA T
 refine F.ok scCT (fun vs H Q E h=>?_) (fun cdv A outer s H vs Q E hr h=>?_)
 ·obtain ⟨a,b,ns,ts,ps,rfl,_⟩:=h
  rfl
 ·obtain ⟨a,b,ns,ts,ps,rfl,ha,hb,hT,hI,few,k⟩:=h
  obtain ⟨t30,h30⟩:=T.ties
  refine ⟨_,pss_cons (ps_if (PW.pt (pw_or (pt_not (pt_val (pe_callB (call_isinst (T:="list")) (by rfl) T.isinst boot_isinstance (pa_cons (pv 1) (pa_cons (pe_bltn (v:=.ty "list") rfl T.list PyProof.Rows.boot_list rfl) pa_nil))) (fun _=>rfl)))
    (pw_or1 (pt_cmpR op_gt (pe_callB call_len_seq (by rfl) T.len PySem.boot_len (pa_cons (pv 1) pa_nil)) (pe_glob (v:=.int 30) rfl h30 ⟨_,rfl⟩) (nomark _))))) (pss_one ps_never) pss_nil)
   (pss_one (ps_if (pt_not (pt_val (pe_callB (call_all rfl) (by rfl) T.all boot_all (pa_cons (pe_lc ["tie"] [0] rfl (compSc (osc:=(defScope sChkT).names) (N:=["places","ties"]) rfl rfl (by decide +kernel)) (gk_name (by decide)) (pi_list (pv 1)) (fun _ _ _=>pg_name (i:=0) (show (["tie","places"]:List Str).Nodup by decide +kernel) rfl (Or.inl rfl)) (fun _ _ _=>pifs_nil)
     (fun _ _ _=>pe_call GT hr rfl DT.mgf DT.fn.kp DT.b .nil pass0 (pa_cons (pv 1) (pa_cons (pv 0) pa_nil)))) pa_nil)) (fun _=>rfl))) (pss_one ps_never) pss_nil)),?_⟩
  have le:(ts.map V.ref).length=ps.length:=by rw [List.length_map,hT.len]
  refine ⟨_,rfl,_,_,true,rfl,.lst hb,rfl,_,rfl,?_⟩
  refine iteF ⟨_,rfl,b,_,rfl,.inl (SqL.of hb),_,_,rfl,rfl,_,rfl,?_⟩
  rw [le]
  refine ite2 (fun z=>absurd z (by simp;omega)) (fun _=>?_)
  refine ⟨_,rfl,b,rfl,⟨_,SqL.of hb⟩,lc_list (K:=K) (xs:=ts.map V.ref) (fun i ys H2=>Same H H2/\ys=List.replicate i (V.bl true)) ⟨Same.refl _,rfl⟩ ?_ ?_ ?_ ?_⟩
  ·rintro i ys H2 hi ⟨_,rfl⟩
   rw [List.length_replicate]
   rw [le] at hi
   exact Nat.le_trans hi (Nat.le_trans few (by decide))
  ·rintro i ys H2 _ ⟨s2,_⟩
   exact SqL.of (s2 _ _ hb)
  ·rintro i x ys H2 R hx ⟨s2,rfl⟩ kR
   rw [List.getElem?_map] at hx
   obtain ⟨t,et,rfl⟩:=Option.map_eq_some_iff.mp hx
   obtain ⟨p,ep,ht⟩:=hT.get et
   obtain ⟨i1,i2⟩:=hI p (List.mem_of_getElem? ep)
   simp only [tYes,gName,if_true]
   refine ⟨_,rfl,_,rfl,a,ns,t,p.1,p.2,rfl,SqL.of (s2 _ _ ha),s2 _ _ ht,?_⟩
   rw [decide_eq_true i1,decide_eq_true i2]
   exact kR _ _ ⟨s2,by rw [List.replicate_succ'];rfl⟩
  ·rintro ys H2 ⟨s2,rfl⟩ D hD
   have e:List.replicate (ts.map V.ref).length (V.bl true)=(List.replicate (ts.map V.ref).length true).map V.bl:=by simp
   refine ⟨D,List.replicate (ts.map V.ref).length true,rfl,(by rw [e];exact SqL.of upd_same),_,rfl,?_⟩
   have e2:(List.replicate (ts.map V.ref).length true).all id=true:=by simp
   rw [e2]
   exact iteF (k _ (s2.trans (same_upd hD)))
end
structure WC (K:PySem.W.Frag) (mg:Str->Option Value) (C:Addr):Prop where
 cl:Cls K C
 nP:NoAttr K C "kept_places"
 nT:NoAttr K C "kept_ties"
 mgC:mg "Web" = some (.ref C)
def wf (kp kt:Addr):List (Str × V):=[("kept_places",.ref kp),("kept_ties",.ref kt)]
def WebObj (C:Addr) (H:Hp) (x:Addr) (ns:List Str) (ps:List (Str × Str)):Prop :=
 ∃ dx kp kt ts,H x=some (.ins C dx (wf kp kt))/\H kp=some (.tup ((srt ns).map V.str))/\H kt=some (.tup (ts.map V.ref))/\TiesAt H ts ps
theorem WebObj.same {C:Addr} {H H':Hp} {x:Addr} {ns:List Str} {ps:List (Str × Str)} (h:WebObj C H x ns ps) (s:Same H H'):WebObj C H' x ns ps :=
 let ⟨dx,kp,kt,ts,h1,h2,h3,h4⟩:=h
 ⟨dx,kp,kt,ts,s _ _ h1,s _ _ h2,s _ _ h3,h4.same s⟩
theorem wf_p (kp kt:Addr):(wf kp kt).lookup ("kept_places" : Str)=some (V.ref kp):=rfl
theorem wf_t (kp kt:Addr):(wf kp kt).lookup ("kept_ties" : Str)=some (V.ref kt):=by
 show List.lookup _ (_::_)=_
 rw [List.lookup_cons,show (("kept_ties" : Str) == "kept_places")=false by decide +kernel]
 rfl
theorem wf_no (kp kt:Addr) (m:Str) (h1:(m == ("kept_places" : Str))=false) (h2:(m == ("kept_ties" : Str))=false):(wf kp kt).lookup m=none:=by
 show List.lookup _ (_::_)=_
 rw [List.lookup_cons,h1]
 show List.lookup _ (_::_)=_
 rw [List.lookup_cons,h2]
 rfl
section
variable {P:Program} {w:World} {K:PySem.W.Frag} {mg:Str->Option Value} {base:Heap}
structure Lists (H:Hp) (a b:Addr) (ns:List Str) (ps:List (Str × Str)) (ts:List Addr):Prop where
 ha:H a=some (.lst (ns.map V.str))
 hb:H b=some (.lst (ts.map V.ref))
 hT:TiesAt H ts ps
 good:GoodP ns
 ins:InP ns ps
 few:ps.length<=30
theorem Lists.same {H H':Hp} {a b:Addr} {ns:List Str} {ps:List (Str × Str)} {ts:List Addr} (h:Lists H a b ns ps ts) (s:Same H H'):Lists H' a b ns ps ts:=⟨s _ _ h.ha,s _ _ h.hb,h.hT.same s,h.good,h.ins,h.few⟩
def spInit (C:Addr):Sp:=fun vs H Q _=>∃ (x a b:Addr) (ns:List Str) (ps:List (Str × Str)) (ts:List Addr),vs=[.ref x,.ref a,.ref b]/\(∃ dx,H x=some (.ins C dx []))/\Lists H a b ns ps ts/\∀ H',WebObj C H' x ns ps->But x H H'->Q .non H'
theorem scIn:FnScope ["self","places","ties"] ["self","places","ties"] (defScope sInit):=⟨rfl,rfl,rfl,by decide +kernel,rfl,by decide +kernel,by decide +kernel⟩
theorem ok_init {C f fN fA fT f1 f2:Addr} {fd fdN fdA fdT fd1 fd2:FuncData} (F:Fun K "__init__" "Web.__init__" sInit f fd) (W:WC K mg C) (DN:Df K mg "is_name" sName ["thing"] fN fdN) (DA:Df K mg "is_among" sAmong ["places","thing"] fA fdA) (DT:Df K mg "is_tie" sTie ["places","thing"] fT fdT)
  (D1:Df K mg "check_places" sChkP ["places"] f1 fd1) (D2:Df K mg "check_ties" sChkT ["places","ties"] f2 fd2) (T:Glb mg):FnOk P w K mg base CX0 4 f fd ["self","places","ties"] (spInit C):=by
 have G1:FnOk P w K mg base CX0 2 f1 fd1 ["places"] spChkP:=ok_chkP D1.fn DN T
 have G2:FnOk P w K mg base CX0 3 f2 fd2 ["places","ties"] spChkT:=ok_chkT D2.fn DA DT T
 refine F.ok scIn (fun vs H Q E h=>?_) (fun cdv A outer s H vs Q E hr h=>?_)
 ·obtain ⟨x,a,b,ns,ps,ts,rfl,_⟩:=h
  rfl
 ·obtain ⟨x,a,b,ns,ps,ts,rfl,⟨dx,hx⟩,L,k⟩:=h
  refine ⟨_,pss_cons (ps_expr (pe_call G1 (hr.mono (by decide)) rfl D1.mgf D1.fn.kp D1.b .nil pass0 (pa_cons (pv 1) pa_nil)))
   (pss_cons (ps_expr (pe_call G2 (hr.mono (by decide)) rfl D2.mgf D2.fn.kp D2.b .nil pass0 (pa_cons (pv 1) (pa_cons (pv 2) pa_nil))))
   (pss_cons (ps_fld (pv 0) (pe_callTy call_tuple_of (by rfl) T.tuple PyProof.Rows.boot_tuple (pa_cons (pe_callB call_sorted_txt (by rfl) T.sorted boot_sorted (pa_cons (pv 1) pa_nil)) pa_nil)) rfl)
   (pss_one (ps_fld (pv 0) (pe_callTy call_tuple_of (by rfl) T.tuple PyProof.Rows.boot_tuple (pa_cons (pe_lc ["a","b"] [] rfl (compSc (osc:=(defScope sInit).names) (N:=["self","places","ties"]) rfl rfl (by decide +kernel)) (gk_two (k:=2) (by decide) (by decide)) (pi_list (pv 2))
    (fun _ _ _=>pg_tup (n:=2) rfl (pgs_cons (pg_name (i:=0) (show (["a","b"]:List Str).Nodup by decide +kernel) rfl (Or.inl rfl)) (pgs_cons (pg_name (i:=1) (show (["a","b"]:List Str).Nodup by decide +kernel) rfl (Or.inl rfl)) pgs_nil))) (fun _ _ _=>pifs_nil)
    (fun _ _ _=>pe_tup (pa_cons (pv 0) (pa_cons (pv 1) pa_nil)))) pa_nil)) rfl)))),?_⟩
  refine ⟨_,rfl,a,ns,rfl,L.ha,L.good,fun H1 s1=>?_⟩
  have L1:=L.same s1
  refine ⟨_,rfl,_,rfl,a,b,ns,ts,ps,rfl,L1.ha,L1.hb,L1.hT,L1.ins,L1.few,fun H2 s2=>?_⟩
  have L2':=L1.same s2
  refine ⟨_,rfl,a,ns,rfl,SqL.of L2'.ha,Nat.lt_of_le_of_lt L.good.few (by decide),fun l hl=>?_⟩
  refine ⟨l,_,rfl,.inl ⟨SqL.of upd_same,fun kp hkp=>?_⟩⟩
  have s3:Same H2 (upd (upd H2 l (.lst ((srt ns).map V.str))) kp (.tup ((srt ns).map V.str))):=(same_upd hl).trans (same_upd hkp)
  have s03:=(s1.trans s2).trans s3
  have hkp3:=upd_same (H:=upd H2 l (.lst ((srt ns).map V.str))) (a:=kp) (o:=.tup ((srt ns).map V.str))
  generalize upd (upd H2 l (.lst ((srt ns).map V.str))) kp (.tup ((srt ns).map V.str))=H3 at s3 s03 hkp3 ⊢
  have hx3:=s03 _ _ hx
  refine ⟨_,rfl,x,C,dx,_,rfl,hx3,W.cl,W.nP,(by show 0 < 1000;decide),?_⟩
  have L3:=L.same s03
  have nax:a≠x:=ne_of L3.ha hx3 (by intro z;cases z)
  have nbx:b≠x:=ne_of L3.hb hx3 (by intro z;cases z)
  have nkx:kp≠x:=ne_of hkp3 hx3 (by intro z;cases z)
  have L4:Lists (upd H3 x (.ins C dx (putF "kept_places" (.ref kp) []))) a b ns ps ts:=⟨by rw [upd_ne nax];exact L3.ha,by rw [upd_ne nbx];exact L3.hb,L3.hT.mono fun t xs e=>by rw [upd_ne (ne_of e hx3 (by intro z;cases z))];exact e,L.good,L.ins,L.few⟩
  have b4:But x H (upd H3 x (.ins C dx (putF "kept_places" (.ref kp) []))):=fun c o e n=>by rw [upd_ne n];exact s03 _ _ e
  have hx4:=upd_same (H:=H3) (a:=x) (o:=.ins C dx (putF "kept_places" (.ref kp) []))
  have hkp4:(upd H3 x (.ins C dx (putF "kept_places" (.ref kp) []))) kp=some (.tup ((srt ns).map V.str)):=by rw [upd_ne nkx];exact hkp3
  generalize upd H3 x (.ins C dx (putF "kept_places" (.ref kp) []))=H4 at L4 b4 hx4 hkp4 ⊢
  have le:(ts.map V.ref).length=ps.length:=by rw [List.length_map,L.hT.len]
  refine ⟨_,rfl,b,rfl,⟨_,SqL.of L4.hb⟩,lc_list (K:=K) (xs:=ts.map V.ref) (fun i ys H5=>Same H4 H5/\∃ us:List Addr,ys=us.map V.ref/\us.length=i/\TiesAt H5 us (ps.take i)) ⟨Same.refl _,[],rfl,rfl,.nil⟩ ?_ ?_ ?_ ?_⟩
  ·rintro i ys H5 hi ⟨_,us,rfl,e,_⟩
   rw [List.length_map,e]
   rw [le] at hi
   exact Nat.le_trans hi (Nat.le_trans L.few (by decide))
  ·rintro i ys H5 _ ⟨s5,_⟩
   exact SqL.of (s5 _ _ L4.hb)
  ·rintro i y ys H5 R hy ⟨s5,us,rfl,e,hU⟩ kR
   rw [List.getElem?_map] at hy
   obtain ⟨t,et,rfl⟩:=Option.map_eq_some_iff.mp hy
   obtain ⟨p,ep,ht⟩:=L4.hT.get et
   refine ⟨t,_,rfl,SqT.of (s5 _ _ ht),rfl,_,_,rfl,_,_,rfl,rfl,?_⟩
   simp only [tYes,if_true]
   refine ⟨_,rfl,_,rfl,(by show 2<=sizeLine;decide),fun u hu=>?_⟩
   have e2:us.map V.ref++[V.ref u]=(us++[u]).map V.ref:=by simp
   refine kR _ _ ⟨s5.trans (same_upd hu),us++[u],e2,by simp [e],?_⟩
   rw [List.take_add_one,ep]
   exact (hU.same (same_upd hu)).snoc upd_same
  ·rintro ys H5 ⟨s5,us,rfl,e,hU⟩ D hD
   rw [le,List.take_of_length_le (Nat.le_refl _)] at hU
   refine ⟨D,_,rfl,.inl ⟨SqL.of upd_same,fun kt hkt=>?_⟩⟩
   have s6:Same H4 (upd (upd H5 D (.lst (us.map V.ref))) kt (.tup (us.map V.ref))):=s5.trans ((same_upd hD).trans (same_upd hkt))
   have hU6:=hU.same ((same_upd (o:=.lst (us.map V.ref)) hD).trans (same_upd (o:=.tup (us.map V.ref)) hkt))
   have hkt6:=upd_same (H:=upd H5 D (.lst (us.map V.ref))) (a:=kt) (o:=.tup (us.map V.ref))
   generalize upd (upd H5 D (.lst (us.map V.ref))) kt (.tup (us.map V.ref))=H6 at s6 hU6 hkt6 ⊢
   have hx6:=s6 _ _ hx4
   refine ⟨_,rfl,x,C,dx,_,rfl,hx6,W.cl,W.nT,(by show 1 < 1000;decide),?_⟩
   refine k _ ⟨dx,kp,kt,us,?_,?_,?_,?_⟩ fun c o e n=>?_
   ·rw [upd_same]
    show some (HO.ins C dx (putF "kept_ties" (.ref kt) (putF "kept_places" (.ref kp) [])))=_
    rfl
   ·rw [upd_ne (ne_of (s6 _ _ hkp4) hx6 (by intro z;cases z))];exact s6 _ _ hkp4
   ·rw [upd_ne (ne_of hkt6 hx6 (by intro z;cases z))];exact hkt6
   ·exact hU6.mono fun t xs e=>by rw [upd_ne (ne_of e hx6 (by intro z;cases z))];exact e
   ·rw [upd_ne n];exact s6 _ _ (b4 c o e n)
def spPl (C:Addr):Sp:=fun vs H Q _=>∃ (x:Addr) (ns:List Str) (ps:List (Str × Str)),vs=[.ref x]/\WebObj C H x ns ps/\∀ l,H l=none->Q (.ref l) (upd H l (.lst ((srt ns).map V.str)))
theorem scPl:FnScope ["self"] ["self"] (defScope sPlaces):=⟨rfl,rfl,rfl,by decide +kernel,rfl,by decide +kernel,by decide +kernel⟩
theorem ok_places {C f:Addr} {fd:FuncData} (F:Fun K "places" "Web.places" sPlaces f fd) (W:WC K mg C) (T:Glb mg):FnOk P w K mg base CX0 1 f fd ["self"] (spPl C):=by
 refine F.ok scPl (fun vs H Q E h=>?_) (fun cdv A outer s H vs Q E hr h=>?_)
 ·obtain ⟨x,ns,ps,rfl,_⟩:=h
  rfl
 ·obtain ⟨x,ns,ps,rfl,⟨dx,kp,kt,ts,h1,h2,h3,h4⟩,k⟩:=h
  refine ⟨_,pss_one (ps_ret (pe_callTy call_list_of (by rfl) T.list PyProof.Rows.boot_list (pa_cons (pe_fld (pv 0) rfl) pa_nil))),?_⟩
  exact ⟨_,rfl,x,C,dx,_,_,rfl,h1,W.cl,W.nP,wf_p kp kt,kp,_,rfl,.inr (SqT.of h2),k⟩
def spTs (C:Addr):Sp:=fun vs H Q _=>∃ (x:Addr) (ns:List Str) (ps:List (Str × Str)),vs=[.ref x]/\WebObj C H x ns ps/\∀ l us,H l=none->TiesAt H us ps->Q (.ref l) (upd H l (.lst (us.map V.ref)))
theorem scTs:FnScope ["self"] ["self"] (defScope sTies):=⟨rfl,rfl,rfl,by decide +kernel,rfl,by decide +kernel,by decide +kernel⟩
theorem ok_ties {C f:Addr} {fd:FuncData} (F:Fun K "ties" "Web.ties" sTies f fd) (W:WC K mg C) (T:Glb mg):FnOk P w K mg base CX0 1 f fd ["self"] (spTs C):=by
 refine F.ok scTs (fun vs H Q E h=>?_) (fun cdv A outer s H vs Q E hr h=>?_)
 ·obtain ⟨x,ns,ps,rfl,_⟩:=h
  rfl
 ·obtain ⟨x,ns,ps,rfl,⟨dx,kp,kt,ts,h1,h2,h3,h4⟩,k⟩:=h
  refine ⟨_,pss_one (ps_ret (pe_callTy call_list_of (by rfl) T.list PyProof.Rows.boot_list (pa_cons (pe_fld (pv 0) rfl) pa_nil))),?_⟩
  exact ⟨_,rfl,x,C,dx,_,_,rfl,h1,W.cl,W.nT,wf_t kp kt,kt,_,rfl,.inr (SqT.of h3),fun l hl=>k l ts hl h4⟩
structure Ex (K:PySem.W.Frag) (mg:Str->Option Value) (x:Str) (C:Addr):Prop where
 b:mg x=some (.ref C)
 bm:∃ Bn newId initId bm,PySem.W.excIn K C bm newId=true/\ExcBaseFacts Bn newId initId bm
end
end K91
namespace L2
open PySem PySem.Spec PyProof.Rows
theorem lc_str {z:Str} {own:List Str} {fr:List Nat} {g:TG} {tt:TT} {te:TE} {σ:St} {Q:VK} {H:Hp} (Pv:Nat->List V->Hp->Prop) (h0:Pv 0 [] H) (hlen:∀ i ys H,i<=z.cps.size->Pv i ys H->ys.length<=sizeLine)
  (hs:∀ i c ys H (R:List V->Hp->Prop),z.cps[i]?=some c->Pv i ys H->(∀ ys' H',Pv (i+1) ys' H'->R ys' H')->g (.str ⟨#[c]⟩) (cSt own fr σ) H fun σ4 H4=>tt σ4 H4 fun b H5=>if b=true then te σ4 H5 fun y H6=>R (ys++[y]) H6 else R ys H5)
  (hd:∀ ys H,Pv z.cps.size ys H->∀ D,H D=none->Q (.ref D) (upd H D (.lst ys))):lcLoop own fr g tt te σ Q (Its z) H:=by
 refine ⟨fun i m ys H=>m=z.cps.size - i/\i<=z.cps.size/\Pv i ys H,⟨z.cps.size,rfl,Nat.zero_le _,h0⟩,?_⟩
 rintro i m ys H2 ⟨rfl,hi,p⟩
 refine ⟨hlen i ys H2 hi p,?_⟩
 by_cases h:i < z.cps.size
 ·refine .inr ⟨h,fun x H3 hy=>?_⟩
  obtain ⟨rfl,c,hc,rfl⟩:=hy
  exact hs i c ys _ (fun ys' H'=>∃ m',m' < z.cps.size - i/\(m'=z.cps.size - (i+1)/\i+1<=z.cps.size/\Pv (i+1) ys' H')) hc p fun ys' H' q=>⟨z.cps.size - (i+1),by omega,rfl,h,q⟩
 ·have e:i=z.cps.size:=by omega
  subst e
  exact .inl ⟨rfl,hd ys H2 p⟩
abbrev one (c:Nat):Str:=⟨#[c]⟩
theorem glue_ones:∀ (cs:List Nat) (acc:Array Nat),((cs.map one).foldl (fun acc p=>acc++("" : Str).cps++p.cps) acc).toList=acc.toList++cs
 | [],acc=>by simp
 | c::cs,acc=>by
  have e:("" : Str).cps=#[]:=by decide +kernel
  rw [List.map_cons,List.foldl_cons,glue_ones cs,e]
  simp
theorem join_ones {cs:List Nat} (h:cs≠[]):(Txt.join "" (cs.map one)).cps.toList=cs:=by
 cases cs with
 | nil=>exact absurd rfl h
 | cons c r =>
  show ((r.map one).foldl (fun acc p=>acc++("" : Str).cps++p.cps) (one c).cps).toList=_
  rw [glue_ones]
  rfl
theorem atI_mem {α:Type} {xs:List α} {i:Int} {v:α} (h:atI xs i=some v):v∈xs:=by
 unfold atI at h
 obtain ⟨j,_,e⟩:=Option.bind_eq_some_iff.mp h
 exact List.mem_of_getElem? e
theorem pigeon:∀ (l m:List Str),l.Nodup->(∀ x∈l,x∈m)->l.length<=m.length
 | [],m,_,_=>Nat.zero_le _
 | x::l,m,nd,h=>by
  rw [List.nodup_cons] at nd
  have hx:=h x List.mem_cons_self
  have q:=pigeon l (m.erase x) nd.2 fun y hy=>(List.mem_erase_of_ne (fun e:y=x=>nd.1 (e ▸ hy))).mpr (h y (List.mem_cons_of_mem _ hy))
  rw [List.length_erase_of_mem hx] at q
  have:0 < m.length:=List.length_pos_of_mem hx
  simp only [List.length_cons]
  omega
end L2
namespace K91
open PySem PySem.Spec PyProof.Rows L2
abbrev abc:Str:="abcdefghijklmnopqrstuvwxyz"
theorem abc_size:abc.cps.size=26:=by decide +kernel
theorem abc_ok:∀ c∈abc.cps.toList,(lo c && hi c)=true:=by decide +kernel
theorem abc_nd:(abc.cps.toList.map one).Nodup:=by decide +kernel
theorem nm_one {c:Nat} (h:(lo c && hi c)=true):nm (one c)=true:=by
 show ((decide (1<=1) && decide (1<=8)) && ([c].map fun c=>lo c && hi c).all id)=true
 simp [h]
theorem nm_of {z:Str} {cs:List Nat} (e:z.cps.toList=cs) (h1:1<=cs.length) (h8:cs.length<=8) (h:∀ c∈cs,(lo c && hi c)=true):nm z=true:=by
 have l:z.length=cs.length:=by rw [<- e];exact Array.length_toList.symm
 unfold nm
 rw [l,decide_eq_true h1,decide_eq_true h8,e]
 simp only [Bool.and_self,Bool.true_and,List.all_map,List.all_eq_true]
 exact fun c hc=>h c hc
section
variable {P:Program} {w:World} {K:PySem.W.Frag} {mg:Str->Option Value} {base:Heap}
def spLN:Sp:=fun vs H Q _=>∃ (p q:Addr) (ns:List Str),vs=[.ref p,.ref q]/\Row H p/\H q=some (.lst (ns.map V.str))/\ns.length<=25/\∀ (z:Str) (H':Hp),nm z=true->z ∉ ns->Row H' p->But p H H'->Q (.str z) H'
abbrev nN:List Str:=["_law_row","_law_taken","_law_letters","_law_name_here"]
theorem scLN:FnScope nN ["_law_row","_law_taken"] (defScope sLName):=⟨rfl,rfl,rfl,by decide +kernel,rfl,by decide +kernel,by decide +kernel⟩
theorem ok_lname {f fD:Addr} {fd fdD:FuncData} (F:Fun K "_law_name" "_law_name" sLName f fd) (D:Df K mg "_law_draw" sDraw ["_law_row","_law_many"] fD fdD) (T:Glb mg):FnOk P w K mg base CX0 2 f fd ["_law_row","_law_taken"] spLN:=by
 have G:FnOk P w K mg base CX0 1 fD fdD ["_law_row","_law_many"] spDraw:=ok_draw D.fn T
 refine F.ok scLN (fun vs H Q E h=>?_) (fun cdv A outer s H vs Q E hr h=>?_)
 ·obtain ⟨p,q,ns,rfl,_⟩:=h
  rfl
 ·obtain ⟨p,q,ns,rfl,hp,hq,few,k⟩:=h
  refine ⟨_,pss_cons (ps_set (i:=2) scLN.nd rfl (Or.inr rfl) pe_str)
   (pss_cons (ps_set (i:=3) scLN.nd rfl (Or.inl rfl) (pe_bm PySem.F.plainAttrs_str PySem.F.slot_str_join PySem.F.type_str_join mt_join pe_str (pa_cons
    (pe_lc ["_law_k"] [2,0] rfl (compSc (osc:=(defScope sLName).names) (N:=nN) rfl rfl (by decide +kernel)) (gk_name (by decide))
     (pi_range1 rfl T.range (pa_cons (pe_op op_add pe_int (pe_call G hr rfl D.mgf D.fn.kp D.b .nil pass0 (pa_cons (pv 0) (pa_cons pe_int pa_nil)))) pa_nil))
     (fun _ _ _=>pg_name (i:=0) (show (["_law_k","_law_letters","_law_row"]:List Str).Nodup by decide +kernel) rfl (Or.inl rfl)) (fun _ _ _=>pifs_nil)
     (fun _ _ _=>pe_ix ix_str (pv 1) (pe_call G hr rfl D.mgf D.fn.kp D.b .nil pass0 (pa_cons (pv 2) (pa_cons pe_int pa_nil))) (fun _ _=>rfl))) pa_nil)))
   (pss_cons (ps_if (pt_cmpR op_in_seq (pv 3) (pv 1) rfl) (pss_one (ps_set (i:=3) scLN.nd rfl (Or.inl rfl) (pe_ix ix_list
    (pe_lc ["_law_letter"] [1] rfl (compSc (osc:=(defScope sLName).names) (N:=nN) rfl rfl (by decide +kernel)) (gk_name (by decide)) (pi_str (pv 2))
     (fun _ _ _=>pg_name (i:=0) (show (["_law_letter","_law_taken"]:List Str).Nodup by decide +kernel) rfl (Or.inl rfl)) (fun _ _ _=>pifs_one (pt_cmpR (r:=rIn K true) op_notIn_seq (pv 0) (pv 1) rfl))
     (fun _ _ _=>pv 0)) pe_int (fun _ _=>rfl)))) pss_nil)
   (pss_one (ps_ret (pv 3))))),?_⟩
  refine ⟨rfl,_,rfl,p,8,rfl,hp,by decide,by decide,fun d1 H1 d1a d1b hp1 b1=>?_⟩
  refine ⟨_,_,rfl,rfl,_,rfl,by omega,by omega,lc_range (fun i ys H2=>Row H2 p/\But p H H2/\∃ cs:List Nat,ys=(cs.map one).map V.str/\cs.length=i/\∀ c∈cs,(lo c && hi c)=true) ⟨hp1,b1,[],rfl,rfl,fun _ h=>nomatch h⟩ ?_ ?_ ?_⟩
  ·rintro i ys H2 hi ⟨_,_,cs,rfl,hl,_⟩
   rw [List.length_map,List.length_map,hl]
   exact Nat.le_trans hi (Nat.le_trans (show (1+d1).toNat<=8 by omega) (by decide))
  ·rintro i ys H2 R hi ⟨hp2,b2,cs,rfl,hl,h1⟩ kR
   simp only [tYes,gName,if_true]
   refine ⟨_,rfl,_,rfl,p,26,rfl,hp2,by decide,by decide,fun d2 H3 d2a d2b hp3 b3=>?_⟩
   obtain ⟨c,hc⟩:=lit_ix (z:=abc) d2a (by rw [letters26];exact d2b)
   refine ⟨_,_,c,rfl,rfl,by decide +kernel,hc,kR _ _ ⟨hp3,b2.trans b3,cs++[c],by simp,by simp [hl],fun y hy=>?_⟩⟩
   rcases List.mem_append.mp hy with q | q
   ·exact h1 y q
   ·rw [List.mem_singleton.mp q];exact abc_ok c (atI_mem hc)
  ·rintro ys H2 ⟨hp2,b2,cs,rfl,hl,h1⟩ D0 hD0
   obtain ⟨b3,hp3⟩:=b2.laid (o:=.lst ((cs.map one).map V.str)) hD0 hp2
   have l1:1<=cs.length:=by rw [hl];omega
   have l8:cs.length<=8:=by rw [hl];omega
   have hsum:((cs.map one).map (·.length)).sum+(cs.map one).length * ("" : Str).length<=8:=by
    have e1:((cs.map one).map (·.length)).sum=cs.length:=by
     rw [List.map_map]
     clear hl h1 l1 l8 b3 hp3
     induction cs with
     | nil=>rfl
     | cons c r ih=>rw [List.map_cons,List.sum_cons,ih];show 1+_=_;simp;omega
    have:("" : Str).length=0:=by decide +kernel
    rw [e1,this];omega
   have hn:nm (Txt.join "" (cs.map one))=true:=nm_of (join_ones (by intro e;rw [e] at l1;simp at l1)) l1 l8 h1
   refine ⟨"",D0,cs.map one,rfl,rfl,SqL.of upd_same,Nat.le_trans hsum (by decide),?_⟩
   generalize Txt.join "" (cs.map one)=z0 at hn ⊢
   generalize upd H2 D0 (HO.lst ((cs.map one).map V.str))=H3 at b3 hp3 ⊢
   have npq:q≠p:=fun e=>by
    obtain ⟨x,y,r⟩:=hp
    rw [e,r] at hq
    have:=Option.some.inj hq
    injection this with this
    cases ns with
    | nil=>simp at this
    | cons n _=>simp at this
   have hq3:=b3 _ _ hq npq
   refine ⟨_,rfl,_,rfl,q,_,rfl,.inl (SqL.of hq3),rfl,flat_strs ns,_,rfl,?_⟩
   simp only [Bool.false_eq_true,if_false]
   rw [inV_str]
   refine ite2 (fun hin=>?_) (fun hin=>?_)
   ·refine ⟨_,rfl,abc,rfl,lc_str (fun i ys H4=>H4=H3/\ys=(((abc.cps.toList.take i).filter fun c=>decide (one c ∉ ns)).map one).map V.str) ⟨rfl,rfl⟩ ?_ ?_ ?_⟩
    ·rintro i ys H4 hi ⟨_,rfl⟩
     rw [List.length_map,List.length_map]
     refine Nat.le_trans (List.length_filter_le _ _) ?_
     rw [List.length_take,Array.length_toList,abc_size]
     exact Nat.le_trans (Nat.min_le_right _ _) (by decide)
    ·rintro i c ys H4 R hc ⟨rfl,rfl⟩ kR
     simp only [gName]
     refine ⟨_,rfl,_,rfl,q,_,rfl,.inl (SqL.of hq3),rfl,flat_strs ns,_,rfl,?_⟩
     simp only [if_true]
     rw [inV_str]
     have et:abc.cps.toList.take (i+1)=abc.cps.toList.take i++[c]:=by
      rw [List.take_add_one,show abc.cps.toList[i]?=some c by simpa using hc];rfl
     have ef:((abc.cps.toList.take (i+1)).filter fun c=>decide (one c ∉ ns))=((abc.cps.toList.take i).filter fun c=>decide (one c ∉ ns))++(if one c∈ns then [] else [c]):=by
      rw [et,List.filter_append]
      by_cases h:one c∈ns<;>simp [h]
     by_cases h:one c∈ns
     ·rw [decide_eq_true h]
      refine iteF (kR _ _ ⟨rfl,?_⟩)
      rw [ef,if_pos h,List.append_nil]
     ·rw [decide_eq_false h]
      refine iteT ⟨_,rfl,kR _ _ ⟨rfl,?_⟩⟩
      rw [ef,if_neg h]
      simp
    ·rintro ys H4 ⟨rfl,rfl⟩ D1 hD1
     have all:abc.cps.toList.take abc.cps.size=abc.cps.toList:=List.take_of_length_le (by simp)
     rw [all]
     obtain ⟨b4,hp4⟩:=b3.laid (o:=.lst (((abc.cps.toList.filter fun c=>decide (one c ∉ ns)).map one).map V.str)) hD1 hp3
     have hD2:=upd_same (H:=H4) (a:=D1) (o:=.lst (((abc.cps.toList.filter fun c=>decide (one c ∉ ns)).map one).map V.str))
     cases ef:abc.cps.toList.filter fun c=>decide (one c ∉ ns) with
     | nil =>
      exfalso
      have h:=pigeon _ ns abc_nd fun x hx=>by
       obtain ⟨c,hc,rfl⟩:=List.mem_map.mp hx
       have:=List.filter_eq_nil_iff.mp ef c hc
       simpa using this
      rw [List.length_map,Array.length_toList,abc_size] at h
      omega
     | cons c r =>
      rw [ef] at b4 hp4 hD2
      have hc:c∈abc.cps.toList.filter fun c=>decide (one c ∉ ns):=by rw [ef];exact List.mem_cons_self
      obtain ⟨m1,m2⟩:=List.mem_filter.mp hc
      refine ⟨D1,_,_,_,rfl,rfl,SqL.of hD2,atI_nat (j:=0) rfl,_,rfl,?_⟩
      exact k _ _ (nm_one (abc_ok c m1)) (by simpa using m2) hp4 b4
   ·exact ⟨_,rfl,k z0 H3 hn (by simpa using hin) hp3 b3⟩
theorem But.lists {p:Addr} {H H':Hp} {a b:Addr} {ns:List Str} {ps:List (Str × Str)} {ts:List Addr} (h:Lists H a b ns ps ts) (s:But p H H') (hp:∃ xs,H p=some (.lst xs)) (na:a≠p) (nb:b≠p):Lists H' a b ns ps ts :=
 ⟨s _ _ h.ha na,s _ _ h.hb nb,h.hT.but s (fun ys z=>by obtain ⟨xs,e⟩:=hp;rw [e] at z;cases z),h.good,h.ins,h.few⟩
theorem Row.lst {H:Hp} {p:Addr} (h:Row H p):∃ xs,H p=some (.lst xs):=let ⟨a,b,e⟩:=h;⟨_,e⟩
theorem Row.upd_ne {H:Hp} {p q:Addr} {o:HO} (h:Row H p) (n:p≠q):Row (upd H q o) p:=let ⟨a,b,e⟩:=h;⟨a,b,by rw [L2.upd_ne n];exact e⟩
theorem But.upd_new {p q:Addr} {H H1:Hp} {o:HO} (a:But p H H1) (hq:H q=none):But p H (upd H1 q o):=fun c u e n=>by rw [L2.upd_ne (ne_of_none e hq)];exact a c u e n
def spWeb:Sp:=fun vs H Q _=>∃ (p:Addr),vs=[.ref p,.int 12]/\Row H p/\∀ (t a b:Addr) (ns:List Str) (ps:List (Str × Str)) (ts:List Addr) (H':Hp),Lists H' a b ns ps ts->H' t=some (.tup [.ref a,.ref b])->H a=none->H b=none->H t=none->a≠b->Row H' p->But p H H'->Q (.ref t) H'
abbrev nW:List Str:=["_law_row","_law_most","_law_names","_law_k","_law_bent","_law_ties","_law_one","_law_other"]
theorem scWb:FnScope nW ["_law_row","_law_most"] (defScope sWeb):=⟨rfl,rfl,rfl,by decide +kernel,rfl,by decide +kernel,by decide +kernel⟩
def WI1 (p q:Addr) (H:Hp) (i:Nat) (σ:L2.St) (H2:Hp):Prop:=∃ (v3:Option V) (ns:List Str),σ=[some (V.ref p),some (V.int 12),some (V.ref q),v3,none,none,none,none]/\Row H2 p/\But p H H2/\H2 q=some (.lst (ns.map V.str))/\ns.length=i/\(∀ z∈ns,nm z=true)/\ns.Nodup
def WI2 (p q b:Addr) (H:Hp) (ns:List Str) (bent:Int) (i:Nat) (σ:L2.St) (H2:Hp):Prop:=∃ (v3 v6 v7:Option V) (ps:List (Str × Str)) (ts:List Addr),σ=[some (V.ref p),some (V.int 12),some (V.ref q),v3,some (V.int bent),some (V.ref b),v6,v7]/\Row H2 p/\But p H H2/\Lists H2 q b ns ps ts/\ps.length=i
theorem ok_web {f fD fN:Addr} {fd fdD fdN:FuncData} (F:Fun K "_law_web" "_law_web" sWeb f fd) (D:Df K mg "_law_draw" sDraw ["_law_row","_law_many"] fD fdD) (DN:Df K mg "_law_name" sLName ["_law_row","_law_taken"] fN fdN) (T:Glb mg):FnOk P w K mg base CX0 3 f fd ["_law_row","_law_most"] spWeb:=by
 have G:FnOk P w K mg base CX0 1 fD fdD ["_law_row","_law_many"] spDraw:=ok_draw D.fn T
 have GN:FnOk P w K mg base CX0 2 fN fdN ["_law_row","_law_taken"] spLN:=ok_lname DN.fn D T
 refine F.ok scWb (fun vs H Q E h=>?_) (fun cdv A outer s H vs Q E hr h=>?_)
 ·obtain ⟨p,rfl,_⟩:=h
  rfl
 ·obtain ⟨p,rfl,hp,k⟩:=h
  have h1:=hr.mono (j:=1) (by decide)
  refine ⟨_,pss_cons (ps_set (i:=2) scWb.nd rfl (Or.inl rfl) (pe_lst pa_nil))
   (pss_cons (ps_for PassesOwn.never rfl (pi_range1 rfl T.range (pa_cons (pe_op op_add pe_int (pe_call G h1 rfl D.mgf D.fn.kp D.b .nil pass0 (pa_cons (pv 0) (pa_cons (pv 1) pa_nil)))) pa_nil)) (pg_name (i:=3) scWb.nd rfl (Or.inl rfl))
    (pss_one (ps_expr (pe_bm PySem.F.plainAttrs_list PySem.F.slot_list_append PySem.F.type_list_append mt_append (pv 2) (pa_cons (pe_call GN hr rfl DN.mgf DN.fn.kp DN.b .nil pass0 (pa_cons (pv 0) (pa_cons (pv 2) pa_nil))) pa_nil)))))
   (pss_cons (ps_set (i:=4) scWb.nd rfl (Or.inl rfl) (pe_call G h1 rfl D.mgf D.fn.kp D.b .nil pass0 (pa_cons (pv 0) (pa_cons pe_int pa_nil))))
   (pss_cons (ps_set (i:=5) scWb.nd rfl (Or.inl rfl) (pe_lst pa_nil))
   (pss_cons (ps_for PassesOwn.never rfl (pi_range1 rfl T.range (pa_cons (pe_call G h1 rfl D.mgf D.fn.kp D.b .nil pass0 (pa_cons (pv 0) (pa_cons pe_int pa_nil))) pa_nil)) (pg_name (i:=3) scWb.nd rfl (Or.inl rfl))
    (pss_cons (ps_set (i:=6) scWb.nd rfl (Or.inl rfl) (pe_call G h1 rfl D.mgf D.fn.kp D.b .nil pass0 (pa_cons (pv 0) (pa_cons (pe_callB call_len_seq (by rfl) T.len PySem.boot_len (pa_cons (pv 2) pa_nil)) pa_nil))))
    (pss_cons (ps_set (i:=7) scWb.nd rfl (Or.inl rfl) (pe_call G h1 rfl D.mgf D.fn.kp D.b .nil pass0 (pa_cons (pv 0) (pa_cons (pe_callB call_len_seq (by rfl) T.len PySem.boot_len (pa_cons (pv 2) pa_nil)) pa_nil))))
    (pss_cons (ps_if (PW.pt (pw_and (pt_cmpR op_gt (pv 4) pe_int (nomark _)) (pw_and (pt_cmpR op_gt (pv 6) (pv 7) (nomark _)) (pw_and1 (pt_cmpR op_gt (pe_call G h1 rfl D.mgf D.fn.kp D.b .nil pass0 (pa_cons (pv 0) (pa_cons (pe_op op_mul pe_int (pv 4)) pa_nil))) pe_int (nomark _))))))
     (pss_one (ps_par rfl scWb.nd rfl rfl (i:=6) (j:=7) (by decide) rfl rfl (pa_cons (pv 7) (pa_cons (pv 6) pa_nil)) rfl)) pss_nil)
    (pss_one (ps_expr (pe_bm PySem.F.plainAttrs_list PySem.F.slot_list_append PySem.F.type_list_append mt_append (pv 5) (pa_cons (pe_tup (pa_cons (pe_ix ix_list (pv 2) (pv 6) (fun _ _=>rfl)) (pa_cons (pe_ix ix_list (pv 2) (pv 7) (fun _ _=>rfl)) pa_nil))) pa_nil)))))))
    )
   (pss_one (ps_ret (pe_tup (pa_cons (pv 2) (pa_cons (pv 5) pa_nil))))))))),?_⟩
  refine ⟨(by decide),fun q hq=>?_⟩
  have npq:p≠q:=ne_of_none hp.lst.choose_spec hq
  refine ⟨_,rfl,_,rfl,p,12,rfl,hp.upd_ne npq,by decide,by decide,fun d1 H1 d1a d1b hp1 b1=>?_⟩
  refine ⟨_,_,rfl,rfl,_,rfl,by omega,by omega,?_⟩
  have b1':But p H H1:=fun c o e n=>b1 c o (by rw [L2.upd_ne (ne_of_none e hq)];exact e) n
  refine for_range (WI1 p q H) ⟨_,[],rfl,hp1,b1',b1 _ _ upd_same (Ne.symm npq),rfl,(fun _ z=>nomatch z),List.nodup_nil⟩ ?_ ?_
  ·rintro i σ H2 hi ⟨v3,ns,rfl,hp2,b2,hq2,hl,hn,nd⟩
   refine ⟨_,rfl,.inl ⟨rfl,_,SqL.of hq2⟩,_,rfl,_,rfl,p,q,ns,rfl,hp2,hq2,by omega,fun z H3 hz nz hp3 b3=>?_⟩
   have hq3:=b3 _ _ hq2 (Ne.symm npq)
   refine ⟨q,_,_,rfl,rfl,hq3,(by rw [List.length_map,hl];exact small1000 (by omega)),?_⟩
   refine ⟨_,ns++[z],rfl,hp3.upd_ne npq,(b2.trans b3).upd_new hq,?_,by simp [hl],?_,?_⟩
   ·rw [upd_same];simp
   ·intro y hy
    rcases List.mem_append.mp hy with h | h
    ·exact hn y h
    ·rw [List.mem_singleton.mp h];exact hz
   ·exact nd_snoc nd nz
  ·rintro σ H2 ⟨v3,ns,rfl,hp2,b2,hq2,hl,hn,nd⟩
   refine ⟨_,rfl,p,4,rfl,hp2,by decide,by decide,fun bent H3 _ bnt hp3 b3=>?_⟩
   have hq3:=b3 _ _ hq2 (Ne.symm npq)
   have b03:=b2.trans b3
   refine ⟨(by decide),fun b hb=>?_⟩
   have nqb:q≠b:=ne_of_none hq3 hb
   have npb:p≠b:=ne_of_none hp3.lst.choose_spec hb
   have Hb:H b=none:=by
    cases e:H b with
    | none=>rfl
    | some o=>exact absurd (b03 _ _ e (Ne.symm npb)) (by rw [hb];intro z;cases z)
   have good:GoodP ns:=⟨by omega,by omega,hn,nd⟩
   refine ⟨_,rfl,p,31,rfl,hp3.upd_ne npb,by decide,by decide,fun d2 H4 d2a d2b hp4 b4=>?_⟩
   have b04:But p H H4:=fun c o e n=>b4 c o (by rw [L2.upd_ne (ne_of_none e Hb)];exact b03 c o e n) n
   have hq4:=b4 q _ (by rw [L2.upd_ne nqb];exact hq3) (Ne.symm npq)
   have hb4:=b4 b _ upd_same (Ne.symm npb)
   refine ⟨_,rfl,by omega,by omega,?_⟩
   refine for_range (WI2 p q b H ns bent) ⟨_,_,_,[],[],rfl,hp4,b04,⟨hq4,hb4,.nil,good,(fun _ z=>nomatch z),by decide⟩,rfl⟩ ?_ ?_
   ·rintro i σ H5 hi ⟨v3,v6,v7,ps,ts,rfl,hp5,b5,L5,hl5⟩
    have hlen:((ns.map V.str).length:Int)=ns.length:=by rw [List.length_map]
    have lpos:(0:Int) < ns.length:=by have:=good.one;omega
    have lbig:(ns.length:Int) < 2 ^ 64:=by have:=good.few;omega
    refine ⟨_,rfl,_,rfl,q,_,rfl,.inl (SqL.of L5.ha),p,_,rfl,hp5,by rw [hlen];exact lpos,by rw [hlen];exact lbig,fun one H6 o1 o2 hp6 b6=>?_⟩
    have L6:=But.lists L5 b6 hp5.lst (Ne.symm npq) (Ne.symm npb)
    refine ⟨_,rfl,_,rfl,q,_,rfl,.inl (SqL.of L6.ha),p,_,rfl,hp6,by rw [hlen];exact lpos,by rw [hlen];exact lbig,fun oth H7 t1 t2 hp7 b7=>?_⟩
    have L7:=But.lists L6 b7 hp6.lst (Ne.symm npq) (Ne.symm npb)
    rw [hlen] at o2 t2
    have b57:But p H H7:=(b5.trans b6).trans b7
    have fin:∀ (D:Ends),D.nx=WI2 p q b H ns bent (i+1)->∀ (x y:Int) (H8:Hp),0<=x->x < ns.length->0<=y->y < ns.length->Row H8 p->But p H H8->Lists H8 q b ns ps ts ->
      tDrop (tBM K "list" rAppend (tVar 5) (tCons (tTup (tCons (tOp (rIxL K) (tVar 2) (tVar 6)) (tCons (tOp (rIxL K) (tVar 2) (tVar 7)) tNil))) tNil)) D
       [some (V.ref p),some (V.int 12),some (V.ref q),some (V.int (0+i)),some (V.int bent),some (V.ref b),some (V.int x),some (V.int y)] H8:=by
     intro D0 hD x y H8 x1 x2 y1 y2 hp8 b8 L8
     obtain ⟨m,rfl⟩:=Int.eq_ofNat_of_zero_le x1
     obtain ⟨n,rfl⟩:=Int.eq_ofNat_of_zero_le y1
     have hm:m < ns.length:=by omega
     have hn':n < ns.length:=by omega
     refine ⟨_,rfl,.inl ⟨rfl,_,SqL.of L8.hb⟩,_,rfl,_,rfl,q,_,_,_,rfl,rfl,SqL.of L8.ha,atI_nat (j:=m) (v:=.str ns[m]) (by simp [hm]),_,rfl,_,rfl,q,_,_,_,rfl,rfl,SqL.of L8.ha,atI_nat (j:=n) (v:=.str ns[n]) (by simp [hn']),(by show 2<=sizeLine;decide),fun t ht=>?_⟩
     have L9:=L8.same (same_upd (o:=.tup [.str ns[m],.str ns[n]]) ht)
     have lts:ts.length=i:=by rw [L8.hT.len,hl5]
     refine ⟨b,_,_,rfl,rfl,L9.hb,(by rw [List.length_map,lts];exact small1000 (by omega)),?_⟩
     rw [hD]
     have npt:p≠t:=ne_of_none hp8.lst.choose_spec ht
     have Ht:H t=none:=by
      cases e:H t with
      | none=>rfl
      | some o=>exact absurd (b8 _ _ e (Ne.symm npt)) (by rw [ht];intro z;cases z)
     refine ⟨_,_,_,ps++[(ns[m],ns[n])],ts++[t],rfl,(hp8.upd_ne npt).upd_ne npb,(b8.upd_new Ht).upd_new Hb,⟨?_,?_,?_,good,?_,?_⟩,by simp [hl5]⟩
     ·rw [L2.upd_ne nqb];exact L9.ha
     ·rw [upd_same];simp
     ·refine TiesAt.snoc (L9.hT.mono fun t' xs e=>?_) ?_
      ·rw [L2.upd_ne (ne_of e L9.hb (by intro z;cases z))];exact e
      ·rw [L2.upd_ne (ne_of upd_same L9.hb (by intro z;cases z))];exact upd_same
     ·intro z hz
      rcases List.mem_append.mp hz with h | h
      ·exact L8.ins z h
      ·rw [List.mem_singleton.mp h];exact ⟨List.getElem_mem hm,List.getElem_mem hn'⟩
     ·rw [List.length_append,hl5];simp;omega
    refine ⟨_,rfl,_,_,rfl,rfl,_,rfl,?_⟩
    refine ite2 (fun hb1=>?_) (fun _=>fin _ rfl one oth H7 o1 o2 t1 t2 hp7 b57 L7)
    refine ⟨_,rfl,_,rfl,_,_,rfl,rfl,_,rfl,?_⟩
    refine ite2 (fun hb2=>?_) (fun _=>fin _ rfl one oth H7 o1 o2 t1 t2 hp7 b57 L7)
    have bpos:0 < bent:=by simpa using hb1
    refine ⟨_,rfl,_,rfl,_,_,rfl,rfl,.inl ⟨by decide,by decide⟩,p,_,rfl,hp7,by omega,by omega,fun d3 H8 _ _ hp8 b8=>?_⟩
    have L8:=But.lists L7 b8 hp7.lst (Ne.symm npq) (Ne.symm npb)
    refine ⟨_,_,rfl,rfl,_,rfl,?_⟩
    refine ite2 (fun _=>?_) (fun _=>fin _ rfl one oth H8 o1 o2 t1 t2 hp8 (b57.trans b8) L8)
    exact ⟨_,rfl,_,rfl,_,_,rfl,fin _ rfl oth one H8 t1 t2 o1 o2 hp8 (b57.trans b8) L8⟩
   ·rintro σ H5 ⟨v3,v6,v7,ps,ts,rfl,hp5,b5,L5,hl5⟩
    refine ⟨_,rfl,_,rfl,(by show 2<=sizeLine;decide),fun t ht=>?_⟩
    have npt:p≠t:=ne_of_none hp5.lst.choose_spec ht
    have Ht:H t=none:=by
     cases e:H t with
     | none=>rfl
     | some o=>exact absurd (b5 _ _ e (Ne.symm npt)) (by rw [ht];intro z;cases z)
    exact k t q b ns ps ts _ (L5.same (same_upd ht)) upd_same hq Hb Ht nqb (hp5.upd_ne npt) (b5.upd_new Ht)
end
end K91
namespace L8
open PySem PySem.Spec PyProof.Rows L2
def DK (h h':Heap):Prop:=∀ b o vs,h.get? b=some o->o.data=.fields vs->∃ o' vs',h'.get? b=some o'/\o'.data=.fields vs'/\vs'[2]?=vs[2]?
theorem DK.refl (h:Heap):DK h h:=fun b o vs e d=>⟨o,vs,e,d,rfl⟩
theorem DK.trans {h h1 h2:Heap} (a:DK h h1) (b:DK h1 h2):DK h h2:=fun c o vs e d=>by
 obtain ⟨o1,v1,e1,d1,f1⟩:=a c o vs e d
 obtain ⟨o2,v2,e2,d2,f2⟩:=b c o1 v1 e1 d1
 exact ⟨o2,v2,e2,d2,f2.trans f1⟩
def KpD (f:Obj->Obj):Prop:=∀ o vs,o.data=.fields vs->∃ vs',(f o).data=.fields vs'/\vs'[2]?=vs[2]?
theorem DK.update {h:Heap} {a:Addr} {f:Obj->Obj} (k:KpD f):DK h (h.update a f):=fun b o vs e d=>by
 by_cases q:b=a
 ·subst q
  obtain ⟨vs',d',f'⟩:=k o vs d
  exact ⟨f o,vs',Heap.get?_update_self f e (Obj.isFreed_of_fields d'),d',f'⟩
 ·exact ⟨o,vs,(Heap.get?_update_other _ _ (Ne.symm q)).trans e,d,rfl⟩
inductive KD:{α:Type}->Sem α->Prop where
 | pure {α:Type} (a:α):KD (.pure a)
 | raise {α:Type} (e:Value):KD (.raise e:Sem α)
 | uns {α:Type} (w:String):KD (.unsupported w:Sem α)
 | rule {α:Type} {t:String} {k:Unit->Sem α} (h:∀ u,KD (k u)):KD (.rule t k)
 | at {α:Type} {p:Pos} {k:Unit->Sem α} (h:∀ u,KD (k u)):KD (.at p k)
 | load {α:Type} {a:Addr} {p:Option Value} {k:Obj->Sem α} (h:∀ u,KD (k u)):KD (.load a p k)
 | update {α:Type} {a:Addr} {p:Option Value} {f:Obj->Obj} {k:Unit->Sem α} (g:KpD f) (h:∀ u,KD (k u)):KD (.update a p f k)
 | alloc {α:Type} {o:Obj} {k:Addr->Sem α} (h:∀ u,KD (k u)):KD (.alloc o k)
 | point {α:Type} {l:List Value} {k:Unit->Sem α} (h:∀ u,KD (k u)):KD (.point l k)
 | ask {α:Type} {k:Setting->Sem α} (h:∀ u,KD (k u)):KD (.ask k)
 | stack {α:Type} {k:List (Code × Pos)->Sem α} (h:∀ u,KD (k u)):KD (.stack k)
theorem KD.bind {α β:Type} {t:Sem α} {f:α->Sem β} (h:KD t) (g:∀ a,KD (f a)):KD (t >>= f):=by
 show KD (Sem.bind t f)
 induction h with
 | pure a=>exact g a
 | raise e=>exact .raise e
 | uns w=>exact .uns w
 | rule _ ih=>exact .rule fun u=>ih u
 | «at» _ ih=>exact .at fun u=>ih u
 | load _ ih=>exact .load fun u=>ih u
 | update k _ ih=>exact .update k fun u=>ih u
 | alloc _ ih=>exact .alloc fun u=>ih u
 | point _ ih=>exact .point fun u=>ih u
 | ask _ ih=>exact .ask fun u=>ih u
 | stack _ ih=>exact .stack fun u=>ih u
theorem KD.wp {α:Type} {M:Model} {Γ:PySem.Ctx} {t:Sem α} (h:KD t):∀ {Q:α->Pos->Shared->Prop} {E:Value->Pos->Shared->Prop} {p:Pos} {s:Shared},Sem.wp M Γ t Q E p s->Sem.wp M Γ t (fun a p s'=>Q a p s'/\DK s.heap s'.heap) (fun e p s'=>E e p s'/\DK s.heap s'.heap) p s:=by
 induction h with
 | pure a=>intro Q E p s q;exact ⟨q,DK.refl _⟩
 | raise e=>intro Q E p s q;exact ⟨q,DK.refl _⟩
 | uns w=>intro Q E p s q;exact q
 | rule _ ih=>intro Q E p s q;exact ih () q
 | «at» _ ih=>intro Q E p s q;exact ih () q
 | load _ ih=>intro Q E p s q;obtain ⟨o,e,q⟩:=q;exact ⟨o,e,ih o q⟩
 | @update a pt f k g _ ih =>
  intro Q E p s q
  obtain ⟨e,q⟩:=q
  refine ⟨e,Sem.wp_mono M Γ _ (fun x p' s' z=>⟨z.1,DK.trans (DK.update g) z.2⟩) (fun x p' s' z=>⟨z.1,DK.trans (DK.update g) z.2⟩) _ _ (ih () q)⟩
 | @alloc o k _ ih =>
  intro Q E p s q
  have dk:DK s.heap (s.heap.push o):=fun b o' vs e d=>⟨o',vs,Heap.get?_push_of_some _ e,d,rfl⟩
  exact Sem.wp_mono M Γ _ (fun x p' s' z=>⟨z.1,DK.trans dk z.2⟩) (fun x p' s' z=>⟨z.1,DK.trans dk z.2⟩) _ _ (ih _ q)
 | point _ ih=>intro Q E p s q;exact ih () q
 | ask _ ih=>intro Q E p s q;exact ih _ q
 | stack _ ih=>intro Q E p s q;exact ih _ q
theorem KD.any {α:Type} {M:Model} {A:Around} {t:Sem α} {Q:α->Shared->Prop} {E:Value->Shared->Prop} {s:Shared} (h:KD t) (q:wpAny M A t Q E s):wpAny M A t (fun a s'=>Q a s'/\DK s.heap s'.heap) (fun e s'=>E e s'/\DK s.heap s'.heap) s :=
 fun Γ p hΓ=>h.wp (q Γ p hΓ)
theorem kpd_fields {i:Nat} {x:Value} (hi:i≠2):KpD (Obj.mapFields (·.setIfInBounds i x)):=fun o vs d=>⟨_,Obj.data_mapFields d _,by rw [Array.getElem?_setIfInBounds_ne hi]⟩
theorem kpd_slots (g:Obj->Array (Option Value)):KpD (fun o=>{ o with slots:=g o }):=fun o vs d=>⟨vs,d,rfl⟩
theorem kd_load (a:Addr):KD (load a):=.load fun u=>.pure u
theorem kd_stack:KD stack:=.stack fun u=>.pure u
theorem kd_fieldsOf (v:Value):KD (fieldsOf v):=by
 unfold fieldsOf
 split
 ·refine (kd_load _).bind fun o=>?_
  split
  ·exact .pure _
  ·exact .uns _
 ·exact .uns _
theorem kd_field (v:Value) (i:Nat):KD (field v i):=by
 unfold field
 refine (kd_fieldsOf v).bind fun vs=>?_
 split
 ·exact .pure _
 ·exact .uns _
theorem kd_setField (v:Value) (i:Nat) (x:Value) (hi:i≠2:=by decide):KD (setField v i x):=by
 unfold setField
 split
 ·unfold updateField
  refine (kd_load _).bind fun o=>?_
  split
  ·split
   ·exact .update (kpd_fields hi) fun u=>.pure u
   ·exact .uns _
  ·exact .uns _
 ·exact .uns _
theorem kd_setFlight (e:Value) (f:Option Addr):KD (setFlight e f):=by
 unfold setFlight
 refine (kd_field _ _).bind fun tb=>?_
 split
 ·exact kd_setField _ _ _
 ·exact .pure _
theorem kd_frameEnvs:KD frameEnvs:=by
 unfold frameEnvs
 exact kd_stack.bind fun u=>.pure _
theorem kd_under:KD underTheClaimsCaller:=by
 unfold underTheClaimsCaller
 exact kd_stack.bind fun u=>.pure _
theorem kd_behind (env:Env) (outer:List Env):KD (behindIsImport env outer):=by
 unfold behindIsImport
 split
 ·exact .pure _
 ·split
  ·exact .pure _
  ·exact (kd_field _ _).bind fun v=>.pure _
theorem kd_kept (env:Env) (i:Bool) (l:List Env):KD (keptBack env i l):=by
 unfold keptBack
 split
 ·split
  ·exact .pure _
  ·exact kd_under.bind fun b=>.pure _
 ·exact .pure _
theorem kd_ready:∀ l:List Env,KD (readyFrames l)
 | []=>.pure _
 | env::outer=>by
  unfold readyFrames
  split
  ·refine (kd_load _).bind fun o=>?_
   split
   ·exact .pure _
   ·refine (kd_behind _ _).bind fun i=>(kd_kept _ _ _).bind fun b=>?_
    exact KD.bind (.update (kpd_slots _) fun u=>.pure u) fun _=>kd_ready outer
  ·exact .uns _
theorem kd_frameObject (l:List Env):KD (frameObject l):=by
 unfold frameObject
 split
 ·exact .pure _
 ·exact (kd_ready _).bind fun _=>.pure _
theorem kd_frameOf (env:Env):KD (PySem.frameOf env):=by
 unfold PySem.frameOf
 refine kd_frameEnvs.bind fun l=>(kd_frameObject _).bind fun f=>?_
 split
 ·exact .pure _
 ·exact .uns _
theorem kd_place (f:Addr) (b:Bool):KD (entryPlaceOf f b):=by
 unfold entryPlaceOf
 refine kd_stack.bind fun acts=>?_
 split<;>exact .pure _
theorem kd_fieldsNew (vs:List Value):KD (newFields "traceback" vs):=by
 unfold newFields newObj
 dsimp only
 split
 ·exact KD.bind (.uns _) fun _=>KD.bind (.alloc fun u=>.pure u) fun a=>.pure _
 ·exact KD.bind (.alloc fun u=>.pure u) fun a=>.pure _
theorem kd_newEntry (a b c d e:Value) (l:List Value):KD (EntryCells.newEntry a b c d e l):=kd_fieldsNew _
theorem kd_note (e:Value) (env:Env):KD (noteFrame e env):=by
 unfold noteFrame
 split
 ·refine (kd_field _ _).bind fun hd=>?_
  have tail:KD (do let a <- PySem.frameOf env;let pl <- entryPlaceOf ‹Addr› (hd != .none);let b <- EntryCells.newEntry hd a .none (rawInt ‹Addr›) .none pl;setField e 1 b) :=
   (kd_frameOf _).bind fun a=>(kd_place _ _).bind fun pl=>(kd_newEntry _ _ _ _ _ _).bind fun b=>kd_setField _ _ _
  split
  ·refine (kd_field _ _).bind fun x=>?_
   split
   ·exact .pure _
   ·exact (kd_setField _ _ _).bind fun _=>tail
  ·exact tail
 ·exact .uns _
theorem kd_leaving (env:Env) (e:Value):KD (leaving env e):=by
 unfold leaving
 exact (kd_note _ _).bind fun _=>kd_setFlight _ _
def HasF (h:Heap) (a:Addr):Prop:=∃ o vs,h.get? a=some o/\o.data=.fields vs/\vs[2]?=some .none
theorem HasF.by {h h':Heap} {a:Addr} (x:HasF h a) (k:DK h h'):HasF h' a:=by
 obtain ⟨o,vs,e,d,f⟩:=x
 obtain ⟨o',vs',e',d',f'⟩:=k a o vs e d
 exact ⟨o',vs',e',d',f'.trans f⟩
theorem entry_unchain:entryFor table "proto.unchain" = some Builtin.«proto.unchain»:=entryFor_of_tree (by kernel_rfl)
abbrev exObj (C t:Addr) (c d:Value) (b:Bool):Obj:={ cls:=.ref C,data:=.fields #[.ref t,.none,c,d,.bool b,.none] }
section
variable {prog:Program} {w:World} {A:Around} {E:Value->Shared->Prop} {env:Env}
variable {nm q:Str} {C N:Addr} {bs bm bmB:List Value} {hdct:Bool} {sn:List Str} {sub:List Value} {ab:Bool} {col:Option Bool} {dd:Option Addr} {k0 k1 k2 k3 k5:Option Value} {B newId initId:String}
theorem raiseNew_in {α:Type} {e a t:Addr} {s:Shared} {Q:α->Shared->Prop} (hh:A.handled=some (.ref a)) (hne:e≠a) (he:s.heap.get? e=some (exObj C t .none .none true)) (ha:HasF s.heap a)
  (hE:∀ h',h'.get? e=some (exObj C t (.ref a) .none true)->Heap.SameBut e s.heap h'->E (.ref e) { s with heap:=h' }):wpAny (model prog w) A (raiseNew (.ref e):Sem α) Q E s:=by
 obtain ⟨oa,va,ho,hd,h2⟩:=ha
 unfold raiseNew
 refine wpAny_bind (wpAny_handled ?_)
 rw [hh]
 dsimp only
 rw [if_pos (show (Value.ref a != Value.ref e)=true by simp [Ne.symm hne])]
 refine wpAny_bind (wpAny_holding (wpAny_runValue (codeAny_builtin entry_unchain ?_)))
 unfold Builtin.«proto.unchain»
 refine wpAny_bind (wpAny_field ho hd h2 ?_)
 rw [if_pos (by rfl)]
 refine wpAny_pure ?_
 refine wpAny_bind ?_
 show wpAny _ _ (setField (.ref e) 2 (.ref a)) _ _ _
 exact wpAny_setField_rec he (show 2 < 6 by decide) fun h' e1 sb=>wpAny_throw (hE h' e1 sb)
theorem raise_from {s:Shared} {x c:Sem Value} {a:Addr} {Q:Flow->Shared->Prop} (hbase:bm.contains (.type "BaseException")=true) (hh:A.handled=some (.ref a))
  (hx:wpAny (model prog w) A x (fun v s₁=>∃ e t,v=.ref e/\e≠a/\s₁.heap.get? C=some (excClassObj nm q C N bs bm hdct sn sub ab col dd k0 k1 k2 k3 k5 newId)/\C≠e/\s₁.heap.get? e=some (exObj C t .none .none false)/\HasF s₁.heap a /\
   wpAny (model prog w) A c (fun cv s₂=>cv=.none/\s₂.heap=s₁.heap/\∀ h',h'.get? e=some (exObj C t (.ref a) .none true)->Heap.SameBut e s₂.heap h'->E (.ref e) { s₂ with heap:=h' }) E s₁) E s) :
  wpAny (model prog w) A (raiseStmt env (some x) (some c)) Q E s:=by
 have hcB:(Value.ref C::bm).contains (.type "BaseException")=true:=by rw [List.contains_cons,hbase,Bool.or_true]
 unfold raiseStmt
 refine wpAny_bind (wpAny_mono hx (fun v s₁ h₁=>?_) fun _ _ x=>x)
 obtain ⟨e,t,rfl,hne,hC,hCe,he,ha,hc⟩:=h₁
 refine wpAny_bind (wpAny_holding (wpAny_mono hc (fun cv s₂ h₂=>?_) fun _ _ x=>x))
 obtain ⟨rfl,hs,hE⟩:=h₂
 obtain ⟨hp,g,d,tk,os⟩:=s₂
 obtain rfl:hp=s₁.heap:=hs
 refine wpAny_bind (wpAny_pure ?_)
 refine wpAny_bind (wpAny_holding ?_)
 unfold excFromValue
 repeat (first | with_reducible refine wpAny_loadPart_at he ?_ | with_reducible refine wpAny_loadPart_at hC ?_ | (with_reducible refine wpAny_isSubtype_exc hC ?_;rw [hcB]) | wp_step)
 have u1:=Heap.get?_update_self (Obj.mapFields fun x=>x.setIfInBounds 3 Value.none) he rfl
 have u2:=Heap.get?_update_self (Obj.mapFields fun x=>x.setIfInBounds 4 (Value.bool true)) u1 rfl
 have ot:∀ b,b≠e->((s₁.heap.update e (Obj.mapFields fun x=>x.setIfInBounds 3 Value.none)).update e (Obj.mapFields fun x=>x.setIfInBounds 4 (Value.bool true))).get? b=s₁.heap.get? b:=fun b hb =>
  (Heap.get?_update_other _ _ (Ne.symm hb)).trans (Heap.get?_update_other _ _ (Ne.symm hb))
 have sb0:Heap.SameBut e s₁.heap ((s₁.heap.update e (Obj.mapFields fun x=>x.setIfInBounds 3 Value.none)).update e (Obj.mapFields fun x=>x.setIfInBounds 4 (Value.bool true))):=(Heap.SameBut.update ..).trans (Heap.SameBut.update ..)
 refine raiseNew_in (C:=C) (t:=t) hh hne u2 ?_ fun h' e1 sb=>hE h' e1 (sb0.trans sb)
 obtain ⟨oa,va,ho,hd,h2⟩:=ha
 exact ⟨oa,va,(ot a (Ne.symm hne)).trans ho,hd,h2⟩
end
end L8
namespace L6
open PySem PySem.Spec PyProof.Rows L2
def DK (h h':Heap):Prop:=∀ b o,h.get? b=some o->∃ o',h'.get? b=some o'/\o'.dict=o.dict
theorem DK.refl (h:Heap):DK h h:=fun b o e=>⟨o,e,rfl⟩
theorem DK.trans {h h1 h2:Heap} (a:DK h h1) (b:DK h1 h2):DK h h2:=fun c o e=>by
 obtain ⟨o1,e1,d1⟩:=a c o e
 obtain ⟨o2,e2,d2⟩:=b c o1 e1
 exact ⟨o2,e2,d2.trans d1⟩
def KpD (f:Obj->Obj):Prop:=∀ o,(f o).dict=o.dict/\(o.isFreed=false->(f o).isFreed=false)
theorem alive {h:Heap} {b:Addr} {o:Obj} (e:h.get? b=some o):o.isFreed=false:=(Heap.get?_some_iff.mp e).2
theorem DK.update {h:Heap} {a:Addr} {f:Obj->Obj} (k:KpD f):DK h (h.update a f):=fun b o e=>by
 by_cases q:b=a
 ·subst q
  exact ⟨f o,Heap.get?_update_self f e ((k o).2 (alive e)),(k o).1⟩
 ·exact ⟨o,(Heap.get?_update_other _ _ (Ne.symm q)).trans e,rfl⟩
inductive KD:{α:Type}->Sem α->Prop where
 | pure {α:Type} (a:α):KD (.pure a)
 | raise {α:Type} (e:Value):KD (.raise e:Sem α)
 | uns {α:Type} (w:String):KD (.unsupported w:Sem α)
 | rule {α:Type} {t:String} {k:Unit->Sem α} (h:∀ u,KD (k u)):KD (.rule t k)
 | at {α:Type} {p:Pos} {k:Unit->Sem α} (h:∀ u,KD (k u)):KD (.at p k)
 | load {α:Type} {a:Addr} {p:Option Value} {k:Obj->Sem α} (h:∀ u,KD (k u)):KD (.load a p k)
 | update {α:Type} {a:Addr} {p:Option Value} {f:Obj->Obj} {k:Unit->Sem α} (g:KpD f) (h:∀ u,KD (k u)):KD (.update a p f k)
 | alloc {α:Type} {o:Obj} {k:Addr->Sem α} (h:∀ u,KD (k u)):KD (.alloc o k)
 | point {α:Type} {l:List Value} {k:Unit->Sem α} (h:∀ u,KD (k u)):KD (.point l k)
 | ask {α:Type} {k:Setting->Sem α} (h:∀ u,KD (k u)):KD (.ask k)
 | stack {α:Type} {k:List (Code × Pos)->Sem α} (h:∀ u,KD (k u)):KD (.stack k)
theorem KD.bind {α β:Type} {t:Sem α} {f:α->Sem β} (h:KD t) (g:∀ a,KD (f a)):KD (t >>= f):=by
 show KD (Sem.bind t f)
 induction h with
 | pure a=>exact g a
 | raise e=>exact .raise e
 | uns w=>exact .uns w
 | rule _ ih=>exact .rule fun u=>ih u
 | «at» _ ih=>exact .at fun u=>ih u
 | load _ ih=>exact .load fun u=>ih u
 | update k _ ih=>exact .update k fun u=>ih u
 | alloc _ ih=>exact .alloc fun u=>ih u
 | point _ ih=>exact .point fun u=>ih u
 | ask _ ih=>exact .ask fun u=>ih u
 | stack _ ih=>exact .stack fun u=>ih u
theorem KD.wp {α:Type} {M:Model} {Γ:PySem.Ctx} {t:Sem α} (h:KD t):∀ {Q:α->Pos->Shared->Prop} {E:Value->Pos->Shared->Prop} {p:Pos} {s:Shared},Sem.wp M Γ t Q E p s->Sem.wp M Γ t (fun a p s'=>Q a p s'/\DK s.heap s'.heap) (fun e p s'=>E e p s'/\DK s.heap s'.heap) p s:=by
 induction h with
 | pure a=>intro Q E p s q;exact ⟨q,DK.refl _⟩
 | raise e=>intro Q E p s q;exact ⟨q,DK.refl _⟩
 | uns w=>intro Q E p s q;exact q
 | rule _ ih=>intro Q E p s q;exact ih () q
 | «at» _ ih=>intro Q E p s q;exact ih () q
 | load _ ih=>intro Q E p s q;obtain ⟨o,e,q⟩:=q;exact ⟨o,e,ih o q⟩
 | @update a pt f k g _ ih =>
  intro Q E p s q
  obtain ⟨e,q⟩:=q
  refine ⟨e,Sem.wp_mono M Γ _ (fun x p' s' z=>⟨z.1,DK.trans (DK.update g) z.2⟩) (fun x p' s' z=>⟨z.1,DK.trans (DK.update g) z.2⟩) _ _ (ih () q)⟩
 | @alloc o k _ ih =>
  intro Q E p s q
  have dk:DK s.heap (s.heap.push o):=fun b o' e=>⟨o',Heap.get?_push_of_some _ e,rfl⟩
  exact Sem.wp_mono M Γ _ (fun x p' s' z=>⟨z.1,DK.trans dk z.2⟩) (fun x p' s' z=>⟨z.1,DK.trans dk z.2⟩) _ _ (ih _ q)
 | point _ ih=>intro Q E p s q;exact ih () q
 | ask _ ih=>intro Q E p s q;exact ih _ q
 | stack _ ih=>intro Q E p s q;exact ih _ q
theorem KD.any {α:Type} {M:Model} {A:Around} {t:Sem α} {Q:α->Shared->Prop} {E:Value->Shared->Prop} {s:Shared} (h:KD t) (q:wpAny M A t Q E s):wpAny M A t (fun a s'=>Q a s'/\DK s.heap s'.heap) (fun e s'=>E e s'/\DK s.heap s'.heap) s :=
 fun Γ p hΓ=>h.wp (q Γ p hΓ)
theorem kpd_fields (g:Array Value->Array Value):KpD (Obj.mapFields g):=fun o=>by
 obtain ⟨c,d,dt,sl⟩:=o
 cases dt<;>exact ⟨rfl,fun h=>h⟩
theorem kpd_slots (g:Obj->Array (Option Value)):KpD (fun o=>{ o with slots:=g o }):=fun o=>by
 obtain ⟨c,d,dt,sl⟩:=o
 cases dt<;>exact ⟨rfl,fun h=>h⟩
theorem kd_load (a:Addr):KD (load a):=.load fun u=>.pure u
theorem kd_stack:KD stack:=.stack fun u=>.pure u
theorem kd_fieldsOf (v:Value):KD (fieldsOf v):=by
 unfold fieldsOf
 split
 ·refine (kd_load _).bind fun o=>?_
  split
  ·exact .pure _
  ·exact .uns _
 ·exact .uns _
theorem kd_field (v:Value) (i:Nat):KD (field v i):=by
 unfold field
 refine (kd_fieldsOf v).bind fun vs=>?_
 split
 ·exact .pure _
 ·exact .uns _
theorem kd_setField (v:Value) (i:Nat) (x:Value):KD (setField v i x):=by
 unfold setField
 split
 ·unfold updateField
  refine (kd_load _).bind fun o=>?_
  split
  ·split
   ·exact .update (kpd_fields _) fun u=>.pure u
   ·exact .uns _
  ·exact .uns _
 ·exact .uns _
theorem kd_setFlight (e:Value) (f:Option Addr):KD (setFlight e f):=by
 unfold setFlight
 refine (kd_field _ _).bind fun tb=>?_
 split
 ·exact kd_setField _ _ _
 ·exact .pure _
theorem kd_frameEnvs:KD frameEnvs:=by
 unfold frameEnvs
 exact kd_stack.bind fun u=>.pure _
theorem kd_under:KD underTheClaimsCaller:=by
 unfold underTheClaimsCaller
 exact kd_stack.bind fun u=>.pure _
theorem kd_behind (env:Env) (outer:List Env):KD (behindIsImport env outer):=by
 unfold behindIsImport
 split
 ·exact .pure _
 ·split
  ·exact .pure _
  ·exact (kd_field _ _).bind fun v=>.pure _
theorem kd_kept (env:Env) (i:Bool) (l:List Env):KD (keptBack env i l):=by
 unfold keptBack
 split
 ·split
  ·exact .pure _
  ·exact kd_under.bind fun b=>.pure _
 ·exact .pure _
theorem kd_ready:∀ l:List Env,KD (readyFrames l)
 | []=>.pure _
 | env::outer=>by
  unfold readyFrames
  split
  ·refine (kd_load _).bind fun o=>?_
   split
   ·exact .pure _
   ·refine (kd_behind _ _).bind fun i=>(kd_kept _ _ _).bind fun b=>?_
    exact KD.bind (.update (kpd_slots _) fun u=>.pure u) fun _=>kd_ready outer
  ·exact .uns _
theorem kd_frameObject (l:List Env):KD (frameObject l):=by
 unfold frameObject
 split
 ·exact .pure _
 ·exact (kd_ready _).bind fun _=>.pure _
theorem kd_frameOf (env:Env):KD (PySem.frameOf env):=by
 unfold PySem.frameOf
 refine kd_frameEnvs.bind fun l=>(kd_frameObject _).bind fun f=>?_
 split
 ·exact .pure _
 ·exact .uns _
theorem kd_place (f:Addr) (b:Bool):KD (entryPlaceOf f b):=by
 unfold entryPlaceOf
 refine kd_stack.bind fun acts=>?_
 split<;>exact .pure _
theorem kd_fieldsNew (vs:List Value):KD (newFields "traceback" vs):=by
 unfold newFields newObj
 dsimp only
 split
 ·exact KD.bind (.uns _) fun _=>KD.bind (.alloc fun u=>.pure u) fun a=>.pure _
 ·exact KD.bind (.alloc fun u=>.pure u) fun a=>.pure _
theorem kd_newEntry (a b c d e:Value) (l:List Value):KD (EntryCells.newEntry a b c d e l):=kd_fieldsNew _
theorem kd_note (e:Value) (env:Env):KD (noteFrame e env):=by
 unfold noteFrame
 split
 ·refine (kd_field _ _).bind fun hd=>?_
  have tail:KD (do let a <- PySem.frameOf env;let pl <- entryPlaceOf ‹Addr› (hd != .none);let b <- EntryCells.newEntry hd a .none (rawInt ‹Addr›) .none pl;setField e 1 b) :=
   (kd_frameOf _).bind fun a=>(kd_place _ _).bind fun pl=>(kd_newEntry _ _ _ _ _ _).bind fun b=>kd_setField _ _ _
  split
  ·refine (kd_field _ _).bind fun x=>?_
   split
   ·exact .pure _
   ·exact (kd_setField _ _ _).bind fun _=>tail
  ·exact tail
 ·exact .uns _
theorem kd_leaving (env:Env) (e:Value):KD (leaving env e):=by
 unfold leaving
 exact (kd_note _ _).bind fun _=>kd_setFlight _ _
open PySem PySem.Spec PyProof.Rows L2 Builtin Builtin.ObjectAttr
abbrev newExc (C:Addr) (t:Addr) (d:Option Addr):Obj:={ cls:=.ref C,dict:=d,data:=.fields #[.ref t,.none,.none,.none,.bool false,.none] }
section
variable {prog:Program} {w:World} {A:Around} {E:Value->Shared->Prop} {h:Heap} {g:Array GenState} {d:Drawn} {t:Nat} {os:OsState}
variable {nm q:Str} {C N:Addr} {bs bm bmB:List Value} {hdct:Bool} {sn:List Str} {sub:List Value} {ab:Bool} {col:Option Bool} {dd:Option Addr} {k0 k1 k2 k3 k5:Option Value} {B newId initId:String}
end
section
variable {prog:Program} {w:World} {A:Around} {s:Shared} {K:PySem.W.Frag} {x C fI:Addr}
end
section
variable {X:Cx} {pins:List (Addr × Obj)} {σ:L2.St} {H:Hp} {s:Shared} {a C t fI:Addr} {f:Str} {A:Around} {E:Value->Shared->Prop}
end
section
variable {prog:Program} {w:World} {A:Around} {E:Value->Shared->Prop} {h:Heap} {g:Array GenState} {d:Drawn} {t:Nat} {os:OsState} {K:PySem.W.Frag} {a C:Addr} {o:Obj} {od:Option Obj} {name:Str} {v:Value}
end
section
variable {X:Cx} {pins:List (Addr × Obj)} {σ:L2.St} {H:Hp} {s:Shared} {a C dx:Addr} {fs:List (Str × V)} {f:Str} {v:V} {A:Around} {E:Value->Shared->Prop}
end
section
variable {X:Cx}
end
end L6
namespace L2
open PySem PySem.Spec PyProof.Rows
section
variable {X:Cx}
end
def eqVs:List V->List V->Bool
 | [],[]=>true
 | x::xs,y::ys=>eqV x y && eqVs xs ys
 | _,_=>false
theorem eqVs_len:∀ {xs ys:List V},xs.length≠ys.length->eqVs xs ys=false
 | [],[],h=>absurd rfl h
 | [],_::_,_=>rfl
 | _::_,[],_=>rfl
 | x::xs,y::ys,h=>by
  unfold eqVs
  rw [eqVs_len (by simpa using h),Bool.and_false]
theorem eqVs_all:∀ {xs ys:List V},xs.length=ys.length->eqVs xs ys=(List.range xs.length).all fun j=>eqV (xs.getD j .non) (ys.getD j .non)
 | [],[],_=>rfl
 | [],_::_,h=>by simp at h
 | _::_,[],h=>by simp at h
 | x::xs,y::ys,h=>by
  unfold eqVs
  rw [eqVs_all (by simpa using h),List.length_cons,List.range_succ_eq_map,List.all_cons,List.all_map]
  rfl
theorem eqVs_str:∀ (xs ys:List Str),eqVs (xs.map V.str) (ys.map V.str)=decide (xs=ys)
 | [],[]=>rfl
 | [],_::_=>rfl
 | _::_,[]=>rfl
 | x::xs,y::ys=>by
  rw [List.map_cons,List.map_cons]
  unfold eqVs
  rw [eqVs_str xs ys]
  by_cases h:x=y
  ·subst h
   simp [eqV]
  ·simp [eqV,h]
section
variable {X:Cx} {pins:List (Addr × Obj)} {σ:St} {H:Hp} {s:Shared}
theorem eq_items {xs ys:List V} {A:Around} (fx:xs.all flatV=true) (fy:ys.all flatV=true) {is js:List Value} (ri:Vals xs is) (rj:Vals ys js) :
  ∀ j (h1:j < is.toArray.size) (h2:j < js.toArray.size),SeqAt.EqAt A s is.toArray[j] js.toArray[j] (eqV (xs.getD j .non) (ys.getD j .non)):=fun j h1 h2=>by
 have b1:j < xs.length:=by rw [ri.length];simpa using h1
 have b2:j < ys.length:=by rw [rj.length];simpa using h2
 obtain ⟨u',e1,r1⟩:=ri.get (List.getElem?_eq_getElem b1)
 obtain ⟨v',e2,r2⟩:=rj.get (List.getElem?_eq_getElem b2)
 have c1:is.toArray[j]=u':=by
  rw [List.getElem_toArray]
  have:=List.getElem?_eq_getElem (l:=is) (i:=j) (by simpa using h1)
  rw [this] at e1;exact Option.some.inj e1
 have c2:js.toArray[j]=v':=by
  rw [List.getElem_toArray]
  have:=List.getElem?_eq_getElem (l:=js) (i:=j) (by simpa using h2)
  rw [this] at e2;exact Option.some.inj e2
 have d1:xs.getD j .non=xs[j]:=by simp [List.getD,List.getElem?_eq_getElem b1]
 have d2:ys.getD j .non=ys[j]:=by simp [List.getD,List.getElem?_eq_getElem b2]
 rw [c1,c2,d1,d2]
 exact eqAt_V r1 r2 (List.all_eq_true.mp fx _ (List.getElem_mem b1)) (List.all_eq_true.mp fy _ (List.getElem_mem b2))
end
section
variable {X:Cx}
def rEqF (K:PySem.W.Frag) (neg:Bool):R2:=fun x y H Q=>∃ p q xs ys,x=.ref p/\y=.ref q/\((SqL K H p xs/\SqL K H q ys)\/(SqT K H p xs/\SqT K H q ys))/\xs.all flatV=true/\ys.all flatV=true/\Q (.bl (if neg then !eqVs xs ys else eqVs xs ys)) H
theorem min_eq' {a b:Nat} (h:a=b):min a b=a:=by omega
theorem op_eq_flat (hu:X.A.units+1 < cLine):OpR X (compareOp .Eq) (rEqF X.K false):=by
 intro pins s σ H x y v u Q I rx ry h
 obtain ⟨p,q,xs,ys,rfl,rfl,h,fx,fy,fin⟩:=h
 cases rx
 cases ry
 rcases h with ⟨hp,hq⟩ | ⟨hp,hq⟩
 ·obtain ⟨is,ri,pi,_⟩:=I.list hp
  obtain ⟨js,rj,pj,_⟩:=I.list hq
  by_cases el:xs.length=ys.length
  ·refine SeqAt.eq_listAt pi.isList pj.isList (by simp only [List.size_toArray];rw [<- ri.length,<- rj.length];exact el) (by omega) (eq_items fx fy ri rj) ?_
   refine fin_bl I fin ?_
   rw [List.size_toArray,<- ri.length]
   exact eqVs_all el
  ·refine SeqAt.eq_list_lengthsAt pi.isList pj.isList ?_ (by omega) (fin_bl I fin ?_)
   ·simp only [List.size_toArray,bne_iff_ne]
    rw [<- ri.length,<- rj.length]
    exact el
   ·exact eqVs_len el
 ·obtain ⟨is,ri,pi,_⟩:=I.tuple hp
  obtain ⟨js,rj,pj,_⟩:=I.tuple hq
  refine SeqAt.eq_tupleAt pi pj (by omega) (eq_items fx fy ri rj) ?_
  refine fin_bl I fin ?_
  simp only [List.size_toArray]
  rw [<- ri.length,<- rj.length]
  by_cases el:xs.length=ys.length
  ·rw [min_eq' el,<- eqVs_all el]
   simp [el]
  ·have:(xs.length == ys.length)=false:=by simpa using el
   rw [this,Bool.and_false]
   exact eqVs_len el
theorem op_ne_flat (hu:X.A.units+1 < cLine):OpR X (compareOp .NotEq) (rEqF X.K true):=by
 intro pins s σ H x y v u Q I rx ry h
 obtain ⟨p,q,xs,ys,rfl,rfl,h,fx,fy,fin⟩:=h
 cases rx
 cases ry
 rcases h with ⟨hp,hq⟩ | ⟨hp,hq⟩
 ·obtain ⟨is,ri,pi,_⟩:=I.list hp
  obtain ⟨js,rj,pj,_⟩:=I.list hq
  by_cases el:xs.length=ys.length
  ·refine PySem.EqBoolInt.of_rcne (SeqAt.RcNeAt.lists pi.isList pj.isList (by simp only [List.size_toArray];rw [<- ri.length,<- rj.length];exact el) (by omega) (eq_items fx fy ri rj)) ?_
   refine fin_bl I fin ?_
   rw [List.size_toArray,<- ri.length,<- eqVs_all el]
   rfl
  ·refine PySem.EqBoolInt.of_rcne (SeqAt.RcNeAt.lists_lengths pi.isList pj.isList ?_ (by omega)) (fin_bl I fin ?_)
   ·simp only [List.size_toArray,bne_iff_ne]
    rw [<- ri.length,<- rj.length]
    exact el
   ·rw [if_pos rfl,eqVs_len el];rfl
 ·obtain ⟨is,ri,pi,_⟩:=I.tuple hp
  obtain ⟨js,rj,pj,_⟩:=I.tuple hq
  refine PySem.EqBoolInt.of_rcne (SeqAt.RcNeAt.tuples pi pj (by omega) (eq_items fx fy ri rj)) ?_
  refine fin_bl I fin ?_
  simp only [List.size_toArray]
  rw [<- ri.length,<- rj.length]
  by_cases el:xs.length=ys.length
  ·rw [min_eq' el,<- eqVs_all el]
   simp [el]
  ·have:(xs.length == ys.length)=false:=by simpa using el
   rw [this,Bool.and_false,if_pos trivial,eqVs_len el]
def rEqLen (K:PySem.W.Frag):R2:=fun x y H Q=>∃ p q xs ys,x=.ref p/\y=.ref q/\SqL K H p xs/\SqL K H q ys/\xs.length≠ys.length/\Q (.bl false) H
theorem op_eq_len (hu:X.A.units+1 < cLine):OpR X (compareOp .Eq) (rEqLen X.K):=by
 intro pins s σ H x y v u Q I rx ry h
 obtain ⟨p,q,xs,ys,rfl,rfl,hp,hq,ne,fin⟩:=h
 cases rx
 cases ry
 obtain ⟨is,ri,pi,_⟩:=I.list hp
 obtain ⟨js,rj,pj,_⟩:=I.list hq
 refine SeqAt.eq_list_lengthsAt pi.isList pj.isList ?_ (by omega) (fin_bl I fin rfl)
 simp only [List.size_toArray,bne_iff_ne]
 rw [<- ri.length,<- rj.length]
 exact ne
def rEqNil (K:PySem.W.Frag) (neg:Bool):R2:=fun x y H Q=>∃ p q xs,x=.ref p/\y=.ref q/\SqL K H p xs/\SqL K H q []/\Q (.bl (if neg then !decide (xs=[]) else decide (xs=[]))) H
theorem op_eq_nil (hu:X.A.units+1 < cLine):OpR X (compareOp .Eq) (rEqNil X.K false):=by
 intro pins s σ H x y v u Q I rx ry h
 obtain ⟨p,q,xs,rfl,rfl,hp,hq,fin⟩:=h
 cases xs with
 | nil=>exact op_eq_flat hu pins s σ H _ _ v u Q I rx ry ⟨p,q,[],[],rfl,rfl,.inl ⟨hp,hq⟩,rfl,rfl,fin⟩
 | cons z zs=>exact op_eq_len hu pins s σ H _ _ v u Q I rx ry ⟨p,q,_,_,rfl,rfl,hp,hq,by simp,fin⟩
open Classical in
theorem pe_bmK {K:PySem.W.Frag} {o e:Expr} {es:List Expr} {to:TE} {t:TA} {name:Str} {apos cpos:Pos} {T id:String} {r:V->List V->Hp->VK->Prop} (hK:X.K=K) (pa:PlainAttrs T) (slot:Slot T name id) (hty:typeOf (.builtin id)=pure (.type "method_descriptor")) (hm:MtR X id r) (ho:PE X o to) (ha:PA X (e::es) t)
  (hbase:attributeBase o name X.env (eval o X.env)=eval o X.env:=by rfl)
  (hfew:((backTo cpos (starEach (e::es) X.env)).all (fun x=>!x.1) && (backToKw cpos (keywordEach [] X.env)).all (fun x=>x.1.isSome)
   && decide ((e::es).length+([]:List Keyword).length+(if ([]:List Keyword).isEmpty then 0 else 1) < 30))=true:=by rfl)
  (hline:(apos.endLine == cpos.line)=true:=by rfl) (hs:starEach (e::es) X.env=(false,eval e X.env)::starEach es X.env:=by rfl) (hplain:(backTo cpos (starEach es X.env)).any (·.1)=false:=by rfl) :
  PE X (.Call (.Attribute o name apos) (e::es) [] cpos) (tBM K T r to t):=by
 subst hK
 exact pe_bm pa slot hty hm ho ha hbase hfew hline hs hplain
end
section
variable {X:Cx} {o i:Expr} {pos:Pos} {td ty:TE} {a:Addr} {kvs:List (Key × V)}
end
section
variable {X:Cx} {CX:CXT} {k:Nat} {f:Addr} {fd:FuncData} {ps:List Str} {sp:Sp} {ds:List Value} {dvs:List V} {E:XK} {x:Str} {p pos:Pos} {e:Expr} {es:List Expr} {t:TA} {tf:TE}
end
end L2
namespace L6
open PySem PySem.Spec PyProof.Rows L2
section
variable {M:Model} {A:Around} {E:Value->Shared->Prop} {s:Shared} {base:Heap} {env:Env} {outer:List Env} {L e:Addr} {cls a0:Value} {od:Option Addr} {Q:Unit->Shared->Prop}
end
section
variable {P:Program} {w:World} {K:PySem.W.Frag} {mg:Str->Option Value} {base:Heap} {N:List Str} {qual:Str} {scope:Scope} {f:Addr} {cdv:Value} {A:Around} {outer:List Env} {s:Shared} {H:Hp} {E:XK}
def off (H:Hp) (a:Addr):Hp:=fun b=>if b=a then none else H b
theorem off_ne {H:Hp} {a b:Addr} (h:b≠a):off H a b=H b:=by unfold off;rw [if_neg h]
theorem off_eq {H:Hp} {a:Addr}:off H a a=none:=by unfold off;rw [if_pos rfl]
theorem off_upd {H:Hp} {a:Addr} {o:HO} (h:H a=none):off (upd H a o) a=H:=by
 funext b
 by_cases hb:b=a
 ·subst hb;rw [off_eq,h]
 ·rw [off_ne hb,upd_ne hb]
end
section
variable {X:Cx} {k:Nat} {f:Addr} {fd:FuncData} {ps:List Str} {sp:Sp} {dvs:List V} {ds:List Value} {x:Str} {p pos:Pos} {e:Expr} {es:List Expr} {tf:TE} {t:TA}
end
section
variable {X:Cx} {pins:List (Addr × Obj)} {σ:L2.St} {H:Hp} {s:Shared} {a:Addr}
theorem reext {φ ψ:Heap->Prop} (I:Inv X pins σ H s) (e:H a=some (.ext φ)) (p:ψ s.heap) (st:∀ h1 h2:Heap,ψ h1->(∀ o,h1.get? a=some o->h2.get? a=some o)->ψ h2):Inv X pins σ (upd H a (.ext ψ)) s:=by
 obtain ⟨_,th,_⟩:=I.hok a _ e
 have na:∀ b,H b=none->b≠a:=fun b q z=>by rw [z,e] at q;cases q
 have ne:∀ {b:Addr} {o:HO},H b=some o->o≠.ext φ->b≠a:=fun q n z=>by rw [z,e] at q;exact n (Option.some.inj q).symm
 refine I.un (h':=s.heap) (t':=s.toks) ⟨fun b o q _ _ _=>q,fun b o q _ _ _=>⟨o.slots,q⟩,fun b o q n _=>by rw [upd_ne (na b n)];exact n,fun b o q _=>⟨o,q⟩,fun b xs q=>?_,fun b o u q=>?_,fun b ps q=>⟨#[],?_⟩⟩ fun b u q=>?_
 ·rw [upd_ne (ne q (fun z=>nomatch z))];exact q
 ·rw [upd_ne (ne q (fun z=>nomatch z))];exact q
 ·rw [upd_ne (ne q (fun z=>nomatch z)),Array.append_empty];exact q
 ·by_cases hb:b=a
  ·subst hb
   rw [upd_same] at q;cases q
   exact ⟨p,th,st⟩
  ·rw [upd_ne hb] at q
   refine (I.hok b u q).stay (fun c v _ z=>z) (fun c z=>?_) fun c xs z=>?_
   ·rw [upd_ne (ne z (fun z=>nomatch z))];exact z
   ·rw [upd_ne (ne z (fun z=>nomatch z))];exact z
end
theorem _root_.L2.Fun.okD {CX:CXT} {P:Program} {w:World} {K:PySem.W.Frag} {mg:Str->Option Value} {base:Heap} {x qual:Str} {st:Stmt} {f:Addr} {fd:FuncData} {N ps:List Str} {k:Nat} {sp:Sp} (F:Fun K x qual st f fd) (S:FnScope N ps (defScope st)) (len:∀ vs H Q E,sp vs H Q E->vs.length=ps.length)
  (hbody:∀ (cdv:Value) (A:Around) (outer:List Env) (s:Shared) (H:Hp) (vs:List V) (Q:VK) (E:XK),Room k (A.deeper (envOfC qual (defScope st) s.heap.objs.size f cdv))->sp vs H Q E ->
   ∃ t,PSs (cxOf CX P w K mg base N qual (defScope st) f cdv A outer s H E) (defBody st) t/\t { nx:=fun _ H'=>Q .non H',rt:=Q } (start N vs) H):FnOk P w K mg base CX (k+1) f fd ps sp:=by
 obtain ⟨oc,od,kV,doc,pm,an,cdv,ct,osl,rfl,lk,hcd⟩:=F.ex
 exact fn_of lk hcd S len (hbody cdv)
section
variable {X:Cx} {e:Expr} {tx:TX} {ts:TS} {x n:Str} {c:Value} {i:Nat} {b₀:Stmt} {suite:List Stmt} {pos pos' np hpos:Pos}
end
end L6
namespace L8
open PySem PySem.Spec PyProof.Rows L2
def CXF (P:Program) (w:World):CXT:=fun outer H s E e s'=>∃ a cls H',e=.ref a/\Fly P w outer H s H' a cls s'/\HasF s'.heap a/\E cls none H'
section
variable {M:Model} {A:Around} {E:Value->Shared->Prop} {s:Shared} {base:Heap} {env:Env} {outer:List Env} {L e:Addr} {cls a0:Value} {Q:Unit->Shared->Prop}
theorem leavesF (hfr:A.frames=some (env::outer)) (hf:env.frame=some L) (hfl:Heap.FlyingW base (env::outer) e cls a0 s.heap) (hd:HasF s.heap e)
  (hQ:∀ h',Heap.FlyingW base outer e cls a0 h'->s.heap.UpToSlots h'->HasF h' e->Q () { s with heap:=h' }):wpAny M A (leaving env (.ref e)) Q E s :=
 wpAny_mono ((kd_leaving env (.ref e)).any (wpAny_leaves_onW (Q:=fun _ s'=>∃ h',s'={ s with heap:=h' }/\Heap.FlyingW base outer e cls a0 h'/\s.heap.UpToSlots h') (E:=E) hfr hf hfl fun h' x y=>⟨h',rfl,x,y⟩)) (fun _ s' ⟨⟨h',q,x,y⟩,dk⟩=>by subst q;exact hQ h' x y (hd.by dk)) fun _ _ z=>z.1
theorem looksF (hfr:A.frames=some (env::outer)) (hf:env.frame=some L) (hfl:Heap.FlyingW base (env::outer) e cls a0 s.heap) (hd:HasF s.heap e)
  (hQ:∀ h',Heap.HeldW base (env::outer) e cls a0 L h'->s.heap.UpToSlots h'->HasF h' e->Q () { s with heap:=h' }):wpAny M A (noteFrame (.ref e) env) Q E s :=
 wpAny_mono ((kd_note (.ref e) env).any (wpAny_looks_onW (Q:=fun _ s'=>∃ h',s'={ s with heap:=h' }/\Heap.HeldW base (env::outer) e cls a0 L h'/\s.heap.UpToSlots h') (E:=E) hfr hf hfl fun h' x y=>⟨h',rfl,x,y⟩)) (fun _ s' ⟨⟨h',q,x,y⟩,dk⟩=>by subst q;exact hQ h' x y (hd.by dk)) fun _ _ z=>z.1
theorem landsF {l:List Env} (hh:Heap.HeldW base l e cls a0 L s.heap) (hd:HasF s.heap e)
  (hQ:∀ h',Heap.FlyingW base l e cls a0 h'->s.heap.UpToSlots h'->HasF h' e->Q () { s with heap:=h' }):wpAny M A (setFlight (.ref e) none) Q E s :=
 wpAny_mono ((kd_setFlight (.ref e) none).any (wpAny_landsW (Q:=fun _ s'=>∃ h',s'={ s with heap:=h' }/\Heap.FlyingW base l e cls a0 h'/\s.heap.UpToSlots h') (E:=E) hh fun h' x y=>⟨h',rfl,x,y⟩)) (fun _ s' ⟨⟨h',q,x,y⟩,dk⟩=>by subst q;exact hQ h' x y (hd.by dk)) fun _ _ z=>z.1
theorem landsF2 {l:List Env} (hh:Heap.FlyingW base l e cls a0 s.heap) (hd:HasF s.heap e)
  (hQ:∀ h',Heap.FlyingW base l e cls a0 h'->s.heap.UpToSlots h'->HasF h' e->Q () { s with heap:=h' }):wpAny M A (setFlight (.ref e) none) Q E s :=
 wpAny_mono ((kd_setFlight (.ref e) none).any (lands_againW (Q:=fun _ s'=>∃ h',s'={ s with heap:=h' }/\Heap.FlyingW base l e cls a0 h'/\s.heap.UpToSlots h') (E:=E) hh fun h' x y=>⟨h',rfl,x,y⟩)) (fun _ s' ⟨⟨h',q,x,y⟩,dk⟩=>by subst q;exact hQ h' x y (hd.by dk)) fun _ _ z=>z.1
theorem held_again {l:List Env} (R:Heap.HeldW base l e cls a0 L s.heap)
  (h:∀ h',Heap.HeldW base l e cls a0 L h'->s.heap.UpToSlots h'->Q () { s with heap:=h' }):wpAny M A (setFlight (.ref e) (some L)) Q E s:=by
 obtain ⟨hkb,hen,hl,oe,vs,T,oT,ts,he,hcls,hd,h1,hnT,hTe,hT,hdT,h3⟩:=R
 have hsz:3 < ts.size:=(Array.getElem?_eq_some_iff.mp h3).1
 have ot:∀ b,b≠T->(s.heap.update T (Obj.mapFields (·.setIfInBounds 3 ((some L).elim Value.none fun f=>rawInt f)))).get? b=s.heap.get? b:=fun b hb=>Heap.get?_update_other _ _ (Ne.symm hb)
 have nr:∀ b o,s.heap.get? b=some o->(∀ vs,o.data≠.fields vs)->b≠T:=fun b o hb hnf z=>by
  rw [z,hT] at hb;cases hb;exact hnf ts hdT
 unfold setFlight
 refine wpAny_bind (wpAny_field he hd h1 ?_)
 rw [if_pos (show (Value.ref T != Value.none)=true from by simp)]
 refine wpAny_setField hT hdT hsz (h _ ⟨fun b o hbo=>(ot b fun z=>by rw [z,hnT] at hbo;cases hbo).trans (hkb b o hbo),hen,hl.of_keeps fun b o hb hnf=>⟨o,(ot b (nr b o hb hnf)).trans hb,rfl⟩,?_⟩ fun b o hb hnf=>⟨o.slots,(ot b (nr b o hb hnf)).trans hb⟩)
 exact ⟨oe,vs,T,_,_,(ot e (Ne.symm hTe)).trans he,hcls,hd,h1,hnT,hTe,Heap.get?_update_self _ hT (Obj.isFreed_of_fields (Obj.data_mapFields hdT _)),Obj.data_mapFields hdT _,by simp [hsz]⟩
theorem noted_first {oe:Obj} {vs:Array Value} (hfr:A.frames=some (env::outer)) (hl:s.heap.FunFrames base (env::outer)) (hf:env.frame=some L)
  (he:s.heap.get? e=some oe) (hkb:base.StaysIn s.heap) (hen:base.get? e=none) (hd:oe.data=.fields vs) (h1:vs[1]?=some .none) (h0:vs[0]?=some a0)
  (hQ:∀ h',Heap.HeldW base (env::outer) e oe.cls a0 L h'->s.heap.UpToSlots h'->Q () { s with heap:=h' }):wpAny M A (noteFrame (.ref e) env) Q E s:=by
 unfold noteFrame
 simp only [hf]
 refine wpAny_bind (wpAny_field he hd h1 ?_)
 rw [if_neg (show ¬ ((Value.none != Value.none)=true) from by decide)]
 exact wpAny_entryW hfr hl hf he hkb hen hd (Array.getElem?_eq_some_iff.mp h1).1 h0 fun h' ⟨k1,k2,k3,k4⟩=>hQ h' ⟨k1,hen,k2,k3⟩ k4
end
section
variable {P:Program} {w:World} {K:PySem.W.Frag} {mg:Str->Option Value} {base:Heap} {N:List Str} {qual:Str} {scope:Scope} {f:Addr} {cdv:Value} {A:Around} {outer:List Env} {s:Shared} {H:Hp} {E:XK}
theorem passF:Passes (CXF P w) (cxOf (CXF P w) P w K mg base N qual scope f cdv A outer s H E) E:=by
 intro pins σ H1 s1 e s2 I ⟨a,cls,H2,he,F,hd,hE⟩
 subst he
 obtain ⟨B,a0,hfl,hB⟩:=F.fly
 have hfr:(A.deeper (envOfC qual scope s.heap.objs.size f cdv)).frames=some (envOfC qual scope s.heap.objs.size f cdv::outer):=I.ok.frames
 show wpAny _ _ (leaving _ _) _ _ _
 refine leavesF hfr rfl hfl hd fun h' x1 x2 x3=>⟨a,cls,H2,rfl,?_,x3,hE⟩
 refine fly_out I F.os F.bare F.un F.hok F.an hB x1 fun b hb o e=>x2 b o e ?_
 obtain ⟨_,o',e',d⟩:=hfl.2.2.1.mem (show b∈(envOfC qual scope s.heap.objs.size f cdv::outer).filterMap (·.frame) from List.mem_cons_of_mem _ hb)
 rw [e] at e';cases e'
 exact d
theorem ps_raiseF {x:Str} {C:Addr} {bm:List Value} {Bn newId initId:String} {np cpos pos:Pos} {e₀:Expr} {rest:List Expr} {t:TA} (hx:Gl (cxOf (CXF P w) P w K mg base N qual scope f cdv A outer s H E) x) (b:mg x=some (.ref C)) (q:PySem.W.excIn K C bm newId=true) (FB:ExcBaseFacts Bn newId initId bm)
  (ha:PA (cxOf (CXF P w) P w K mg base N qual scope f cdv A outer s H E) (e₀::rest) t) (hd:(x == ("__debug__" : Str))=false:=by decide)
  (he:starEach (e₀::rest) (envOfC qual scope s.heap.objs.size f cdv)=(false,eval e₀ (envOfC qual scope s.heap.objs.size f cdv))::starEach rest (envOfC qual scope s.heap.objs.size f cdv):=by rfl)
  (hplain:(backTo cpos (starEach rest (envOfC qual scope s.heap.objs.size f cdv))).any (·.1)=false:=by rfl) :
  PS (cxOf (CXF P w) P w K mg base N qual scope f cdv A outer s H E) (.Raise (some (.Call (.Name x np) (e₀::rest) [] cpos)) none pos) (tRaise C t E):=by
 intro pins s0 σ H0 D I h
 obtain ⟨tl,Nn,nm,q',bs,hdct,sn,sub,ab,col,dd,k0,k1,k2,k3,k5,mN,hC,hN,hni,T⟩:=(own_cls I.mod.kin b q).obj
 refine wpAny_Raise_call_subT (C:=C) (nm:=nm) (q:=q') (N:=Nn) (bs:=bs) (bm:=tl) (hdct:=hdct) (sn:=sn) (sub:=sub) (ab:=ab) (col:=col) (dd:=dd) (k0:=k0) (k1:=k1) (k2:=k2) (k3:=k3) (k5:=k5)
  FB (mN:=mN) (T.hasType FB.hasBase) (I.ok.hd rfl) (by show (backTo cpos (starEach (e₀::rest) (envOfC qual scope s.heap.objs.size f cdv))).any _=false;rw [he];show (false || (backTo cpos (starEach rest (envOfC qual scope s.heap.objs.size f cdv))).any (·.1))=false;rw [hplain];rfl) hni (ld_glob I hx b ⟨rfl,?_⟩ hd)
 have hA:=ha cpos pins s0 σ H0 _ I h
 have he':starEach (e₀::rest) (cxOf (CXF P w) P w K mg base N qual scope f cdv A outer s H E).env=(false,eval e₀ (cxOf (CXF P w) P w K mg base N qual scope f cdv A outer s H E).env)::starEach rest (cxOf (CXF P w) P w K mg base N qual scope f cdv A outer s H E).env:=he
 rw [he'] at hA ⊢
 refine Calls.evalArgs_plain (wpAny_mono hA (fun us s2 ⟨vs,H2,I2,rv,hz,hE⟩=>⟨rfl,by rw [<- rv.length];exact hz,I2.bk _ _ hC,hN.keeps I2.bk,T.keeps I2.bk,fun h' e hx'=>?_⟩) fun _ _ y=>y)
 have hfr:(A.deeper (envOfC qual scope s.heap.objs.size f cdv)).frames=some (envOfC qual scope s.heap.objs.size f cdv::outer):=I2.ok.frames
 have hin:∀ env∈(envOfC qual scope s.heap.objs.size f cdv::outer),∀ b,env.frame=some b->b∈frs (envOfC qual scope s.heap.objs.size f cdv::outer):=fun env he b hb=>List.mem_filterMap.mpr ⟨env,he,hb⟩
 have noH:∀ b,s2.heap.get? b=none->H2 b=none:=fun b e=>by
  cases z:H2 b with
  | none=>rfl
  | some u=>obtain ⟨o,eo⟩:=(I2.hok b u z).there;rw [e] at eo;cases eo
 have hF:HasF h' e:=by
  obtain ⟨t,ht,_,_⟩:=hx'.there
  exact ⟨_,_,ht,rfl,rfl⟩
 show wpAny _ _ (leaving _ _) _ _ _
 refine wpAny_mono ((kd_leaving _ _).any (wpAny_leaves_madeW (E:=fun e' s''=>CXF P w outer H s E e' s'') (Q:=fun _ s'=>∃ h'' t,s'={ s2 with heap:=h'' }/\Heap.FlyingW (PySem.W.hideAll s2.heap (frs (envOfC qual scope s.heap.objs.size f cdv::outer))) outer e (.ref C) (.ref t) h''/\h'.UpToSlots h'')
  (base:=PySem.W.hideAll s2.heap (frs (envOfC qual scope s.heap.objs.size f cdv::outer))) (h:=s2.heap) hfr rfl (fun b o q=>PySem.W.of_hideAll _ q) (PySem.W.funFrames_hide I2.stack hin) hx' fun h'' t x1 x2 x3 x4=>⟨h'',t,rfl,x1,x4⟩)) (fun _ s5 ⟨⟨h'',t,q5,x1,x4⟩,dk⟩=>?_) fun _ _ z=>z.1
 subst q5
 refine ⟨e,.ref C,H2,rfl,?_,hF.by dk,hE⟩
 refine fly_out (s2:={ s2 with heap:=h' }) I2 rfl I2.bare (Un.kept hx'.keeps) (I2.hok.kept hx'.keeps) (noH e hx'.new) (fun b o eb hh hb=>?_) x1 fun b hb o eb=>x4 b o eb ?_
 ·have key:∀ o',s2.heap.get? b=some o'->(PySem.W.hideAll s2.heap (frs (envOfC qual scope s.heap.objs.size f cdv::outer))).get? b=some o:=fun o' e'=>by
   have e2:=hx'.keeps b o' e'
   have e3:h'.get? b=some o:=eb
   rw [e2] at e3;cases e3
   exact PySem.W.hideAll_get _ e' hb
  rcases hh with ⟨o',e'⟩ | ⟨u,hu⟩
  ·exact key o' e'
  ·obtain ⟨o',e'⟩:=(I2.hok b u hu).there
   exact key o' e'
 ·obtain ⟨_,o',e',d⟩:=I2.stack.mem (show b∈(envOfC qual scope s.heap.objs.size f cdv::outer).filterMap (·.frame) from List.mem_cons_of_mem _ hb)
  have e2:=hx'.keeps b o' e'
  have e3:h'.get? b=some o:=eb
  rw [e2] at e3;cases e3
  exact d
end
def XPf (X:Cx) (pins:List (Addr × Obj)) (σ:L2.St) (R:XK) (e:Value) (s':Shared):Prop:=∃ a cls H1 s1 H',e=.ref a/\Inv X pins σ H1 s1/\Fly X.prog X.w X.stack H1 s1 H' a cls s'/\HasF s'.heap a/\R cls none H'
def PEF (X:Cx) (e:Expr) (tx:TX):Prop:=∀ (pins:List (Addr × Obj)) (s:Shared) (σ:L2.St) (H:Hp) (Q:VK) (R:XK),Inv X pins σ H s->tx σ H Q R->wpAny (model X.prog X.w) X.A (eval e X.env) (EP X pins σ Q) (XPf X pins σ R) s
section
variable {X:Cx} {k:Nat} {f C:Addr} {fd:FuncData} {ps:List Str} {sp:Sp} {dvs:List V} {ds:List Value} {x:Str} {p pos:Pos} {e:Expr} {es:List Expr} {t:TA}
theorem pef_make (M:Mk X.K C f) (F:FnOk X.prog X.w X.K X.mg X.base (CXF X.prog X.w) k f fd ps sp) (hr:Room (k+1) X.A) (hg:Gl X x) (hm:X.mg x=some (.ref C)) (hb:Binds X.K fd ps ds) (hd:Vals dvs ds)
  (ha:∀ xe,PA (X.wish xe) (e::es) t) (hdb:(x == ("__debug__" : Str))=false:=by decide) (he:starEach (e::es) X.env=(false,eval e X.env)::starEach es X.env:=by rfl) (hpl:(backTo pos (starEach es X.env)).any (·.1)=false:=by rfl) :
  PEF X (.Call (.Name x p) (e::es) [] pos) (tMakeX C sp dvs t):=by
 intro pins s σ H Q R I h
 refine wpAny_Call_Name_kw (ld_glob I hg hm ?_ hdb)
 refine PySem.W.callWith_K (h₀:=X.base) I.ok.mod.kin M.kp (thn (ha (XPf X pins σ R) pos pins s σ H _ (I.wish _) h) fun us s1 ⟨vs,H1,I1,r,q⟩=>⟨I1.unwish.kIn,?_⟩) he hpl
 have I:=I1.unwish
 have hq:=q (s1.heap.objs.size+1) s1.heap.objs.size (I.hok.fresh (Nat.le_succ _)) (I.hok.fresh (Nat.le_refl _)) (Nat.ne_of_lt (Nat.lt_succ_self _))
 have I2:=Inv.made (C:=C) I
 have r2:Vals (V.ref (s1.heap.objs.size+1)::(vs++dvs)) (Value.ref (s1.heap.objs.size+1)::(us++ds)):=.cons rfl (r.append hd)
 have hl:(Value.ref (s1.heap.objs.size+1)::us++ds).length=ps.length:=by
  have e:=r2.length
  rw [F.len _ _ _ _ hq] at e
  exact e.symm
 refine wpAny_call (make_map (f:=f) I.kIn M.makes M.init (beq_iff_eq.mp M.fn) (codeAny_mono (F.run _ X.stack _ _ ⟨Value.ref (s1.heap.objs.size+1)::us,[]⟩ (Value.ref (s1.heap.objs.size+1)::(us++ds)) _ _ R (hr.make C us [])
  (I2.env0.make C us []) (hb _ (Value.ref (s1.heap.objs.size+1)::us) I2.kIn hl) r2 hq) fun r s' hq'=>?_))
 cases r with
 | error e =>
  obtain ⟨a,cls,H',rfl,fl,hf,hR⟩:=hq'
  exact ⟨a,cls,_,_,H',rfl,I2,fl,hf,hR⟩
 | ok fl =>
  cases fl with
  | ret u =>
   obtain ⟨v,H',I3,rv,ev,q3⟩:=I2.after hq'
   subst ev
   exact ⟨rv,⟨V.ref (s1.heap.objs.size+1),H',I3,rfl,q3⟩⟩
  | next=>exact False.elim hq'
  | brk=>exact False.elim hq'
  | cont=>exact False.elim hq'
end
def excF (a:Addr):HO:=.ext fun h=>HasF h a
theorem hasF_st (a:Addr):∀ h1 h2:Heap,HasF h1 a->(∀ o,h1.get? a=some o->h2.get? a=some o)->HasF h2 a:=fun h1 h2 ⟨o,vs,e,d,f⟩ k=>⟨o,vs,k o e,d,f⟩
section
variable {X:Cx} {pins:List (Addr × Obj)} {σ:L2.St} {H:Hp} {s:Shared} {a:Addr}
theorem Inv_off {φ:Heap->Prop} (I:Inv X pins σ H s) (e:H a=some (.ext φ)):Inv X pins σ (L6.off H a) s:=by
 have ne:∀ {b:Addr} {o:HO},H b=some o->o≠.ext φ->b≠a:=fun q n z=>by rw [z,e] at q;exact n (Option.some.inj q).symm
 have nn:∀ b,H b=none->L6.off H a b=none:=fun b q=>by
  by_cases hb:b=a
  ·rw [hb];exact L6.off_eq
  ·rw [L6.off_ne hb];exact q
 refine ⟨I.ok,I.os,I.bare,⟨I.base.keep,I.base.slot,fun b o q n hx=>nn b (I.base.free b o q n hx),I.base.there,fun b xs q=>?_,fun b o u q=>?_,fun b ps q=>?_⟩,I.loc,I.cell,nn _ I.free,fun x c q=>nn _ (I.freeC x c q),fun p hp=>?_,fun b u q=>?_,I.len⟩
 ·have z:=I.base.tups b xs q
  rw [L6.off_ne (ne z (fun z=>nomatch z))];exact z
 ·have z:=I.base.frzs b o u q
  rw [L6.off_ne (ne z (fun z=>nomatch z))];exact z
 ·obtain ⟨m,z⟩:=I.base.tbls b ps q
  exact ⟨m,by rw [L6.off_ne (ne z (fun z=>nomatch z))];exact z⟩
 ·obtain ⟨q1,q2,q3⟩:=I.pin p hp
  exact ⟨q1,nn _ q2,q3⟩
 ·have hb:b≠a:=fun z=>by rw [z,L6.off_eq] at q;cases q
  rw [L6.off_ne hb] at q
  refine (I.hok b u q).stay (fun c v _ z=>z) (fun c z=>?_) fun c xs z=>?_
  ·rw [L6.off_ne (ne z (fun z=>nomatch z))];exact z
  ·rw [L6.off_ne (ne z (fun z=>nomatch z))];exact z
end
def tTryFrom (K:PySem.W.Frag) (c:Value) (C2:Addr) (tx:TX) (E:XK):TS:=fun D σ H=>tx σ H (fun v H1=>D.rt v H1) fun cls _ H1=>PySem.W.exmOne K cls c=some true/\E (.ref C2) none H1
section
variable {P:Program} {w:World} {K:PySem.W.Frag} {mg:Str->Option Value} {base:Heap} {N:List Str} {qual:Str} {scope:Scope} {f:Addr} {cdv:Value} {A:Around} {outer:List Env} {s:Shared} {H:Hp} {E:XK}
theorem ps_tryFrom {x y m:Str} {c:Value} {C2:Addr} {bm:List Value} {Bn newId initId:String} {e:Expr} {tx:TX} {j1 j2:Nat} {pos pos' np np2 cpos mp vp rpos hpos:Pos}
  (he:PEF (cxOf (CXO P w) P w K mg base N qual scope f cdv A outer s H E) e tx) (hx:Gl (cxOf (CXO P w) P w K mg base N qual scope f cdv A outer s H E) x) (hm:mg x=some c)
  (hy:Gl (cxOf (CXO P w) P w K mg base N qual scope f cdv A outer s H E) y) (b:mg y=some (.ref C2)) (q:PySem.W.excIn K C2 bm newId=true) (FB:ExcBaseFacts Bn newId initId bm)
  (hd:(x == ("__debug__" : Str))=false:=by decide) (hd2:(y == ("__debug__" : Str))=false:=by decide) :
  PS (cxOf (CXO P w) P w K mg base N qual scope f cdv A outer s H E) (.Try [.Return (some e) pos'] [.ExceptHandler (some (.Name x np)) none [.Raise (some (.Call (.Name y np2) [.Constant (.str m) j1 mp] [] cpos)) (some (.Constant .none j2 vp)) rpos] hpos] [] [] pos) (tTryFrom K c C2 tx E):=by
 intro pins s0 σ H0 D I h
 obtain ⟨X,hX⟩:∃ X,cxOf (CXO P w) P w K mg base N qual scope f cdv A outer s H E=X:=⟨_,rfl⟩
 refine wpAny_Try_except (wpAny_execs_cons (wpAny_Return_some (wpAny_mono (he pins s0 σ H0 _ _ I h) (fun v s1 ⟨y,H1,I1,r1,q1⟩=>⟨y,σ,H1,I1,r1,q1⟩) fun ev s2 hx2=>?_)))
 obtain ⟨a,cls,H1,s1,H2,rfl,I1,fl,hD,hex,hR⟩:=hx2
 obtain ⟨B,a0,hfl,hB⟩:=fl.fly
 have hfr:(A.deeper (envOfC qual scope s.heap.objs.size f cdv)).frames=some (envOfC qual scope s.heap.objs.size f cdv::outer):=I.ok.frames
 have fs0:∀ {g:Heap},s2.heap.UpToSlots g->∀ b∈frs (envOfC qual scope s.heap.objs.size f cdv::outer),∀ o,s2.heap.get? b=some o->∃ sl,g.get? b=some { o with slots:=sl }:=fun {g} u b hb o e=>u b o e (by
  obtain ⟨_,o',e',d⟩:=hfl.2.2.1.mem (show b∈(envOfC qual scope s.heap.objs.size f cdv::outer).filterMap (·.frame) from hb)
  rw [e] at e';cases e'
  exact d)
 refine looksF hfr rfl hfl hD fun h4 held4 u4 hD4=>?_
 refine landsF held4 hD4 fun h5 fly5 u5 hD5=>?_
 have I5:=(fly_in I1 fl hB fly5 (fs0 (u4.trans u5))).1
 have J5:=I5.catch a
 refine wpAny_handleBy_cons (codeAny_handlers_test ?_) (by intro q;cases q)
 refine ld_glob (X:=(cxOf (CXO P w) P w K mg base N qual scope f cdv A outer s H E).catch a) J5 hx hm ?_ hd
 have LT:PySem.W.Looks (model P w) h5 (typeOf (.ref a)) cls:=by
  obtain ⟨ob,hob,hc⟩:=fly5.there
  subst hc
  exact (PySem.W.Looks.ld hob).andThen .now
 refine PySem.W.Looks.here (s:={ s2 with heap:=h5 }) (PySem.W.exm_one I5.kIn LT hex) ?_
 show codeAny _ _ _ _ _
 refine codeAny_handlers_suite ?_
 refine landsF2 fly5 hD5 fun h6 fly6 u6 hD6=>?_
 have I6:=(fly_in I1 fl hB fly6 (fs0 ((u4.trans u5).trans u6))).2
 have I7:=L6.reext I6 upd_same (ψ:=fun h=>HasF h a) hD6 (hasF_st a)
 rw [upd_upd] at I7
 have J7:=I7.catch a
 obtain ⟨tl,Nn,nm,q',bs,hdct,sn,sub,ab,col,dd,k0,k1,k2,k3,k5,mN,hC,hN,hni,T⟩:=(own_cls I.mod.kin b q).obj
 refine wpAny_execs_cons ?_
 rw [arm_exec_Raise]
 refine wpAny_bind (wpAny_standAt ?_)
 refine raise_from (C:=C2) (nm:=nm) (q:=q') (N:=Nn) (bs:=bs) (bm:=tl) (hdct:=hdct) (sn:=sn) (sub:=sub) (ab:=ab) (col:=col) (dd:=dd) (k0:=k0) (k1:=k1) (k2:=k2) (k3:=k3) (k5:=k5) (newId:=newId) (a:=a) (T.hasType FB.hasBase) rfl ?_
 refine wpAny_bind (wpAny_mono (wpAny_Call_ofName (ld_glob (X:=(cxOf (CXO P w) P w K mg base N qual scope f cdv A outer s H E).catch a) J7 hy b ?_ hd2)) (fun v s₃ h₃=>wpAny_bind (wpAny_standAt (wpAny_pure h₃))) fun _ _ x=>x)
 have hA:=(pa_cons pe_str pa_nil:PA (((cxOf (CXO P w) P w K mg base N qual scope f cdv A outer s H E).catch a).nox) [.Constant (.str m) j1 mp] _) cpos pins _ σ _ (fun vs Hs=>vs=[V.str m]/\Hs=upd H2 a (excF a)) (J7.wish _) ⟨rfl,rfl⟩
 unfold callWith
 refine wpAny_bind (wpAny_holding (Calls.evalArgs_plain (wpAny_mono hA (fun us s8 ⟨vs,H8,I8,rv,ev,eH⟩=>wpAny_bind (wpAny_standAt ?_)) fun _ _ y=>False.elim y)))
 subst ev eH
 have I8u:=Inv.uncatch I5.ok I8
 have I9:=Inv_off I8u (a:=a) upd_same
 have eO:L6.off (upd H2 a (excF a)) a=H2:=L6.off_upd fl.an
 rw [eO] at I9
 obtain ⟨hFa,⟨oa,hoa⟩,_⟩:=I8.hok a _ upd_same
 simp only [show (backTo cpos (starEach [Expr.Constant (.str m) j1 mp] (envOfC qual scope s.heap.objs.size f cdv))).any (·.1)=false from rfl]
 refine wpAny_bind (wpAny_keeperOf_exc (I9.bk _ _ hC) ?_)
 obtain ⟨hp8,g8,d8,tk8,os8⟩:=s8
 refine wpAny_bind (wpAny_call_exc_subT (hrest:=by rw [List.nil_append,<- rv.length];exact (show 1<=sizeLine by decide)) FB (T.keeps I9.bk) (I9.bk _ _ hC) (hN.keeps I9.bk) hni fun h9 e2 hm2=>wpAny_bind (wpAny_holding (wpAny_point (wpAny_pure ?_))))
 obtain ⟨t9,ht9,nt9,_⟩:=hm2.there
 have hne:e2≠a:=fun z=>by rw [z] at hm2;have:=hm2.new;rw [hoa] at this;cases this
 refine ⟨e2,t9,rfl,hne,hm2.keeps _ _ (I9.bk _ _ hC),?_,ht9,?_,?_⟩
 ·intro z
  have:=hm2.new
  rw [<- z,I9.bk _ _ hC] at this;cases this
 ·obtain ⟨o,vs,e1,d1,f1⟩:=hFa
  exact ⟨o,vs,hm2.keeps _ _ e1,d1,f1⟩
 refine wpAny_bind (wpAny_pure (wpAny_bind (wpAny_standAt (wpAny_pure ⟨rfl,rfl,fun hA2 eA sb=>?_⟩))))
 have sb:Heap.SameBut e2 h9 hA2:=sb
 have kp:∀ b o,hp8.get? b=some o->hA2.get? b=some o:=fun b o z=>(sb.2 b fun y=>by rw [y] at z;have:=hm2.new;rw [z] at this;cases this).trans (hm2.keeps b o z)
 have hin:∀ env∈(envOfC qual scope s.heap.objs.size f cdv::outer),∀ b,env.frame=some b->b∈frs (envOfC qual scope s.heap.objs.size f cdv::outer):=fun env he b hb=>List.mem_filterMap.mpr ⟨env,he,hb⟩
 have noH:H2 e2=none:=by
  cases z:H2 e2 with
  | none=>rfl
  | some u=>obtain ⟨o,eo⟩:=(I9.hok e2 u z).there;have:=hm2.new;rw [eo] at this;cases this
 have nB:(PySem.W.hideAll hp8 (frs (envOfC qual scope s.heap.objs.size f cdv::outer))).get? e2=none:=by
  cases z:(PySem.W.hideAll hp8 (frs (envOfC qual scope s.heap.objs.size f cdv::outer))).get? e2 with
  | none=>rfl
  | some o=>have:=hm2.new;rw [PySem.W.of_hideAll _ z] at this;cases this
 have stB:(PySem.W.hideAll hp8 (frs (envOfC qual scope s.heap.objs.size f cdv::outer))).StaysIn hA2:=fun b o z=>kp b o (PySem.W.of_hideAll _ z)
 have ffr:hA2.FunFrames (PySem.W.hideAll hp8 (frs (envOfC qual scope s.heap.objs.size f cdv::outer))) (envOfC qual scope s.heap.objs.size f cdv::outer):=(PySem.W.funFrames_hide I9.stack hin).of_keeps fun b o z _=>⟨o,kp b o z,rfl⟩
 show wpAny _ _ (noteFrame _ _) _ _ _
 refine noted_first (base:=PySem.W.hideAll hp8 (frs (envOfC qual scope s.heap.objs.size f cdv::outer))) (outer:=outer) (L:=s.heap.objs.size) (a0:=.ref t9) hfr ffr rfl eA stB nB rfl rfl rfl fun hB2 hel2 uB=>?_
 show wpAny _ _ _ _ _ _
 obtain ⟨oe,vs',T9,oT9,ts9,he9,hc9,hd9,h19,hr9⟩:=id hel2.2.2.2
 refine wpAny_bind (wpAny_field he9 hd9 h19 ?_)
 rw [if_neg (show ¬ ((Value.ref T9 == Value.none)=true) from by simp)]
 refine held_again hel2 fun hC2 hel3 uC=>?_
 show wpAny _ _ (leaving _ _) _ _ _
 unfold leaving
 refine wpAny_bind (wpAny_noteFrame_againW rfl hel3.2.2.2 ?_)
 refine wpAny_landsW hel3 fun hD2 fl2 uD=>?_
 obtain ⟨k1',k2',⟨_,_,k3'⟩,k4'⟩:=fl2
 refine ⟨e2,.ref C2,H2,rfl,?_,hR⟩
 refine fly_out (s2:={ heap:=hA2,gens:=g8,drawn:=d8,toks:=tk8,os:=os8 }) I9 rfl I9.bare (Un.kept kp) (I9.hok.kept kp) noH (fun b o eb hh hb=>?_) ⟨k1',k2',k3',k4'⟩ fun b hb o eb=>((uB.trans uC).trans uD) b o eb ?_
 ·have key:∀ o',hp8.get? b=some o'->(PySem.W.hideAll hp8 (frs (envOfC qual scope s.heap.objs.size f cdv::outer))).get? b=some o:=fun o' e'=>by
   have e2:=kp b o' e'
   have e3:hA2.get? b=some o:=eb
   rw [e2] at e3;cases e3
   exact PySem.W.hideAll_get _ e' hb
  rcases hh with ⟨o',e'⟩ | ⟨u,hu⟩
  ·exact key o' e'
  ·obtain ⟨o',e'⟩:=(I9.hok b u hu).there
   exact key o' e'
 ·obtain ⟨_,o',e',d⟩:=I9.stack.mem (show b∈(envOfC qual scope s.heap.objs.size f cdv::outer).filterMap (·.frame) from List.mem_cons_of_mem _ hb)
  have e2:=kp b o' e'
  have e3:hA2.get? b=some o:=eb
  rw [e2] at e3;cases e3
  exact d
end
end L8
namespace L2
open PySem PySem.Spec PyProof.Rows
section
variable {X:Cx}
end
theorem fold_lt:∀ (zs σ:List Str),(¬ zs.Nodup\/∃ z∈zs,z∈σ)->(zs.foldl addS σ).length < σ.length+zs.length
 | [],σ,h=>by
  rcases h with h | ⟨z,hz,_⟩
  ·exact absurd List.nodup_nil h
  ·exact nomatch hz
 | z::zs,σ,h=>by
  show (zs.foldl addS (addS σ z)).length < σ.length+(zs.length+1)
  by_cases hz:z∈σ
  ·have e:addS σ z=σ:=by unfold addS;rw [if_pos hz]
   rw [e]
   have:=fold_le zs σ
   omega
  ·have el:(addS σ z).length=σ.length+1:=by rw [len_addS,if_neg hz]
   have h':¬ zs.Nodup\/∃ y∈zs,y∈addS σ z:=by
    rcases h with h | ⟨y,hy,hs⟩
    ·rw [List.nodup_cons,Classical.not_and_iff_not_or_not] at h
     rcases h with h | h
     ·exact .inr ⟨z,Classical.not_not.mp h,mem_addS.mpr (.inr rfl)⟩
     ·exact .inl h
    ·rcases List.mem_cons.mp hy with e | e
     ·rw [e] at hs;exact absurd hs hz
     ·exact .inr ⟨y,e,mem_addS.mpr (.inl hs)⟩
   have:=fold_lt zs (addS σ z) h'
   omega
theorem dist_lt {zs:List Str} (h:¬ zs.Nodup):(dist zs).length < zs.length:=by
 have:=fold_lt zs [] (.inl h)
 simpa [dist] using this
section
variable {X:Cx}
end
end L2
namespace K91
open PySem PySem.Spec PyProof.Rows L2 L8
theorem low {A:Around} {k:Nat} (n:Nat) (hr:Room k A) (h:n<=63:=by decide):A.units+n+1 < cLine:=by have:=hr.units;omega
theorem Same.upd_new {H H1:Hp} {q:Addr} {o:HO} (s:Same H H1) (hq:H q=none):Same H (upd H1 q o):=fun b u e=>by rw [L2.upd_ne (ne_of_none e hq)];exact s b u e
theorem Same.but {H H1 H2:Hp} {p:Addr} (s:Same H H1) (b:But p H1 H2) (hp:H p=none):Same H H2:=fun c u e=>b c u (s c u e) (ne_of_none e hp)
theorem But.upd (H:Hp) (q:Addr) (o:HO):But q H (upd H q o):=fun c u e n=>by rw [L2.upd_ne n];exact e
theorem TyOf.same {K:PySem.W.Frag} {H H':Hp} (s:Same H H') {y:V} {t:Value} (h:TyOf K H y t):TyOf K H' y t:=by
 cases h with
 | non=>exact .non
 | bl x=>exact .bl x
 | int i=>exact .int i
 | str x=>exact .str x
 | flt x=>exact .flt x
 | lst e=>exact .lst (s _ _ e)
 | frz e=>exact .frz (s _ _ e)
 | tup e=>exact .tup (s _ _ e)
 | dK e=>exact .dK (s _ _ e)
 | dT e=>exact .dT (s _ _ e)
 | ins e c d f g h=>exact .ins (s _ _ e) c d f g h
def Not (K:PySem.W.Frag) (H:Hp) (T:String) (x:V):Prop:=∃ t,TyOf K H x t/\PySem.W.kitOne K t (.type T)=some false
theorem Not.same {K:PySem.W.Frag} {H H':Hp} {T:String} {x:V} (h:Not K H T x) (s:Same H H'):Not K H' T x:=let ⟨t,ty,e⟩:=h;⟨t,TyOf.same s ty,e⟩
def Cl (K:PySem.W.Frag) (H:Hp) (x:V):Prop:=(∃ z:Str,x=.str z/\z.length<=20000)\/Not K H "str" x
def isnm:V->Bool
 | .str z=>nm z
 | _=>false
theorem isnm_not {K:PySem.W.Frag} {H:Hp} {x:V} (h:Not K H "str" x):isnm x=false:=by
 obtain ⟨t,ty,e⟩:=h
 cases ty with
 | str z=>exact absurd (show PySem.W.kitOne K (.type "str") (.type "str")=some true from rfl) (by rw [e];intro z;cases z)
 | _=>rfl
def BadL (xs:List V):Prop:=¬ (1<=xs.length/\xs.length<=12)\/(∃ x∈xs,isnm x=false)\/∃ zs:List Str,xs=zs.map V.str/\¬ zs.Nodup
def BadP (K:PySem.W.Frag) (H:Hp) (v:V):Prop:=Not K H "list" v\/∃ a xs,v=.ref a/\H a=some (.lst xs)/\(∀ x∈xs,Cl K H x)/\xs.length<=20000/\BadL xs
theorem strs_of_nm:∀ {xs:List V},(∀ x∈xs,isnm x=true)->∃ zs:List Str,xs=zs.map V.str/\∀ z∈zs,nm z=true
 | [],_=>⟨[],rfl,fun _ h=>nomatch h⟩
 | x::xs,h=>by
  obtain ⟨zs,e,k⟩:=strs_of_nm fun y hy=>h y (List.mem_cons_of_mem _ hy)
  have hx:=h x List.mem_cons_self
  cases x with
  | str z=>exact ⟨z::zs,by rw [e];rfl,fun y hy=>(List.mem_cons.mp hy).elim (fun q=>by rw [q];exact hx) (k y)⟩
  | _=>exact absurd hx (by simp [isnm])
theorem strs_inj:∀ {l m:List Str},l.map V.str=m.map V.str->l=m
 | [],[],_=>rfl
 | [],_::_,h=>by cases h
 | _::_,[],h=>by cases h
 | a::l,b::m,h=>by
  rw [List.map_cons,List.map_cons,List.cons.injEq] at h
  obtain ⟨h1,h2⟩:=h
  cases h1
  rw [strs_inj h2]
section
variable {P:Program} {w:World} {K:PySem.W.Frag} {mg:Str->Option Value} {base:Heap}
def spChkPX (E3:Addr):Sp:=fun vs H Q R=>∃ v,vs=[v]/\((BadP K H v/\∀ H',Same H H'->R (.ref E3) none H')\/(∃ a zs,v=.ref a/\H a=some (.lst (zs.map V.str))/\GoodP zs/\∀ H',Same H H'->Q .non H'))
theorem ok_chkPX {E3 f fN:Addr} {fd fdN:FuncData} (F:Fun K "check_places" "check_places" sChkP f fd) (DN:Df K mg "is_name" sName ["thing"] fN fdN) (X3:Ex K mg "NoWeb" E3) (T:Glb mg):FnOk P w K mg base (CXF P w) 2 f fd ["places"] (spChkPX (K:=K) E3):=by
 have GN:FnOk P w K mg base CX0 1 fN fdN ["thing"] (spName (K:=K)):=ok_name DN.fn T
 refine F.okD scCP (fun vs H Q E h=>?_) (fun cdv A outer s H vs Q E hr h=>?_)
 ·obtain ⟨v,rfl,_⟩:=h
  rfl
 ·obtain ⟨v,rfl,h⟩:=h
  obtain ⟨t12,h12⟩:=T.places
  obtain ⟨Bn,newId,initId,bm,q,FB⟩:=X3.bm
  refine ⟨_,pss_cons (ps_if (PW.pt (pw_or (pt_not (pt_val (pe_callB (call_isinst (T:="list")) (by rfl) T.isinst boot_isinstance (pa_cons (pv 0) (pa_cons (pe_bltn (v:=.ty "list") rfl T.list PyProof.Rows.boot_list rfl) pa_nil))) (fun _=>rfl)))
    (pw_or1 (pt_not (pt_chain op_le op_le pe_int (pe_callB call_len_seq (by rfl) T.len PySem.boot_len (pa_cons (pv 0) pa_nil)) (pe_glob (v:=.int 12) rfl h12 ⟨_,rfl⟩)))))) (pss_one (ps_raiseF rfl X3.b q FB (pa_cons pe_str pa_nil))) pss_nil)
   (pss_cons (ps_if (pt_not (pt_val (pe_callB (call_all rfl) (by rfl) T.all boot_all (pa_cons (pe_lc ["place"] [] rfl (compSc (osc:=(defScope sChkP).names) (N:=["places"]) rfl rfl (by decide +kernel)) (gk_name (by decide)) (pi_list (pv 0)) (fun _ _ _=>pg_name (i:=0) (show (["place"]:List Str).Nodup by decide +kernel) rfl (Or.inl rfl)) (fun _ _ _=>pifs_nil)
     (fun _ _ _=>pe_call GN hr rfl DN.mgf DN.fn.kp DN.b .nil pass0 (pa_cons (pv 0) pa_nil))) pa_nil)) (fun _=>rfl))) (pss_one (ps_raiseF rfl X3.b q FB (pa_cons pe_str pa_nil))) pss_nil)
   (pss_one (ps_if (pt_cmpR op_lt (pe_lenset rfl (pv 0) rfl T.len PySem.boot_len rfl T.set PyProof.Rows.boot_set) (pe_callB call_len_seq (by rfl) T.len PySem.boot_len (pa_cons (pv 0) pa_nil)) (nomark _)) (pss_one (ps_raiseF rfl X3.b q FB (pa_cons pe_str pa_nil))) pss_nil))),?_⟩
  have h':(Not K H "list" v/\∀ H',Same H H'->E (.ref E3) none H')\/∃ a xs,v=.ref a/\H a=some (.lst xs)/\(∀ x∈xs,Cl K H x)/\(BadL xs->∀ H',Same H H'->E (.ref E3) none H')/\(∀ zs,xs=zs.map V.str->GoodP zs->∀ H',Same H H'->Q .non H'):=by
   rcases h with ⟨bad,kR⟩ | ⟨a,zs,rfl,ha,g,kQ⟩
   ·rcases bad with no | ⟨a,xs,rfl,ha,hc,hl,bl⟩
    ·exact .inl ⟨no,kR⟩
    ·refine .inr ⟨a,xs,rfl,ha,hc,fun _=>kR,fun zs e gz=>?_⟩
     exfalso
     rcases bl with b | ⟨x,hx,b⟩ | ⟨zs',e',b⟩
     ·rw [e,List.length_map] at b;exact b ⟨gz.one,gz.few⟩
     ·rw [e] at hx
      obtain ⟨z,hz,rfl⟩:=List.mem_map.mp hx
      rw [show isnm (.str z)=nm z from rfl,gz.nms z hz] at b;cases b
     ·rw [e] at e'
      have:zs=zs':=strs_inj e'
      rw [this] at gz
      exact b gz.nd
   ·refine .inr ⟨a,zs.map V.str,rfl,ha,fun x hx=>?_,fun b=>?_,fun _ _ _=>kQ⟩
    ·obtain ⟨z,hz,rfl⟩:=List.mem_map.mp hx
     exact .inl ⟨z,rfl,Nat.le_trans (nm_len (g.nms z hz)) (by decide)⟩
    ·exfalso
     rcases b with b | ⟨x,hx,b⟩ | ⟨zs',e',b⟩
     ·rw [List.length_map] at b;exact b ⟨g.one,g.few⟩
     ·obtain ⟨z,hz,rfl⟩:=List.mem_map.mp hx
      rw [show isnm (.str z)=nm z from rfl,g.nms z hz] at b;cases b
     ·have:zs=zs':=strs_inj e'
      rw [this] at g
      exact b g.nd
  rcases h' with ⟨⟨t,ty,e⟩,kR⟩ | ⟨a,xs,rfl,ha,hc,kR,kQ⟩
  ·refine ⟨_,rfl,v,t,false,rfl,ty,e,_,rfl,?_⟩
   exact iteT ⟨by decide,kR _ (Same.refl _)⟩
  ·refine ⟨_,rfl,_,_,true,rfl,.lst ha,rfl,_,rfl,?_⟩
   refine iteF ?_
   refine ⟨_,rfl,a,_,rfl,.inl (SqL.of ha),_,_,rfl,rfl,_,rfl,?_⟩
   refine ite2 (fun g1=>?_) (fun g1=>?_)
   ·have g1':1<=xs.length:=by simp at g1;omega
    refine ⟨_,_,rfl,rfl,_,rfl,?_⟩
    refine ite2 (fun g2=>?_) (fun g2=>?_)
    ·have g2':12 < xs.length:=by simp at g2;omega
     exact ⟨by decide,kR (.inl (by omega)) _ (Same.refl _)⟩
    have g2':xs.length<=12:=by simp at g2;omega
    refine ⟨_,rfl,a,rfl,⟨_,SqL.of ha⟩,lc_list (K:=K) (xs:=xs) (fun i ys H2=>Same H H2/\ys=((xs.take i).map isnm).map V.bl) ⟨Same.refl _,rfl⟩ ?_ ?_ ?_ ?_⟩
    ·rintro i ys H2 hi ⟨_,rfl⟩
     rw [List.length_map,List.length_map,List.length_take]
     exact Nat.le_trans (Nat.min_le_right _ _) (Nat.le_trans g2' (by decide))
    ·rintro i ys H2 _ ⟨s2,_⟩
     exact SqL.of (s2 _ _ ha)
    ·rintro i x ys H2 R hx ⟨s2,rfl⟩ kR'
     simp only [tYes,gName,if_true]
     have et:xs.take (i+1)=xs.take i++[x]:=by rw [List.take_add_one,hx];rfl
     rcases hc x (List.mem_of_getElem? hx) with ⟨z,rfl,hz⟩ | no
     ·refine ⟨_,rfl,.inl ⟨z,rfl,hz,fun H3 s3=>kR' _ _ ⟨s2.trans s3,?_⟩⟩⟩
      rw [et];simp [isnm]
     ·obtain ⟨t,ty,e⟩:=no.same s2
      refine ⟨_,rfl,.inr ⟨x,t,rfl,ty,e,kR' _ _ ⟨s2,?_⟩⟩⟩
      rw [et];simp [isnm_not no]
    ·rintro ys H2 ⟨s2,rfl⟩ D hD
     rw [List.take_of_length_le (Nat.le_refl _)]
     refine ⟨D,xs.map isnm,rfl,SqL.of upd_same,_,rfl,?_⟩
     have s3:Same H (upd H2 D (.lst ((xs.map isnm).map V.bl))):=s2.trans (same_upd hD)
     generalize upd H2 D (.lst ((xs.map isnm).map V.bl))=H3 at s3 ⊢
     cases hall:(xs.map isnm).all id with
     | false =>
      refine iteT ⟨by decide,kR (.inr (.inl ?_)) _ s3⟩
      rw [List.all_map,List.all_eq_false] at hall
      obtain ⟨x,hx,e⟩:=hall
      exact ⟨x,hx,by simpa using e⟩
     | true =>
      rw [List.all_map,List.all_eq_true] at hall
      obtain ⟨zs,e,k⟩:=strs_of_nm (xs:=xs) fun x hx=>by simpa using hall x hx
      subst e
      have lz:zs.length<=12:=by rw [List.length_map] at g2';exact g2'
      refine iteF ⟨_,rfl,a,zs,rfl,SqL.of (s3 _ _ ha),Nat.lt_of_le_of_lt (Nat.succ_le_succ lz) (by decide),_,rfl,a,_,rfl,.inl (SqL.of (s3 _ _ ha)),_,_,rfl,rfl,_,rfl,?_⟩
      rw [List.length_map]
      by_cases nd:zs.Nodup
      ·rw [dist_nd nd]
       refine ite2 (fun q=>absurd q (by simp)) (fun _=>?_)
       exact kQ zs rfl ⟨by rw [List.length_map] at g1';exact g1',lz,k,nd⟩ _ s3
      ·have:=dist_lt nd
       refine ite2 (fun _=>⟨by decide,kR (.inr (.inr ⟨zs,rfl,nd⟩)) _ s3⟩) (fun q=>absurd (by simp;omega) q)
   ·have g1':¬ 1<=xs.length:=by simp at g1;omega
    refine ⟨_,rfl,?_⟩
    exact iteT ⟨by decide,kR (.inl (by omega)) _ (Same.refl _)⟩
end
def Am (K:PySem.W.Frag) (H:Hp) (ns:List Str) (u:V) (b:Bool):Prop:=(∃ z,u=.str z/\b=decide (z∈ns))\/(Not K H "str" u/\b=false)
def TieC (K:PySem.W.Frag) (H:Hp) (ns:List Str) (x:V) (b:Bool):Prop :=
 (∃ t u v c d,x=.ref t/\H t=some (.tup [u,v])/\Am K H ns u c/\Am K H ns v d/\b=(c && d))\/(∃ t ys,x=.ref t/\H t=some (.tup ys)/\ys.length≠2/\b=false)\/(Not K H "tuple" x/\b=false)
theorem Am.same {K:PySem.W.Frag} {H H':Hp} {ns:List Str} {u:V} {b:Bool} (h:Am K H ns u b) (s:Same H H'):Am K H' ns u b:=h.imp id fun ⟨h,e⟩=>⟨h.same s,e⟩
theorem TieC.same {K:PySem.W.Frag} {H H':Hp} {ns:List Str} {x:V} {b:Bool} (h:TieC K H ns x b) (s:Same H H'):TieC K H' ns x b:=by
 rcases h with ⟨t,u,v,c,d,e,h1,h2,h3,h4⟩ | ⟨t,ys,e,h1,h2⟩ | ⟨h,e⟩
 ·exact .inl ⟨t,u,v,c,d,e,s _ _ h1,h2.same s,h3.same s,h4⟩
 ·exact .inr (.inl ⟨t,ys,e,s _ _ h1,h2⟩)
 ·exact .inr (.inr ⟨h.same s,e⟩)
def BadT (K:PySem.W.Frag) (H:Hp) (ns:List Str) (v:V):Prop:=Not K H "list" v\/∃ b xs,v=.ref b/\H b=some (.lst xs)/\(∀ x∈xs,∃ c,TieC K H ns x c)/\(30 < xs.length\/∃ x∈xs,TieC K H ns x false)
theorem BadT.same {K:PySem.W.Frag} {H H':Hp} {ns:List Str} {v:V} (h:BadT K H ns v) (s:Same H H'):BadT K H' ns v:=by
 rcases h with h | ⟨b,xs,e,h1,h2,h3⟩
 ·exact .inl (h.same s)
 ·exact .inr ⟨b,xs,e,s _ _ h1,fun x hx=>let ⟨c,h⟩:=h2 x hx;⟨c,h.same s⟩,h3.imp id fun ⟨x,hx,h⟩=>⟨x,hx,h.same s⟩⟩
open Classical in
noncomputable def tcl (K:PySem.W.Frag) (H:Hp) (ns:List Str) (x:V):Bool:=if TieC K H ns x false then false else true
theorem tcl_ok {K:PySem.W.Frag} {H:Hp} {ns:List Str} {x:V} (h:∃ c,TieC K H ns x c):TieC K H ns x (tcl K H ns x):=by
 unfold tcl
 split
 ·assumption
 ·rename_i n
  obtain ⟨c,h⟩:=h
  cases c with
  | false=>exact absurd h n
  | true=>exact h
theorem tcl_bad {K:PySem.W.Frag} {H:Hp} {ns:List Str} {x:V} (h:TieC K H ns x false):tcl K H ns x=false:=by
 unfold tcl
 rw [if_pos h]
section
variable {P:Program} {w:World} {K:PySem.W.Frag} {mg:Str->Option Value} {base:Heap}
def spTieX:Sp:=fun vs H Q _=>∃ (a:Addr) (ns:List Str) (x:V) (b:Bool),vs=[.ref a,x]/\SqL K H a (ns.map V.str)/\TieC K H ns x b/\Q (.bl b) H
theorem ok_tieX {f fA:Addr} {fd fdA:FuncData} (F:Fun K "is_tie" "is_tie" sTie f fd) (DA:Df K mg "is_among" sAmong ["places","thing"] fA fdA) (T:Glb mg):FnOk P w K mg base CX0 2 f fd ["places","thing"] (spTieX (K:=K)):=by
 have GA:FnOk P w K mg base CX0 1 fA fdA ["places","thing"] (spAmong (K:=K)):=ok_among DA.fn T
 refine F.ok scTi (fun vs H Q E h=>?_) (fun cdv A outer s H vs Q E hr h=>?_)
 ·obtain ⟨a,ns,x,b,rfl,_⟩:=h
  rfl
 ·obtain ⟨a,ns,x,b,rfl,ha,hc,k⟩:=h
  refine ⟨_,pss_cons (ps_if (PW.pt (pw_or (pt_not (pt_val (pe_callB (call_isinst (T:="tuple")) (by rfl) T.isinst boot_isinstance (pa_cons (pv 1) (pa_cons (pe_bltn (v:=.ty "tuple") rfl T.tuple PyProof.Rows.boot_tuple rfl) pa_nil))) (fun _=>rfl)))
    (pw_or1 (pt_cmpR op_ne (pe_callB call_len_seq (by rfl) T.len PySem.boot_len (pa_cons (pv 1) pa_nil)) pe_int (nomark _))))) (pss_one (ps_ret pe_bl)) pss_nil)
   (pss_one (ps_ret (pe_and (pe_call GA hr rfl DA.mgf DA.fn.kp DA.b .nil pass0 (pa_cons (pv 0) (pa_cons (pe_ix ix_tup (pv 1) pe_int (fun _ _=>rfl)) pa_nil))) (pe_one (pe_call GA hr rfl DA.mgf DA.fn.kp DA.b .nil pass0 (pa_cons (pv 0) (pa_cons (pe_ix ix_tup (pv 1) pe_int (fun _ _=>rfl)) pa_nil))))))),?_⟩
  have am:∀ {u:V} {c:Bool} {Q':VK},Am K H ns u c->Q' (.bl c) H->(spAmong (K:=K)) [.ref a,u] H Q' E0:=fun {u c Q'} h q=>by
   rcases h with ⟨z,rfl,rfl⟩ | ⟨⟨t,ty,e⟩,rfl⟩
   ·exact .inl ⟨a,ns,z,rfl,ha,q⟩
   ·exact .inr ⟨a,u,t,rfl,ty,e,q⟩
  rcases hc with ⟨t,u,v,c,d,rfl,ht,hu,hv,rfl⟩ | ⟨t,ys,rfl,ht,hl,rfl⟩ | ⟨⟨t,ty,e⟩,rfl⟩
  ·refine ⟨_,rfl,_,_,true,rfl,.tup ht,rfl,_,rfl,?_⟩
   refine iteF ⟨_,rfl,t,_,rfl,.inr (SqT.of ht),rfl,_,rfl,?_⟩
   refine iteF ?_
   refine ⟨_,rfl,_,rfl,t,_,_,_,rfl,rfl,SqT.of ht,atI_nat (j:=0) rfl,?_⟩
   dsimp only [tNil]
   refine am hu ?_
   refine ⟨_,rfl,?_⟩
   cases c with
   | true =>
    refine iteT ⟨_,rfl,_,rfl,t,_,_,_,rfl,rfl,SqT.of ht,atI_nat (j:=1) rfl,?_⟩
    dsimp only [tNil]
    exact am hv k
   | false=>exact iteF k
  ·refine ⟨_,rfl,_,_,true,rfl,.tup ht,rfl,_,rfl,?_⟩
   refine iteF ⟨_,rfl,t,_,rfl,.inr (SqT.of ht),rfl,_,rfl,?_⟩
   refine ite2 (fun _=>k) (fun q=>absurd ?_ q)
   simp
   omega
  ·refine ⟨_,rfl,x,t,false,rfl,ty,e,_,rfl,?_⟩
   exact iteT k
def spChkTX (E3:Addr):Sp:=fun vs H Q R=>∃ (a:Addr) (ns:List Str) (v:V),vs=[.ref a,v]/\H a=some (.lst (ns.map V.str))/\BadT K H ns v/\∀ H',Same H H'->R (.ref E3) none H'
theorem ok_chkTX {E3 f fA fT:Addr} {fd fdA fdT:FuncData} (F:Fun K "check_ties" "check_ties" sChkT f fd) (DA:Df K mg "is_among" sAmong ["places","thing"] fA fdA) (DT:Df K mg "is_tie" sTie ["places","thing"] fT fdT) (X3:Ex K mg "NoWeb" E3) (T:Glb mg):FnOk P w K mg base (CXF P w) 3 f fd ["places","ties"] (spChkTX (K:=K) E3):=by
 have GT:FnOk P w K mg base CX0 2 fT fdT ["places","thing"] (spTieX (K:=K)):=ok_tieX DT.fn DA T
 refine F.okD scCT (fun vs H Q E h=>?_) (fun cdv A outer s H vs Q E hr h=>?_)
 ·obtain ⟨a,ns,v,rfl,_⟩:=h
  rfl
 ·obtain ⟨a,ns,v,rfl,ha,bad,kR⟩:=h
  obtain ⟨t30,h30⟩:=T.ties
  obtain ⟨Bn,newId,initId,bm,q,FB⟩:=X3.bm
  refine ⟨_,pss_cons (ps_if (PW.pt (pw_or (pt_not (pt_val (pe_callB (call_isinst (T:="list")) (by rfl) T.isinst boot_isinstance (pa_cons (pv 1) (pa_cons (pe_bltn (v:=.ty "list") rfl T.list PyProof.Rows.boot_list rfl) pa_nil))) (fun _=>rfl)))
    (pw_or1 (pt_cmpR op_gt (pe_callB call_len_seq (by rfl) T.len PySem.boot_len (pa_cons (pv 1) pa_nil)) (pe_glob (v:=.int 30) rfl h30 ⟨_,rfl⟩) (nomark _))))) (pss_one (ps_raiseF rfl X3.b q FB (pa_cons pe_str pa_nil))) pss_nil)
   (pss_one (ps_if (pt_not (pt_val (pe_callB (call_all rfl) (by rfl) T.all boot_all (pa_cons (pe_lc ["tie"] [0] rfl (compSc (osc:=(defScope sChkT).names) (N:=["places","ties"]) rfl rfl (by decide +kernel)) (gk_name (by decide)) (pi_list (pv 1)) (fun _ _ _=>pg_name (i:=0) (show (["tie","places"]:List Str).Nodup by decide +kernel) rfl (Or.inl rfl)) (fun _ _ _=>pifs_nil)
     (fun _ _ _=>pe_call GT hr rfl DT.mgf DT.fn.kp DT.b .nil pass0 (pa_cons (pv 1) (pa_cons (pv 0) pa_nil)))) pa_nil)) (fun _=>rfl))) (pss_one (ps_raiseF rfl X3.b q FB (pa_cons pe_str pa_nil))) pss_nil)),?_⟩
  rcases bad with ⟨t,ty,e⟩ | ⟨b,xs,rfl,hb,hc,hx⟩
  ·refine ⟨_,rfl,v,t,false,rfl,ty,e,_,rfl,?_⟩
   exact iteT ⟨by decide,kR _ (Same.refl _)⟩
  ·refine ⟨_,rfl,_,_,true,rfl,.lst hb,rfl,_,rfl,?_⟩
   refine iteF ⟨_,rfl,b,_,rfl,.inl (SqL.of hb),_,_,rfl,rfl,_,rfl,?_⟩
   refine ite2 (fun _=>⟨by decide,kR _ (Same.refl _)⟩) (fun g=>?_)
   have g':xs.length<=30:=by simp at g;omega
   rcases hx with lt | ⟨x0,hx0,hb0⟩
   ·omega
   refine ⟨_,rfl,b,rfl,⟨_,SqL.of hb⟩,lc_list (K:=K) (xs:=xs) (fun i ys H2=>Same H H2/\ys=((xs.take i).map (tcl K H ns)).map V.bl) ⟨Same.refl _,rfl⟩ ?_ ?_ ?_ ?_⟩
   ·rintro i ys H2 hi ⟨_,rfl⟩
    rw [List.length_map,List.length_map,List.length_take]
    exact Nat.le_trans (Nat.min_le_right _ _) (Nat.le_trans g' (by decide))
   ·rintro i ys H2 _ ⟨s2,_⟩
    exact SqL.of (s2 _ _ hb)
   ·rintro i x ys H2 R hx ⟨s2,rfl⟩ kR'
    simp only [tYes,gName,if_true]
    have et:xs.take (i+1)=xs.take i++[x]:=by rw [List.take_add_one,hx];rfl
    refine ⟨_,rfl,_,rfl,a,ns,x,_,rfl,SqL.of (s2 _ _ ha),(tcl_ok (hc x (List.mem_of_getElem? hx))).same s2,kR' _ _ ⟨s2,?_⟩⟩
    rw [et];simp
   ·rintro ys H2 ⟨s2,rfl⟩ D hD
    rw [List.take_of_length_le (Nat.le_refl _)]
    refine ⟨D,xs.map (tcl K H ns),rfl,SqL.of upd_same,_,rfl,?_⟩
    have e:(xs.map (tcl K H ns)).all id=false:=by
     rw [List.all_map,List.all_eq_false]
     exact ⟨x0,hx0,by simp [tcl_bad hb0]⟩
    rw [e]
    exact iteT ⟨by decide,kR _ (s2.trans (same_upd hD))⟩
def BadW (K:PySem.W.Frag) (H:Hp) (vP vT:V):Prop:=BadP K H vP\/∃ a ns,vP=.ref a/\H a=some (.lst (ns.map V.str))/\GoodP ns/\BadT K H ns vT
def spInitX (E3:Addr):Sp:=fun vs H Q R=>∃ (x:Addr) (vP vT:V),vs=[.ref x,vP,vT]/\BadW K H vP vT/\∀ H',Same H H'->R (.ref E3) none H'
theorem ok_initX {E3 f fN fA fT f1 f2:Addr} {fd fdN fdA fdT fd1 fd2:FuncData} (F:Fun K "__init__" "Web.__init__" sInit f fd) (DN:Df K mg "is_name" sName ["thing"] fN fdN) (DA:Df K mg "is_among" sAmong ["places","thing"] fA fdA) (DT:Df K mg "is_tie" sTie ["places","thing"] fT fdT)
  (D1:Df K mg "check_places" sChkP ["places"] f1 fd1) (D2:Df K mg "check_ties" sChkT ["places","ties"] f2 fd2) (X3:Ex K mg "NoWeb" E3) (T:Glb mg):FnOk P w K mg base (CXF P w) 4 f fd ["self","places","ties"] (spInitX (K:=K) E3):=by
 have G1:FnOk P w K mg base (CXF P w) 2 f1 fd1 ["places"] (spChkPX (K:=K) E3):=ok_chkPX D1.fn DN X3 T
 have G2:FnOk P w K mg base (CXF P w) 3 f2 fd2 ["places","ties"] (spChkTX (K:=K) E3):=ok_chkTX D2.fn DA DT X3 T
 refine F.okD scIn (fun vs H Q E h=>?_) (fun cdv A outer s H vs Q E hr h=>?_)
 ·obtain ⟨x,vP,vT,rfl,_⟩:=h
  rfl
 ·obtain ⟨x,vP,vT,rfl,bad,kR⟩:=h
  refine ⟨_,pss_cons (ps_expr (pe_call G1 (hr.mono (by decide)) rfl D1.mgf D1.fn.kp D1.b .nil passF (pa_cons (pv 1) pa_nil)))
   (pss_cons (ps_expr (pe_call G2 (hr.mono (by decide)) rfl D2.mgf D2.fn.kp D2.b .nil passF (pa_cons (pv 1) (pa_cons (pv 2) pa_nil)))) pss_never),?_⟩
  rcases bad with b | ⟨a,ns,rfl,ha,g,b⟩
  ·exact ⟨_,rfl,_,rfl,.inl ⟨b,kR⟩⟩
  ·exact ⟨_,rfl,_,rfl,.inr ⟨a,ns,rfl,ha,g,fun H1 s1=>⟨_,rfl,_,rfl,a,ns,vT,rfl,s1 _ _ ha,b.same s1,fun H2 s2=>kR _ (s1.trans s2)⟩⟩⟩
end
end K91
namespace L2
open PySem PySem.Spec PyProof.Rows
section
variable {prog:Program} {w:World} {A:Around} {E:Value->Shared->Prop} {s:Shared}
theorem sorts_new {h:Heap} {tk:Nat} {us:List Value} {zs:List Str} {Q:Value->Shared->Prop} (hz:StrsAre us zs) (few:us.length < 64)
  (q:∀ (out:List Value) (n:Nat) (h2:Heap),StrsAre out (srt zs)->(∀ b o,h.get? b=some o->h2.get? b=some o)->h2.get? h.objs.size=some { cls:=.type "list",data:=.seq out.toArray n }->Q (.ref h.objs.size) { s with heap:=h2,toks:=tk }) :
  wpAny (model prog w) A (call (.builtin "list.sort") [.ref h.objs.size]) (fun _ s'=>Q (.ref h.objs.size) s') E { s with heap:=h.push { cls:=.type "list",data:=.seq us.toArray },toks:=tk }:=by
 have at0:(h.push { cls:=.type "list",data:=.seq us.toArray }).get? h.objs.size=some (seqObj "list" us.toArray 0):=Heap.get?_push_size _ rfl
 refine wpAny_call_entry PySem.F.slot_list_sort ⟨_,at0,rfl⟩ PySem.F.entry_list_sort ?_ (args_list_sort _)
 refine list_sort_treeK strKind_oneLt at0 hz.keysOf (fun a b r e=>keyKind_strs (by rw [<- e];exact hz)) few fun st p1 p2=>⟨_,rfl,?_⟩
 obtain ⟨ss,c1,c2,c3⟩:=sorted_out_str hz p1 p2
 have e:=srt_of c2 (sorted_pw ss c3)
 subst e
 obtain ⟨n,hn⟩:=sortedHeap_at (out:=(arrOf st).map (·.2)) at0
 refine q _ n _ c1 (fun b o eb=>?_) (by rw [hn])
 have lt:b < h.objs.size:=Heap.lt_size eb
 rw [sortedHeap_old (Nat.ne_of_lt lt) (by rw [Heap.size_push];exact Nat.lt_succ_of_lt lt)]
 exact Heap.get?_push_of_some _ eb
end
theorem Inv.laidN {X:Cx} {pins:List (Addr × Obj)} {σ:St} {H:Hp} {s:Shared} {h':Heap} {a:Addr} {o:HO} {t':Nat} (I:Inv X pins σ H s) (k:∀ b u,s.heap.get? b=some u->h'.get? b=some u) (hp:s.heap.get? a=none) (hn:H a=none) (new:ObjOk X.prog X.w (upd H a o) h' a o) :
  Inv X pins σ (upd H a o) { s with heap:=h',toks:=t' }:=by
 refine I.un ⟨fun b u q _ _ _=>k b u q,fun b u q _ _ _=>⟨u.slots,k b u q⟩,fun b u q n _=>?_,fun b u q _=>⟨u,k b u q⟩,fun b xs q=>?_,fun b u xs q=>?_,fun b ps q=>⟨#[],?_⟩⟩ fun b u e=>?_
 ·rw [upd_ne (fun z=>by rw [z,hp] at q;cases q)];exact n
 ·rw [upd_ne (ne_of_none q hn)];exact q
 ·rw [upd_ne (ne_of_none q hn)];exact q
 ·rw [upd_ne (ne_of_none q hn),q];simp
 ·by_cases hb:b=a
  ·subst hb;rw [upd_same] at e;cases e;exact new
  ·rw [upd_ne hb] at e
   refine (I.hok b u e).stay (fun c v _ q=>k c v q) (fun c q=>?_) fun c xs q=>?_
   ·rw [upd_ne (ne_of_none q hn)];exact q
   ·rw [upd_ne (ne_of_none q hn)];exact q
section
variable {X:Cx}
end
structure DBlk where
 key:Expr
 val:Expr
 tgt:Expr
 src:Expr
 cs:List Expr
 sc:Scope
 pos:Pos
namespace DBlk
variable (B:DBlk)
section
variable (prog:Program) (w:World) (A:Around) (env:Env) (it:Value) (D:Addr)
end
end DBlk
section
variable {X:Cx} {own:List Str} {fr:List Nat} {sc:Scope} {tg iter kx vx:Expr} {ifs:List Expr} {pos:Pos} {wi:TI} {g:TG} {tt:TT} {tk te:TE}
end
section
variable {prog:Program} {w:World} {A:Around} {E:Value->Shared->Prop} {s:Shared}
variable {K:Type} [DecidableEq K] {knd:KeyKind prog w K}
end
section
variable {prog:Program} {w:World} {A:Around} {E:Value->Shared->Prop} {s:Shared}
theorem any_choose {src:Source} {n:Nat} {Q:Nat->Shared->Prop} (hn:n≠0) (h:∀ i dr,i < n->Q i { s with drawn:=dr }):wpAny (model prog w) A (choose src n) Q E s:=fun Γ p _=>by
 show Sem.wp _ Γ (.choose src n .pure) _ _ p s
 rw [Sem.wp_choose]
 exact ⟨hn,h _ _ (Nat.mod_lt _ (Nat.pos_of_ne_zero hn))⟩
theorem erase_perm {α:Type}:∀ (xs:List α) (i:Nat) (h:i < xs.length),(xs[i]::xs.eraseIdx i).Perm xs
 | [],_,h=>by simp at h
 | x::xs,0,_=>.refl _
 | x::xs,i+1,h=>(List.Perm.swap x (xs[i]'(by simpa using h)) (xs.eraseIdx i)).trans (List.Perm.cons x (erase_perm xs i (by simpa using h)))
theorem draw_order {α:Type}:∀ (n:Nat) (xs:List α) (s:Shared) (Q:List α->Shared->Prop),xs.length=n->(∀ ys dr,ys.Perm xs->Q ys { s with drawn:=dr })->wpAny (model prog w) A (drawOrder n xs) Q E s
 | 0,xs,s,Q,hl,h=>by
  have e:xs=[]:=List.eq_nil_of_length_eq_zero hl
  subst e
  exact wpAny_pure (h [] s.drawn .nil)
 | n+1,[],s,Q,hl,h=>by simp at hl
 | n+1,x::xs,s,Q,hl,h=>by
  unfold drawOrder
  refine wpAny_bind (any_choose (by simp) fun i dr hi=>?_)
  have e:(x::xs)[i]?=some (x::xs)[i]:=List.getElem?_eq_getElem hi
  rw [e]
  refine wpAny_bind (draw_order n _ _ _ (by rw [List.length_eraseIdx_of_lt hi];simpa using hl) fun ys dr' hp=>?_)
  refine wpAny_pure (h _ dr' ?_)
  exact (List.Perm.cons _ hp).trans (erase_perm _ i hi)
end
theorem lay_led (t:SetTable) (es:Array (Int × Value)) (h:Int) (x:Value):(layNew t es h x).2.1.led=t.led:=by
 unfold layNew
 split
 ·simp only [SetTable.put,SetTable.orStandIn,SetTable.standIn]
  split<;>split<;>rfl
 ·rfl
theorem relay_led (t:SetTable) (es:Array (Int × Value)) (n:Nat):(relayAll t es n).2.1.led=t.led:=by
 unfold relayAll
 split
 ·rename_i t' order e
  unfold SetTable.relaid SetTable.laid at e
  cases hl:SetTable.layClean (SetTable.sizeAbove n - 1) (es.map (·.1)) with
  | none=>rw [hl] at e;cases e
  | some o =>
   rw [hl] at e
   cases e
   dsimp only
   split<;>rfl
 ·rfl
theorem relay_plain (t:SetTable) (es:Array (Int × Value)) (n:Nat) (h:t.plain=false):(relayAll t es n).2.1.plain=false:=by
 unfold relayAll
 split
 ·rename_i t' order e
  unfold SetTable.relaid SetTable.laid at e
  cases hl:SetTable.layClean (SetTable.sizeAbove n - 1) (es.map (·.1)) with
  | none=>rw [hl] at e;cases e
  | some o =>
   rw [hl] at e
   cases e
   dsimp only
   split
   ·exact h
   ·rfl
 ·rfl
section
variable {prog:Program} {w:World} {A:Around} {E:Value->Shared->Prop} {s:Shared}
structure SetX (prog:Program) (w:World) (h:Heap) (a:Addr) (zs:List Str) (led:Bool) (o:Obj) (es:Array (Int × Value)) (ep:Nat) (t:SetTable):Prop where
 ho:h.get? a=some o
 ex:o.ExactSet
 hd:o.data=.set es ep t
 el:ElemsOf (strKind prog w) es.toList
 mem:∀ k,decide (k∈dist zs)=true ↔ ∃ e∈es.toList,(strKind prog w).is k e.2=true
 few:es.size < scanBound
 fits:t.fits es.size=true
 size:es.size=(dist zs).length
 led:t.led=led
 pl:es.size≠0->t.plain=false
theorem SetX.keep {h h':Heap} {a:Addr} {zs:List Str} {led:Bool} {o:Obj} {es:Array (Int × Value)} {ep:Nat} {t:SetTable} (x:SetX prog w h a zs led o es ep t) (k:∀ o,h.get? a=some o->h'.get? a=some o):SetX prog w h' a zs led o es ep t:={ x with ho:=k _ x.ho }
theorem gave_way {b:Bool} {Q:Unit->Shared->Prop} (q:Q () s):wpAny (model prog w) A (match b with | true=>rule "set.scan.the-table-gave-way" | false=>pure ()) Q E s:=by
 cases b
 ·exact wpAny_pure q
 ·exact wpAny_rule q
theorem SetX.add {a:Addr} {z:Str} {tok:Tok} {zs:List Str} {led:Bool} {o:Obj} {es:Array (Int × Value)} {ep:Nat} {t:SetTable} {Q:Bool->Shared->Prop} (x:SetX prog w s.heap a zs led o es ep t) (room:(dist zs).length+1 < scanBound)
  (k:∀ (b:Bool) h' o' es' ep' t',Heap.SameBut a s.heap h'->SetX prog w h' a (zs++[z]) led o' es' ep' t'->Q b { s with heap:=h' }) :
  wpAny (model prog w) A (setAddHashed a (.str z tok) ((strKind prog w).hash z)) Q E s:=by
 have yes:(strKind prog w).is z (.str z tok)=true:=by show Value.isStrOf z (.str z tok)=true;simp [Value.isStrOf]
 unfold setAddHashed setAddHashedIn
 refine wpAny_holding (wpAny_bind (wpAny_setState_of x.ho x.hd x.fits ?_))
 dsimp only
 rw [byScan_of (knd:=strKind prog w) (x:=.str z tok) rfl x.few x.el,if_pos rfl]
 unfold setAddByScan
 refine wpAny_bind (wpAny_bind (wpAny_rule (wpAny_bind (wpAny_setScan_of yes x.ho x.hd x.fits x.el ?_))))
 have isin:=x.mem z
 have ed:dist (zs++[z])=addS (dist zs) z:=dist_snoc zs z
 cases hr:List.findIdx? (fun e=>(strKind prog w).is z e.2) es.toList with
 | some j =>
  dsimp only
  obtain ⟨hj,hpj,_⟩:=List.findIdx?_eq_some_iff_getElem.mp hr
  have hz:z∈dist zs:=of_decide_eq_true (isin.mpr ⟨_,List.getElem_mem hj,hpj⟩)
  have e2:dist (zs++[z])=dist zs:=by rw [ed];unfold addS;rw [if_pos hz]
  refine wpAny_pure (wpAny_pure ?_)
  have:=k false s.heap o es ep t (Heap.SameBut.refl a s.heap) { x with mem:=by rw [e2];exact x.mem,size:=by rw [e2];exact x.size }
  exact this
 | none =>
  dsimp only
  have hz:z ∉ dist zs:=fun q=>by
   obtain ⟨e,he,hp⟩:=isin.mp (decide_eq_true q)
   have:=List.findIdx?_eq_none_iff.mp hr e he
   rw [hp] at this;cases this
  have perm:=layNew_perm t es ((strKind prog w).hash z) (.str z tok)
  have fit:=layNew_fits t es ((strKind prog w).hash z) (.str z tok)
  have ld:=lay_led t es ((strKind prog w).hash z) (.str z tok)
  generalize layNew t es ((strKind prog w).hash z) (.str z tok)=L at perm fit ld ⊢
  obtain ⟨es1,t1,dummy,gave⟩:=L
  dsimp only at perm fit ld ⊢
  rw [Array.toList_push] at perm
  have el1:ElemsOf (strKind prog w) es1.toList:=(x.el.push yes rfl).perm perm
  have mem1:∀ k',decide (k'∈dist (zs++[z]))=true ↔ ∃ e∈es1.toList,(strKind prog w).is k' e.2=true:=fun k'=>by
   have:=mem_push_iff (knd:=strKind prog w) yes x.mem perm k'
   rw [<- this,ed,Bool.or_eq_true,decide_eq_true_iff,decide_eq_true_iff,decide_eq_true_iff,mem_addS]
  have sz1:es1.size=es.size+1:=by rw [<- Array.length_toList,perm.length_eq,List.length_append,Array.length_toList];rfl
  have few1:es1.size < scanBound:=by rw [sz1,x.size];exact room
  have size1:es1.size=(dist (zs++[z])).length:=by rw [sz1,ed,len_addS,if_neg hz,x.size]
  refine wpAny_bind (gave_way ?_)
  have tail:∀ t2:SetTable,t2.led=led->t2.plain=false->t2.fits es1.size=true->wpAny (model prog w) A (do
    storeSet a es1 t2
    if (!dummy && t2.tooFull)=true then do
      (match (relayAll t2 es1 (SetTable.grown es1.size)).2.2 with | true=>rule "set.scan.the-table-gave-way" | false=>pure ())
      storeSet a (relayAll t2 es1 (SetTable.grown es1.size)).1 (relayAll t2 es1 (SetTable.grown es1.size)).2.1
      pure (some true)
     else pure (some true)) (fun r s'=>wpAny (model prog w) A (match r with | some added=>pure added | none=>setAddHashedIn a (.str z tok) ((strKind prog w).hash z) 99999) Q E s') E s:=fun t2 l2 p2 f2=>by
   refine wpAny_bind (wpAny_storeSet_of x.ho x.hd ?_ (fits_of_scanBound few1))
   obtain ⟨g1,_⟩:=SetOf_store (knd:=strKind prog w) (S':=fun k'=>decide (k'∈dist (zs++[z]))) x.ho x.ex x.hd el1 mem1 few1 f2
   have sb1:=Heap.SameBut.update s.heap a (Obj.putSet es1 t2)
   split
   ·have rp:=relayAll_perm t2 es1 (SetTable.grown es1.size)
    have rf:=relayAll_fits t2 es1 (SetTable.grown es1.size)
    have rl:=relay_led t2 es1 (SetTable.grown es1.size)
    have rpl:=relay_plain t2 es1 (SetTable.grown es1.size) p2
    generalize relayAll t2 es1 (SetTable.grown es1.size)=Rl at rp rf rl rpl ⊢
    obtain ⟨es2,t3,gv⟩:=Rl
    dsimp only at rp rf rl rpl ⊢
    have sz2:es2.size=es1.size:=by rw [<- Array.length_toList,rp.length_eq,Array.length_toList]
    refine wpAny_bind (gave_way ?_)
    have mem2:∀ k',decide (k'∈dist (zs++[z]))=true ↔ ∃ e∈es2.toList,(strKind prog w).is k' e.2=true:=fun k'=>(mem1 k').trans ⟨fun ⟨e,he,q⟩=>⟨e,rp.mem_iff.mpr he,q⟩,fun ⟨e,he,q⟩=>⟨e,rp.mem_iff.mp he,q⟩⟩
    have few2:es2.size < scanBound:=by rw [sz2];exact few1
    refine wpAny_bind (wpAny_storeSet_of (s:={ s with heap:=s.heap.update a (Obj.putSet es1 t2) }) g1 rfl ?_ (fits_of_scanBound few2))
    obtain ⟨g2,_⟩:=SetOf_store (knd:=strKind prog w) (S':=fun k'=>decide (k'∈dist (zs++[z]))) g1 x.ex rfl (el1.perm rp) mem2 few2 rf
    exact wpAny_pure (wpAny_pure (k true _ _ es2 _ t3 (sb1.trans (Heap.SameBut.update _ a _)) ⟨g2,x.ex,rfl,el1.perm rp,mem2,few2,rf,by rw [sz2];exact size1,by rw [rl];exact l2,fun _=>rpl⟩))
   ·exact wpAny_pure (wpAny_pure (k true _ _ es1 _ t2 sb1 ⟨g1,x.ex,rfl,el1,mem1,few1,f2,size1,l2,fun _=>p2⟩))
  split
  ·refine wpAny_bind ?_
   rw [hashByValue_scannable 8 (x:=.str z tok) rfl]
   refine wpAny_pure ?_
   rename_i tp
   exact tail { t1 with plain:=false } (by show t1.led=led;rw [ld];exact x.led) rfl (SetTable.fits_plain_off fit)
  ·rename_i tp
   refine wpAny_bind (wpAny_pure ?_)
   simp only [↓reduceIte]
   exact tail t1 (by rw [ld];exact x.led) (by simpa using tp) fit
end
def byTxt (w:World):Bool:=w.params.followText "set-order"
section
variable {prog:Program} {w:World} {A:Around} {E:Value->Shared->Prop} {s:Shared}
theorem new_set (a:Value) {Q₁:Value->Shared->Prop} (h:Q₁ (.ref s.heap.objs.size) { s with heap:=s.heap.push { cls:=.type "set",dict:=none,data:=.set #[] 0 (.fresh 0 0 (!byTxt w)) } }) :
  codeAny (model prog w) A (.call (.builtin "set.__new__") ⟨[.type "set",a],[]⟩) (wants Q₁ E) s:=by
 apply codeAny_of_tree
 show wpAny _ A.in1 (checkBuiltinCall "set.__new__" ⟨[.type "set",a],[]⟩ >>= fun _=>again (.builtin "set.__new__" ⟨[.type "set",a],[]⟩)) _ _ s
 apply wpAny_bind
 refine wpAny_of_eq (PySem.F.newCall_set_1 a) ?_
 apply wpAny_pure
 refine ⟨plainId_quiet PySem.F.plain_set_new _,codeAny_builtin PySem.F.entry_set_new ?_⟩
 rw [Around.under_plainId PySem.F.plain_set_new _]
 have self:=sub_set_self
 obtain ⟨hp,g,d,tk,os⟩:=s
 unfold Builtin.«set.__new__» Builtin.Frozenset.newClass
 dsimp only
 wp_walk
 apply wpAny_askSetting
 apply wpAny_pure
 dsimp only [newObj]
 apply wpAny_bind
 apply wpAny_alloc
 apply wpAny_pure
 exact wpAny_pure h
end
section
variable {prog:Program} {w:World} {A:Around} {I S:Addr} {fp wr:List Addr} {G:Array GenState->Array GenState->Prop} {P:Nat->Value->Prop} {St:Nat->Shared->Prop} {zs:List Str} {R:Result->Shared->Prop} {led:Bool}
def TxtX (prog:Program) (w:World) (h:Heap) (S:Addr) (zs:List Str) (led:Bool):Prop:=∃ o es ep t,SetX prog w h S zs led o es ep t
theorem TxtX.keep {h h':Heap} (x:TxtX prog w h S zs led) (k:∀ o,h.get? S=some o->h'.get? S=some o):TxtX prog w h' S zs led:=let ⟨o,es,ep,t,q⟩:=x;⟨o,es,ep,t,q.keep k⟩
theorem texts_inX (W:WalksS prog w A.in1 I fp wr G zs.length P St) (off:S ∉ fp) (hz:∀ i v,P i v->∃ z t,zs[i]?=some z/\v=.str z t) (small:zs.length+1 < scanBound) :
  ∀ (left i:Nat) (s:Shared),i+left=zs.length->St i s->TxtX prog w s.heap S (zs.take i) led ->
   (∀ s',Moved (S::wr) G s s'->TxtX prog w s'.heap S zs led->R (.ok (.ret .none)) s')->codeAny (model prog w) A (.builtin "set.update.loop" ⟨[.ref S,.ref I],[]⟩) R s
 | 0,i,s,hi,st,x,k=>by
  have e:zs.take i=zs:=List.take_of_length_le (by omega)
  rw [show i=zs.length by omega] at st
  refine codeAny_builtin F.entry_set_update_loop ?_
  rw [Around.under_plainId F.plain_set_update_loop _]
  apply wpAny_bind
  refine W.done s _ _ st fun s' m=>?_
  exact wpAny_pure (k s' (m.mono fun b hb=>List.mem_cons_of_mem _ hb) (by rw [e] at x;exact x.keep fun o ho=>m.heap S o (fun hs=>off (W.sub _ hs)) ho))
 | left+1,i,s,hi,st,x,k=>by
  refine codeAny_builtin F.entry_set_update_loop ?_
  rw [Around.under_plainId F.plain_set_update_loop _]
  apply wpAny_bind
  refine W.item i s _ _ (by omega) st fun v s1 p st1 m=>?_
  obtain ⟨z,t,ez,rfl⟩:=hz i v p
  obtain ⟨o,es,ep,tb,x1⟩:=x.keep fun o ho=>m.heap S o (fun hs=>off (W.sub _ hs)) ho
  have et:zs.take (i+1)=zs.take i++[z]:=by rw [List.take_add_one,ez];rfl
  have yes:(strKind prog w).is z (.str z t)=true:=by show Value.isStrOf z (.str z t)=true;simp [Value.isStrOf]
  show wpAny _ A.in1 (holding [Value.str z t] (setAdd S (.str z t)) >>= _) _ _ s1
  apply wpAny_bind;apply wpAny_holding
  show wpAny _ A.in1 (holding _ _) _ _ _
  apply wpAny_holding;apply wpAny_bind
  refine (strKind prog w).pyHash yes ?_
  have few:=dist_le (zs.take i)
  rw [List.length_take] at few
  refine SetX.add (s:={ s1 with toks:=s1.toks+1 }) x1 (by omega) fun _ h2 o2 es2 ep2 t2 sb x2=>?_
  refine wpAny_pure ⟨plainId_quiet F.plain_set_update_loop _,texts_inX W off hz small left (i+1) _ (by omega) ?_ ⟨o2,es2,ep2,t2,by rw [et];exact x2⟩ fun s3 m3 x3=>?_⟩
  ·exact W.frame _ s1 _ _ st1 (Nat.le_succ _) fun b hb o e=>(sb.2 b fun z'=>off (z' ▸ hb)).trans e
  ·refine k s3 (Moved.trans W.gtrans ((m.mono fun b hb=>List.mem_cons_of_mem _ hb).then_heap (Nat.le_succ _) fun b o hb e=>?_) m3) x3
   exact (sb.2 b fun z'=>hb (by rw [z'];exact List.mem_cons_self)).trans e
end
theorem sub_tup_set:isSubtype (.type "tuple") (.type "set")=pure false:=by rw [isSubtype_type];kernel_rfl
theorem sub_tup_frozen:isSubtype (.type "tuple") (.type "frozenset")=pure false:=by rw [isSubtype_type];kernel_rfl
section
variable {prog:Program} {w:World} {A:Around} {E:Value->Shared->Prop} {s:Shared}
theorem setX_list {l:Addr} {its:List Value} {zs:List Str} {Q:Value->Shared->Prop} (hh:A.handled=none) (hl:s.heap.IsList l its.toArray) (hz:StrsAre its zs) (small:zs.length+1 < scanBound)
  (h:∀ (h':Heap) (tk:Nat),TxtX prog w h' s.heap.objs.size zs (!byTxt w)->(∀ b o,s.heap.get? b=some o->h'.get? b=some o)->Q (.ref s.heap.objs.size) { s with heap:=h',toks:=tk }) :
  wpAny (model prog w) A (call (.type "set") [.ref l]) Q E s:=by
 refine made_by PySem.F.called_set (PySem.F.typeCall_set_1 _) (new_set (.ref l) ?_)
 generalize hh1:s.heap.push { cls:=.type "set",dict:=none,data:=.set #[] 0 (.fresh 0 0 (!byTxt w)) }=h1
 have kp:∀ b o,s.heap.get? b=some o->h1.get? b=some o:=fun b o e=>by rw [<- hh1];exact Heap.get?_push_of_some _ e
 have sz:h1.objs.size=s.heap.objs.size+1:=by rw [<- hh1];exact Heap.size_push ..
 have new:h1.get? s.heap.objs.size=some { cls:=.type "set",dict:=none,data:=.set #[] 0 (.fresh 0 0 (!byTxt w)) }:=by rw [<- hh1];exact Heap.get?_push_size _ rfl
 have ty:({ s with heap:=h1 }:Shared).TypeIs (.ref s.heap.objs.size) "set" := ⟨_,new,rfl⟩
 refine ⟨ty,codeAny_call_builtin PySem.F.called_set.init.plain PySem.F.entry_set_init (check_set_init_1 ty ?_)⟩
 have el:its.length=zs.length:=strs_len hz
 obtain ⟨⟨c,d,dt,sl⟩,ho,rfl,n,rfl⟩:=hl
 have ho1:=kp _ _ ho
 have lt:@LT.lt Nat _ l s.heap.objs.size:=Heap.lt_size ho
 have il:h1.IsList l its.toArray:=⟨_,ho1,rfl,n,rfl⟩
 have n1:=PySem.F.sub_list_set
 have n2:=PySem.F.sub_list_frozenset
 have n3:(Value.type "list" == Value.type "dict")=false:=by decide
 unfold Builtin.«set.__init__» noKeywords Builtin.Frozenset.updateFrom
 generalize pi:pyIter=it
 wp_walk
 subst pi
 apply wpAny_pyIter_list il
 apply wpAny_bind;apply wpAny_runValue
 have W:=(Walks.list (prog:=prog) (w:=w) (A:=A.in1.in1.in1) (by simpa using hh) h1.objs.size l (by rw [sz];exact Nat.ne_of_lt (Nat.lt_succ_of_lt lt)) its.toArray).toS
 have e0:its.toArray.size=zs.length:=by rw [List.size_toArray];exact el
 rw [e0] at W
 refine texts_inX (led:=!byTxt w) (zs:=zs) W ?_ (fun i v p=>?_) small zs.length 0 _ (Nat.zero_add _) ⟨⟨_,Heap.get?_push_size _ rfl,rfl,rfl⟩,il.push _⟩ ?_ fun t m x=>?_
 ·rw [sz]
  intro q
  rcases List.mem_cons.mp q with q | q
  ·exact absurd q (Nat.ne_of_lt (Nat.lt_succ_self _))
  ·exact absurd (List.mem_singleton.mp q) (Nat.ne_of_gt lt)
 ·have p':its[i]?=some v:=by simpa using p
  exact strs_at hz p'
 ·exact ⟨_,#[],0,_,Heap.get?_push_of_some _ new,⟨rfl,rfl,rfl⟩,rfl,fun e he=>by simp at he,fun k=>by simp [dist],by decide,by rfl,rfl,rfl,fun q=>absurd rfl q⟩
 ·obtain ⟨h2,g2,d2,t2,o2⟩:=t
  cases (show g2=s.gens from m.gens)
  cases (show d2=s.drawn from m.drawn)
  cases (show o2=s.os from m.os)
  apply wpAny_pure
  refine wpAny_pure ⟨rfl,h h2 t2 x fun b o e=>m.heap b o ?_ (Heap.get?_push_of_some _ (kp b o e))⟩
  have lb:@LT.lt Nat _ b s.heap.objs.size:=Heap.lt_size e
  rw [sz]
  intro q
  rcases List.mem_cons.mp q with q | q
  ·exact absurd q (Nat.ne_of_lt lb)
  ·exact absurd (List.mem_singleton.mp q) (Nat.ne_of_lt (Nat.lt_succ_of_lt lb))
theorem setX_tuple {l:Addr} {its:List Value} {zs:List Str} {Q:Value->Shared->Prop} (hh:A.handled=none) (hl:s.heap.IsTuple l its.toArray) (hz:StrsAre its zs) (small:zs.length+1 < scanBound)
  (h:∀ (h':Heap) (tk:Nat),TxtX prog w h' s.heap.objs.size zs (!byTxt w)->(∀ b o,s.heap.get? b=some o->h'.get? b=some o)->Q (.ref s.heap.objs.size) { s with heap:=h',toks:=tk }) :
  wpAny (model prog w) A (call (.type "set") [.ref l]) Q E s:=by
 refine made_by PySem.F.called_set (PySem.F.typeCall_set_1 _) (new_set (.ref l) ?_)
 generalize hh1:s.heap.push { cls:=.type "set",dict:=none,data:=.set #[] 0 (.fresh 0 0 (!byTxt w)) }=h1
 have kp:∀ b o,s.heap.get? b=some o->h1.get? b=some o:=fun b o e=>by rw [<- hh1];exact Heap.get?_push_of_some _ e
 have sz:h1.objs.size=s.heap.objs.size+1:=by rw [<- hh1];exact Heap.size_push ..
 have new:h1.get? s.heap.objs.size=some { cls:=.type "set",dict:=none,data:=.set #[] 0 (.fresh 0 0 (!byTxt w)) }:=by rw [<- hh1];exact Heap.get?_push_size _ rfl
 have ty:({ s with heap:=h1 }:Shared).TypeIs (.ref s.heap.objs.size) "set" := ⟨_,new,rfl⟩
 refine ⟨ty,codeAny_call_builtin PySem.F.called_set.init.plain PySem.F.entry_set_init (check_set_init_1 ty ?_)⟩
 have el:its.length=zs.length:=strs_len hz
 obtain ⟨⟨c,d,dt,sl⟩,ho,rfl,n,rfl⟩:=hl
 have ho1:=kp _ _ ho
 have lt:@LT.lt Nat _ l s.heap.objs.size:=Heap.lt_size ho
 have il:h1.IsTuple l its.toArray:=⟨_,ho1,rfl,n,rfl⟩
 have n1:=sub_tup_set
 have n2:=sub_tup_frozen
 have n3:(Value.type "tuple" == Value.type "dict")=false:=by decide
 unfold Builtin.«set.__init__» noKeywords Builtin.Frozenset.updateFrom
 generalize pi:pyIter=it
 wp_walk
 subst pi
 apply wpAny_pyIter_tuple il
 apply wpAny_bind;apply wpAny_runValue
 have W:=(Walks.tuple (prog:=prog) (w:=w) (A:=A.in1.in1.in1) (by simpa using hh) h1.objs.size l (by rw [sz];exact Nat.ne_of_lt (Nat.lt_succ_of_lt lt)) its.toArray).toS
 have e0:its.toArray.size=zs.length:=by rw [List.size_toArray];exact el
 rw [e0] at W
 refine texts_inX (led:=!byTxt w) (zs:=zs) W ?_ (fun i v p=>?_) small zs.length 0 _ (Nat.zero_add _) ⟨⟨_,Heap.get?_push_size _ rfl,rfl,rfl⟩,il.push _⟩ ?_ fun t m x=>?_
 ·rw [sz]
  intro q
  rcases List.mem_cons.mp q with q | q
  ·exact absurd q (Nat.ne_of_lt (Nat.lt_succ_self _))
  ·exact absurd (List.mem_singleton.mp q) (Nat.ne_of_gt lt)
 ·have p':its[i]?=some v:=by simpa using p
  exact strs_at hz p'
 ·exact ⟨_,#[],0,_,Heap.get?_push_of_some _ new,⟨rfl,rfl,rfl⟩,rfl,fun e he=>by simp at he,fun k=>by simp [dist],by decide,by rfl,rfl,rfl,fun q=>absurd rfl q⟩
 ·obtain ⟨h2,g2,d2,t2,o2⟩:=t
  cases (show g2=s.gens from m.gens)
  cases (show d2=s.drawn from m.drawn)
  cases (show o2=s.os from m.os)
  apply wpAny_pure
  refine wpAny_pure ⟨rfl,h h2 t2 x fun b o e=>m.heap b o ?_ (Heap.get?_push_of_some _ (kp b o e))⟩
  have lb:@LT.lt Nat _ b s.heap.objs.size:=Heap.lt_size e
  rw [sz]
  intro q
  rcases List.mem_cons.mp q with q | q
  ·exact absurd q (Nat.ne_of_lt lb)
  ·exact absurd (List.mem_singleton.mp q) (Nat.ne_of_lt (Nat.lt_succ_of_lt lb))
end
end L2
namespace L3
open PySem
def Rising (xs:Array Nat):Prop:=∀ i j (hi:i < xs.size) (hj:j < xs.size),i < j->xs[i] < xs[j]
theorem below_go {xs:Array Nat} {j:Nat} (r:Rising xs):∀ (fuel lo hi:Nat),lo<=hi->hi<=xs.size->hi - lo<=fuel->(∀ i (h:i < xs.size),i < lo->xs[i] < j)->(∀ i (h:i < xs.size),hi<=i->j<=xs[i]) ->
  SetTable.below.go xs j fuel lo hi<=xs.size/\(∀ i (h:i < xs.size),i < SetTable.below.go xs j fuel lo hi->xs[i] < j)/\(∀ i (h:i < xs.size),SetTable.below.go xs j fuel lo hi<=i->j<=xs[i])
 | 0,lo,hi,a,b,c,p,q=>by
  have e:lo=hi:=by omega
  subst e
  exact ⟨b,p,q⟩
 | fuel+1,lo,hi,a,b,c,p,q=>by
  rw [SetTable.below.go]
  by_cases h:lo < hi
  ·rw [if_pos h]
   dsimp only
   have hm:(lo+hi) / 2 < xs.size:=by omega
   have e:xs.getD ((lo+hi) / 2) j=xs[(lo+hi) / 2]:=by simp [Array.getD,hm]
   rw [e]
   by_cases hx:xs[(lo+hi) / 2] < j
   ·rw [if_pos hx]
    refine below_go r fuel _ _ (by omega) b (by omega) (fun i hi' hl=>?_) q
    by_cases ie:i=(lo+hi) / 2
    ·subst ie;exact hx
    ·exact Nat.lt_trans (r i _ hi' hm (by omega)) hx
   ·rw [if_neg hx]
    refine below_go r fuel _ _ (by omega) (by omega) (by omega) p (fun i hi' hl=>?_)
    by_cases ie:i=(lo+hi) / 2
    ·subst ie;omega
    ·have:=r _ i hm hi' (by omega);omega
  ·rw [if_neg h]
   have e:lo=hi:=by omega
   subst e
   exact ⟨b,p,q⟩
theorem below_is {xs:Array Nat} (r:Rising xs) (j:Nat):SetTable.below xs j<=xs.size/\(∀ i (h:i < xs.size),i < SetTable.below xs j->xs[i] < j)/\(∀ i (h:i < xs.size),SetTable.below xs j<=i->j<=xs[i]) :=
 below_go r _ _ _ (Nat.zero_le _) (Nat.le_refl _) (by omega) (fun i h z=>absurd z (Nat.not_lt_zero _)) (fun i h z=>absurd h (by omega))
theorem below_step {xs:Array Nat} (r:Rising xs) {i:Nat} (hi:i<=xs.size):SetTable.below xs (if i=0 then 0 else xs.getD (i - 1) 0+1)=i:=by
 obtain ⟨a,b,c⟩:=below_is r (if i=0 then 0 else xs.getD (i - 1) 0+1)
 generalize hj:SetTable.below xs (if i=0 then 0 else xs.getD (i - 1) 0+1)=j at a b c ⊢
 cases i with
 | zero =>
  rcases Nat.eq_zero_or_pos j with h | h
  ·exact h
  ·have:=b 0 (by omega) h
   simp at this
 | succ k =>
  rw [if_neg (by omega),Nat.add_sub_cancel] at b c
  have hk:k < xs.size:=by omega
  have e:xs.getD k 0=xs[k]:=by simp [hk]
  rw [e] at b c
  rcases Nat.lt_trichotomy j (k+1) with h | h | h
  ·have:=c k hk (by omega)
   omega
  ·exact h
  ·have:=b (k+1) (by omega) h
   have:=r k (k+1) hk (by omega) (by omega)
   omega
end L3
namespace L2
open PySem PySem.Spec PyProof.Rows
theorem entry_set_iter:entryFor table "set.__iter__" = some Builtin.«frozenset.__iter__» :=
 entryFor_alias (id':="frozenset.__iter__") (by kernel_rfl) rfl (by decide +kernel) (by kernel_rfl)
theorem slot_si_next:Slot "set_iterator" "__next__" "set_iterator.__next__" :=
 .of (owner:="set_iterator") (n:="__next__") (by rw [typeLookup_type,builtinLookup_eq_fast];kernel_rfl) (by decide +kernel) (by decide +kernel) (by decide +kernel)
  (by first | exact .inl (by decide +kernel) | exact .inr (by decide +kernel)) (by rw [isSubtype_type];kernel_rfl)
theorem entry_si_next:entryFor table "set_iterator.__next__" = some Builtin.«set_iterator.__next__»:=entryFor_of_tree (by kernel_rfl)
theorem args_si_next (a:Value):argsOk "set_iterator.__next__" ⟨[a],[]⟩:=by unfold argsOk;kernel_rfl
theorem slot_si_iter:Slot "set_iterator" "__iter__" "set_iterator.__iter__" :=
 .of (owner:="set_iterator") (n:="__iter__") (by rw [typeLookup_type,builtinLookup_eq_fast];kernel_rfl) (by decide +kernel) (by decide +kernel) (by decide +kernel)
  (by first | exact .inl (by decide +kernel) | exact .inr (by decide +kernel)) (by rw [isSubtype_type];kernel_rfl)
theorem entry_si_iter:entryFor table "set_iterator.__iter__" = some Builtin.«dict_keyiterator.__iter__» :=
 entryFor_alias (id':="dict_keyiterator.__iter__") (by kernel_rfl) rfl (by decide +kernel) (by kernel_rfl)
theorem args_si_iter (a:Value):argsOk "set_iterator.__iter__" ⟨[a],[]⟩:=by unfold argsOk;kernel_rfl
structure SetW (w:World) (h:Heap) (a:Addr) (es:Array (Int × Value)) (ep:Nat) (t:SetTable):Prop where
 ho:∃ o,h.get? a=some o/\o.ExactSet/\o.data=.set es ep t
 fits:t.fits es.size=true
 led:t.led=!byTxt w
 pl:1 < es.size->t.plain=false\/(t.plain=true/\L3.Rising t.place)
theorem SetW.keep {w:World} {h h':Heap} {a:Addr} {es:Array (Int × Value)} {ep:Nat} {t:SetTable} (x:SetW w h a es ep t) (k:∀ o,h.get? a=some o->h'.get? a=some o):SetW w h' a es ep t :=
 let ⟨o,ho,r⟩:=x.ho;{ x with ho:=⟨o,k o ho,r⟩ }
theorem SetW.typeIs {w:World} {s:Shared} {a:Addr} {es:Array (Int × Value)} {ep:Nat} {t:SetTable} (x:SetW w s.heap a es ep t):s.TypeIs (.ref a) "set" := let ⟨o,ho,e,_⟩:=x.ho;⟨o,ho,e.1⟩
theorem pick_go {α:Type} (next:Nat->Nat):∀ (n k:Nat) (left:List α) (out:Array α),left.length=n->(pickOrder.go next n k left out).toList.Perm (out.toList++left)
 | 0,k,left,out,h=>by
  have e:left=[]:=List.eq_nil_of_length_eq_zero h
  subst e;simp [pickOrder.go]
 | n+1,k,left,out,h=>by
  have lt:next k % left.length < left.length:=Nat.mod_lt _ (by omega)
  unfold pickOrder.go
  rw [List.getElem?_eq_getElem lt]
  dsimp only
  refine (pick_go next n (k+1) _ _ (by rw [List.length_eraseIdx_of_lt lt];omega)).trans ?_
  rw [Array.toList_push,List.append_assoc]
  exact List.Perm.append_left _ (erase_perm left _ lt)
theorem pick_perm {α:Type} (next:Nat->Nat) (xs:Array α):(pickOrder next xs).toList.Perm xs.toList:=by
 have h:=pick_go next xs.size 0 xs.toList #[] (by simp)
 simpa [pickOrder] using h
def SIter (h:Heap) (I S:Addr) (first:Value) (i n ep:Nat):Prop :=
 ∃ o,h.get? I=some o/\o.cls=.type "set_iterator" /\ o.data=.fields #[first,.int i 0,.ref S,.int n 0,.int ep 0]
theorem SIter.typeIs {s:Shared} {I S:Addr} {f:Value} {i n ep:Nat} (x:SIter s.heap I S f i n ep):s.TypeIs (.ref I) "set_iterator" := let ⟨o,ho,e,_⟩:=x;⟨o,ho,e⟩
theorem SIter.keep {h h':Heap} {I S:Addr} {f:Value} {i n ep:Nat} (x:SIter h I S f i n ep) (k:∀ o,h.get? I=some o->h'.get? I=some o):SIter h' I S f i n ep:=let ⟨o,ho,r⟩:=x;⟨o,k o ho,r⟩
section
variable {prog:Program} {w:World} {A:Around} {E:Value->Shared->Prop} {s:Shared}
theorem any_byText {Q:Bool->Shared->Prop} (h:Q (byTxt w) s):wpAny (model prog w) A setsByText Q E s:=by
 unfold setsByText
 apply wpAny_bind
 apply wpAny_askSetting
 exact wpAny_pure h
theorem si_stop {I:Addr} {o:Obj} {vs:Array Value} {Q:Option Value->Shared->Prop} (hh:A.handled=none) (ho:s.heap.get? I=some o) (hd:o.data=.fields vs) (h2:2 < vs.size)
  (hQ:∀ h',Heap.ExtBut I s.heap h'->Q none { s with heap:=h' }) :
  wpAny (model prog w) A.in1 (setField (.ref I) 2 .none >>= fun _=>newExc (.type "StopIteration") [] >>= fun e=>raiseNew (α:=Fin) e)
  (fun fin s'=>∃ v,fin=Fin.done (Flow.ret v)/\wpAny (model prog w) A (pure (some v)) Q E s')
  (fun e s'=>wpAny (model prog w) A (do
     let __do_lift <- isInstance e (Value.type "StopIteration")
     if __do_lift=true then pure none else throw e) Q E s') s:=by
 refine wpAny_bind (wpAny_setField ho hd h2 ?_)
 show wpAny _ _ (newExc (.type "StopIteration") [] >>= _) _ _ _
 refine wpAny_bind ?_
 simp only [newExc,newTuple]
 refine wpAny_bind (wpAny_newObj_type ?_ (by size_fits))
 refine wpAny_bind (m:=firstArgMember _ _) (wpAny_of_eq (a:=Value.none) (by first | rfl | (simp only [firstArgMember];rfl)) ?_)
 refine wpAny_newObj_type ?_ (by size_fits)
 simp only [raiseNew]
 refine wpAny_bind (wpAny_handled ?_)
 rw [show A.in1.handled=none from hh]
 refine wpAny_bind (wpAny_pure (wpAny_throw ?_))
 refine wpAny_bind (wpAny_isInstance (T:="StopIteration") (b:=true) ⟨_,Heap.get?_push_size _ rfl,rfl⟩ isSubtype_stop ?_)
 exact wpAny_pure (hQ _ (((Heap.SameBut.update ..).extBut.push _).push _))
theorem si_next_int {I S:Addr} {sl i ep:Nat} {es:Array (Int × Value)} {t:SetTable} {Q:Option Value->Shared->Prop} (hh:A.handled=none) (hit:SIter s.heap I S (.int sl 0) i es.size ep) (x:SetW w s.heap S es ep t) (r:Option (Value × Nat))
  (hn:∀ (Q':Option (Value × Nat)->Shared->Prop) E',Q' r s->wpAny (model prog w) A.in1 (setNext S sl i ep) Q' E' s)
  (h1:∀ v nx h',r=some (v,nx)->SIter h' I S (.int nx 0) (i+1) es.size ep->Heap.SameBut I s.heap h'->Q (some v) { s with heap:=h' })
  (h2:r=none->∀ h',Heap.ExtBut I s.heap h'->Q none { s with heap:=h' }):wpAny (model prog w) A (pyNext (.ref I)) Q E s:=by
 obtain ⟨o,ho,hc,hd⟩:=id hit
 obtain ⟨os,hos,hes,hds⟩:=x.ho
 unfold pyNext
 refine wpAny_bind (wpAny_attempt (wpAny_callSpecial?_slot (name:=Str.ofString "__next__") hit.typeIs slot_si_next
  (wpAny_call_entry slot_si_next hit.typeIs entry_si_next ?_ (args_si_next _))))
 unfold Builtin.«set_iterator.__next__»
 refine wpAny_bind (wpAny_pure ?_)
 refine wpAny_bind (wpAny_fieldsOf ho hd ?_)
 dsimp only
 refine wpAny_bind (wpAny_setEntries_of hos hds x.fits ?_)
 rw [if_neg (by simp)]
 simp only [Int.toNat_natCast]
 refine wpAny_bind (hn _ _ ?_)
 cases r with
 | none=>exact si_stop hh ho hd (by simp) (h2 rfl)
 | some p =>
  obtain ⟨v,nx⟩:=p
  dsimp only
  refine wpAny_bind (wpAny_setField ho hd (by simp) ?_)
  have ho1:=Heap.get?_update_self (Obj.mapFields (·.setIfInBounds 0 (rawInt nx))) ho (Obj.isFreed_of_fields (Obj.data_mapFields hd _))
  have hd1:=Obj.data_mapFields hd (·.setIfInBounds 0 (rawInt nx))
  refine wpAny_bind (wpAny_setField (s:={ s with heap:=_ }) ho1 hd1 (by simp) ?_)
  refine wpAny_pure ⟨_,rfl,wpAny_pure (h1 v nx _ rfl ⟨_,Heap.get?_update_self _ ho1 (Obj.isFreed_of_fields (Obj.data_mapFields hd1 _)),((Obj.cls_mapFields ..).trans (Obj.cls_mapFields ..)).trans hc,?_⟩ ((Heap.SameBut.update ..).trans (Heap.SameBut.update ..)))⟩
  rw [Obj.data_mapFields hd1];simp [rawInt]
theorem si_next_ref {I S T:Addr} {i ep:Nat} {es:Array (Int × Value)} {t:SetTable} {ord:List Nat} {Q:Option Value->Shared->Prop} (hh:A.handled=none) (hit:SIter s.heap I S (.ref T) i es.size ep) (x:SetW w s.heap S es ep t)
  (ht:s.heap.get? T=some { cls:=.type "tuple",data:=.seq (ord.map fun (k:Nat)=>rawInt k).toArray }) (le:∀ k∈ord,k < es.size)
  (h1:∀ k v h',ord[i]?=some k->es[k]?.map (·.2)=some v->SIter h' I S (.ref T) (i+1) es.size ep->Heap.SameBut I s.heap h'->Q (some v) { s with heap:=h' })
  (h2:ord[i]?=none->∀ h',Heap.ExtBut I s.heap h'->Q none { s with heap:=h' }):wpAny (model prog w) A (pyNext (.ref I)) Q E s:=by
 obtain ⟨o,ho,hc,hd⟩:=id hit
 obtain ⟨os,hos,hes,hds⟩:=x.ho
 unfold pyNext
 refine wpAny_bind (wpAny_attempt (wpAny_callSpecial?_slot (name:=Str.ofString "__next__") hit.typeIs slot_si_next
  (wpAny_call_entry slot_si_next hit.typeIs entry_si_next ?_ (args_si_next _))))
 unfold Builtin.«set_iterator.__next__»
 refine wpAny_bind (wpAny_pure ?_)
 refine wpAny_bind (wpAny_fieldsOf ho hd ?_)
 dsimp only
 refine wpAny_bind (wpAny_setEntries_of hos hds x.fits ?_)
 rw [if_neg (by simp)]
 simp only [Int.toNat_natCast]
 have nx:(List.map (fun (k:Nat)=>rawInt k) ord).toArray[i]?=Option.map (fun k:Nat=>rawInt (k:Int)) ord[i]?:=by rw [List.getElem?_toArray,List.getElem?_map]
 refine wpAny_bind ?_
 unfold seqItems?
 refine wpAny_bind (wpAny_load ht (wpAny_pure ?_))
 dsimp only
 rw [nx]
 cases hk:ord[i]? with
 | none =>
  rw [Option.map_none]
  dsimp only
  refine wpAny_bind (wpAny_setField ho hd (by simp) ?_)
  have ho1:=Heap.get?_update_self (Obj.mapFields (·.setIfInBounds 0 (rawInt 0))) ho (Obj.isFreed_of_fields (Obj.data_mapFields hd _))
  have hd1:=Obj.data_mapFields hd (·.setIfInBounds 0 (rawInt 0))
  exact si_stop (s:={ s with heap:=_ }) hh ho1 hd1 (by simp) fun h' e=>h2 hk h' fun b o' hb q=>e b o' hb ((Heap.SameBut.update ..).extBut b o' hb q)
 | some k =>
  have lt:=le k (List.mem_of_getElem? hk)
  dsimp only [Option.map_some,rawInt]
  refine wpAny_bind ?_
  unfold setNextDrawn
  refine wpAny_bind (wpAny_setState_of hos hds x.fits ?_)
  dsimp only
  rw [if_neg (by simp),Int.toNat_natCast,Array.getElem?_eq_getElem lt]
  refine wpAny_pure ?_
  refine wpAny_bind (wpAny_setField ho hd (by simp) ?_)
  refine wpAny_pure ⟨_,rfl,wpAny_pure (h1 k _ _ hk (by rw [Array.getElem?_eq_getElem lt];rfl) ⟨_,Heap.get?_update_self _ ho (Obj.isFreed_of_fields (Obj.data_mapFields hd _)),(Obj.cls_mapFields ..).trans hc,?_⟩ (Heap.SameBut.update ..))⟩
  rw [Obj.data_mapFields hd];simp [rawInt]
theorem next_text {S:Addr} {sl i ep:Nat} {es:Array (Int × Value)} {t:SetTable} (x:SetW w s.heap S es ep t) (hb:byTxt w=true) (Q':Option (Value × Nat)->Shared->Prop) (E':Value->Shared->Prop)
  (h:Q' (((pickOrder (w.params.setOrder S ep) es)[i]?).map fun e=>(e.2,sl)) s):wpAny (model prog w) A (setNext S sl i ep) Q' E' s:=by
 obtain ⟨os,hos,hes,hds⟩:=x.ho
 unfold setNext
 refine wpAny_bind (wpAny_setState_of hos hds x.fits ?_)
 dsimp only
 refine wpAny_bind (any_byText ?_)
 rw [if_pos hb,if_neg (by simp)]
 refine wpAny_bind ?_
 unfold setWalk
 refine wpAny_bind (wpAny_setState_of hos hds x.fits ?_)
 dsimp only
 refine wpAny_bind (any_byText ?_)
 rw [if_pos hb]
 refine wpAny_bind (wpAny_askSetting ?_)
 exact wpAny_pure (wpAny_pure h)
theorem next_few {S:Addr} {sl i ep:Nat} {es:Array (Int × Value)} {t:SetTable} (x:SetW w s.heap S es ep t) (hb:byTxt w=false) (few:¬ 1 < es.size\/t.plain=true) (Q':Option (Value × Nat)->Shared->Prop) (E':Value->Shared->Prop)
  (h:Q' (match es[SetTable.below t.place sl]?,t.place[SetTable.below t.place sl]? with | some (_,x),some j=>some (x,j+1) | _,_=>none) s):wpAny (model prog w) A (setNext S sl i ep) Q' E' s:=by
 obtain ⟨os,hos,hes,hds⟩:=x.ho
 have ld:t.led=true:=by rw [x.led,hb];rfl
 unfold setNext
 refine wpAny_bind (wpAny_setState_of hos hds x.fits ?_)
 dsimp only
 refine wpAny_bind (any_byText ?_)
 rw [hb,if_neg Bool.false_ne_true]
 rw [if_neg (by show ¬ ((!t.plain && decide (es.size > 1))=true);rcases few with few | few<;>simp [few])]
 refine wpAny_bind ?_
 show wpAny _ _ (if (!t.led && !es.isEmpty)=true then (unsupported "set:maker-not-led" : Sem Unit) else pure ()) _ _ _
 rw [if_neg (by rw [ld];simp)]
 exact wpAny_pure (wpAny_pure h)
theorem si_self {I S:Addr} {f:Value} {i n ep:Nat} {Q:Value->Shared->Prop} (hit:SIter s.heap I S f i n ep) (h:Q (.ref I) s):wpAny (model prog w) A (pyIter (.ref I)) Q E s:=by
 refine wpAny_pyIter_slot hit.typeIs slot_si_iter (wpAny_call_entry slot_si_iter hit.typeIs entry_si_iter ?_ (args_si_iter _))
 show wpAny _ _ (ret (.ref I)) _ _ s
 exact wpAny_pure ⟨_,rfl,"set_iterator",_,hit.typeIs,slot_si_next.lookup,h⟩
theorem walk_int {S I T:Addr} {es:Array (Int × Value)} {ep:Nat} {t:SetTable} {ys:List Value} {sl:Nat->Nat} (hIS:S≠I) (len:ys.length=es.size)
  (nx:∀ (A:Around) (s:Shared) (i:Nat) (Q':Option (Value × Nat)->Shared->Prop) (E':Value->Shared->Prop),i<=es.size->SetW w s.heap S es ep t->Q' ((ys[i]?).map fun v=>(v,sl (i+1))) s->wpAny (model prog w) A (setNext S (sl i) i ep) Q' E' s)
  (A:Around) (hh:A.handled=none):WalksS prog w A I [I,S,T] [I] (fun a b=>b=a) es.size (fun i v=>ys[i]?=some v) (fun i s=>SIter s.heap I S (.int (sl i) 0) i es.size ep/\SetW w s.heap S es ep t) where
 sub:=fun b hb=>by simp at hb;simp [hb]
 grefl:=fun _=>rfl
 gtrans:=fun _ _ _ h1 h2=>h2.trans h1
 frame:=fun i s h' tk st _ hk=>⟨st.1.keep fun o e=>hk I (by simp) o e,st.2.keep fun o e=>hk S (by simp) o e⟩
 item:=fun i s Q E hi st hQ=>by
  have lt:i < ys.length:=by omega
  have e:ys[i]?=some ys[i]:=List.getElem?_eq_getElem lt
  refine si_next_int hh st.1 st.2 (some (ys[i],sl (i+1))) (fun Q' E' q=>nx _ s i Q' E' (by omega) st.2 (by rw [e];exact q)) (fun v n h' r hit' hs=>?_) fun r=>nomatch r
  cases r
  exact hQ _ _ e ⟨hit',st.2.keep fun o q=>hs.extBut S o hIS q⟩ ⟨fun b o hb q=>hs.extBut b o (fun z=>hb (by simp [z])) q,rfl,rfl,rfl,Nat.le_refl _⟩
 done:=fun s Q E st hQ=>by
  have e:ys[es.size]?=none:=List.getElem?_eq_none (by omega)
  refine si_next_int hh st.1 st.2 none (fun Q' E' q=>nx _ s _ Q' E' (Nat.le_refl _) st.2 (by rw [e];exact q)) (fun v n h' r _ _=>nomatch r) fun _ h' he=>?_
  exact hQ _ ⟨fun b o hb q=>he b o (fun z=>hb (by simp [z])) q,rfl,rfl,rfl,Nat.le_refl _⟩
 self:=fun i s Q E st hQ=>si_self st.1 hQ
theorem walk_ref {S I T:Addr} {es:Array (Int × Value)} {ep:Nat} {t:SetTable} {ord:List Nat} (hIS:S≠I) (hIT:T≠I) (len:ord.length=es.size) (le:∀ k∈ord,k < es.size)
  (A:Around) (hh:A.handled=none):WalksS prog w A I [I,S,T] [I] (fun a b=>b=a) es.size (fun i v=>(ord.map fun k=>(es[k]?.map (·.2)).getD .none)[i]?=some v)
   (fun i s=>SIter s.heap I S (.ref T) i es.size ep/\SetW w s.heap S es ep t/\s.heap.get? T=some { cls:=.type "tuple",data:=.seq (ord.map fun (k:Nat)=>rawInt k).toArray }) where
 sub:=fun b hb=>by simp at hb;simp [hb]
 grefl:=fun _=>rfl
 gtrans:=fun _ _ _ h1 h2=>h2.trans h1
 frame:=fun i s h' tk st _ hk=>⟨st.1.keep fun o e=>hk I (by simp) o e,st.2.1.keep fun o e=>hk S (by simp) o e,hk T (by simp) _ st.2.2⟩
 item:=fun i s Q E hi st hQ=>by
  refine si_next_ref hh st.1 st.2.1 st.2.2 le (fun k v h' hk hv hit' hs=>?_) fun r=>?_
  ·refine hQ _ _ (by rw [List.getElem?_map,hk];simp [hv]) ⟨hit',st.2.1.keep fun o q=>hs.extBut S o hIS q,hs.extBut T _ hIT st.2.2⟩ ⟨fun b o hb q=>hs.extBut b o (fun z=>hb (by simp [z])) q,rfl,rfl,rfl,Nat.le_refl _⟩
  ·exact absurd (List.getElem?_eq_none_iff.mp r) (by omega)
 done:=fun s Q E st hQ=>by
  refine si_next_ref hh st.1 st.2.1 st.2.2 le (fun k v h' hk _ _ _=>?_) fun _ h' he=>?_
  ·exact absurd hk (by rw [List.getElem?_eq_none (by omega)];simp)
  ·exact hQ _ ⟨fun b o hb q=>he b o (fun z=>hb (by simp [z])) q,rfl,rfl,rfl,Nat.le_refl _⟩
 self:=fun i s Q E st hQ=>si_self st.1 hQ
theorem below_one_0 (p:Nat):SetTable.below #[p] 0=0:=by simp [SetTable.below,SetTable.below.go]
theorem below_one_1 (p:Nat):SetTable.below #[p] (p+1)=1:=by simp [SetTable.below,SetTable.below.go]
theorem arr_one {α:Type} (xs:Array α) (h:xs.size=1):∃ e,xs=#[e]:=by
 obtain ⟨l⟩:=xs
 match l,h with
 | [e],_=>exact ⟨e,rfl⟩
theorem set_iter {S:Addr} {es:Array (Int × Value)} {ep:Nat} {t:SetTable} {Q:Value->Shared->Prop} (x:SetW w s.heap S es ep t) (small:es.size<=sizeLine)
  (h:∀ (I T:Addr) (ys:List Value) (St:Nat->Shared->Prop) (h':Heap) (dr:Drawn),ys.Perm (es.toList.map (·.2))->@LE.le Nat _ s.heap.objs.size I->(T=S\/@LE.le Nat _ s.heap.objs.size T)->(∀ b o,s.heap.get? b=some o->h'.get? b=some o) ->
   @LT.lt Nat _ I h'.objs.size->@LT.lt Nat _ T h'.objs.size ->
   (∀ A:Around,A.handled=none->WalksS prog w A I [I,S,T] [I] (fun a b=>b=a) es.size (fun i v=>ys[i]?=some v) St)->(∀ i s',St i s'->s'.TypeIs (.ref I) "set_iterator")->St 0 { s with heap:=h',drawn:=dr }->Q (.ref I) { s with heap:=h',drawn:=dr }) :
  wpAny (model prog w) A (pyIter (.ref S)) Q E s:=by
 obtain ⟨os,hos,hes,hds⟩:=x.ho
 have ltS:@LT.lt Nat _ S s.heap.objs.size:=Heap.lt_size hos
 refine wpAny_pyIter_slot x.typeIs PySem.F.slot_set_iter (wpAny_call_entry PySem.F.slot_set_iter x.typeIs entry_set_iter ?_ (PySem.F.args_set_iter_1 _))
 unfold Builtin.«frozenset.__iter__» Builtin.Frozenset.slot0 slotArgs
 simp only [List.isEmpty_nil,Bool.not_true,Bool.false_eq_true,↓reduceIte,bind_assoc,List.length_nil,bne_self_eq_false]
 unfold Builtin.Frozenset.addrOf Builtin.Frozenset.sizeOf
 refine wpAny_bind (wpAny_pure ?_)
 dsimp only
 refine wpAny_bind (wpAny_pure ?_)
 refine wpAny_bind (wpAny_bind (wpAny_setEntries_of hos hds x.fits (wpAny_pure ?_)))
 refine wpAny_bind ?_
 unfold setDrawn
 refine wpAny_bind (wpAny_setState_of hos hds x.fits ?_)
 dsimp only
 refine wpAny_bind (any_byText ?_)
 refine wpAny_pure ?_
 show wpAny _ _ (if (!byTxt w && (!t.plain && decide (es.size > 1)))=true then _ else _) _ _ _
 have plainRoad:∀ (ys:List Value) (sl:Nat->Nat),sl 0=0->ys.Perm (es.toList.map (·.2))->(∀ (A:Around) (s:Shared) (i:Nat) (Q':Option (Value × Nat)->Shared->Prop) (E':Value->Shared->Prop),i<=es.size->SetW w s.heap S es ep t->Q' ((ys[i]?).map fun v=>(v,sl (i+1))) s->wpAny (model prog w) A (setNext S (sl i) i ep) Q' E' s) ->
   wpAny (model prog w) A.in1 (do
     let first <- pure (rawInt 0)
     let __do_lift <- setEpoch S
     let __do_lift <- newFields "set_iterator" [first,rawInt 0,Value.ref S,rawInt es.size,rawInt __do_lift]
     ret __do_lift) (fun fin s'=>∃ v,fin=Fin.done (Flow.ret v)/\∃ T' r,s'.TypeIs v T'/\typeLookup (Value.type T') (Str.ofString "__next__")=pure (some r)/\Q v s') E s:=fun ys sl s0 hp nx=>by
  have len:ys.length=es.size:=by rw [hp.length_eq];simp
  refine wpAny_bind (wpAny_pure (wpAny_bind (wpAny_setEpoch_of hos hds x.fits ?_)))
  refine wpAny_bind (wpAny_newObj_type (wpAny_pure ⟨_,rfl,"set_iterator",_,⟨_,Heap.get?_push_size _ rfl,rfl⟩,slot_si_next.lookup,?_⟩))
  have sz:(s.heap.push { cls:=.type "set_iterator",data:=.fields #[rawInt 0,rawInt 0,Value.ref S,rawInt es.size,rawInt ep] }).objs.size=s.heap.objs.size+1:=Heap.size_push ..
  refine h s.heap.objs.size S ys _ _ s.drawn hp (Nat.le_refl _) (.inl rfl) (fun b o e=>Heap.get?_push_of_some _ e) (by rw [sz];exact Nat.lt_succ_self _) (by rw [sz];exact Nat.lt_succ_of_lt ltS)
   (fun A hh=>walk_int (t:=t) (ep:=ep) (sl:=sl) (Nat.ne_of_lt ltS) len nx A hh) (fun i s' st=>st.1.typeIs) ⟨⟨_,Heap.get?_push_size _ rfl,rfl,by rw [s0];simp [rawInt]⟩,x.keep fun o e=>Heap.get?_push_of_some _ e⟩
 cases hb:byTxt w with
 | true =>
  rw [if_neg (by simp)]
  refine plainRoad ((pickOrder (w.params.setOrder S ep) es).toList.map (·.2)) (fun _=>0) rfl ((pick_perm _ es).map _) fun A s i Q' E' _ x' q=>next_text x' hb Q' E' ?_
  rw [List.getElem?_map,Array.getElem?_toList,Option.map_map] at q
  exact q
 | false =>
  have fz:t.place.size=es.size:=by
   have:=x.fits
   unfold SetTable.fits at this
   simp at this;exact this.1
  by_cases many:1 < es.size
  ·rcases x.pl many with np | ⟨yp,ri⟩
   rotate_left
   ·rw [if_neg (by rw [yp];simp)]
    refine plainRoad (es.toList.map (·.2)) (fun i=>if i=0 then 0 else t.place.getD (i - 1) 0+1) rfl (.refl _) fun A s i Q' E' hi x' q=>next_few x' hb (.inr yp) Q' E' ?_
    have bl:SetTable.below t.place (if i=0 then 0 else t.place.getD (i - 1) 0+1)=i:=L3.below_step ri (by rw [fz];exact hi)
    rw [bl]
    have e1:(es.toList.map (·.2))[i]?=(es[i]?).map (·.2):=by rw [List.getElem?_map,Array.getElem?_toList]
    rw [e1] at q
    by_cases c:i < es.size
    ·rw [Array.getElem?_eq_getElem c] at q ⊢
     rw [Array.getElem?_eq_getElem (show i < t.place.size by omega)]
     have e2:t.place.getD (i+1 - 1) 0=t.place[i]'(by omega):=by simp [fz,c]
     simp only [Nat.add_one_ne_zero,if_false] at q
     rw [e2] at q
     exact q
    ·rw [Array.getElem?_eq_none (by omega)] at q ⊢
     exact q
   rw [if_pos (by rw [np];simp [many])]
   refine wpAny_bind (draw_order es.size _ _ _ (by simp) fun ord dr hp=>?_)
   have lo:ord.length=es.size:=by rw [hp.length_eq];simp
   have le:∀ k∈ord,k < es.size:=fun k hk=>by simpa using hp.mem_iff.mp hk
   refine wpAny_bind (wpAny_newTuple ?_ (by rw [List.length_map,lo];exact small))
   generalize hh1:s.heap.push { cls:=.type "tuple",data:=.seq (ord.map fun (k:Nat)=>rawInt k).toArray }=h1
   have kp:∀ b o,s.heap.get? b=some o->h1.get? b=some o:=fun b o e=>by rw [<- hh1];exact Heap.get?_push_of_some _ e
   have sz:h1.objs.size=s.heap.objs.size+1:=by rw [<- hh1];exact Heap.size_push ..
   have new:h1.get? s.heap.objs.size=some { cls:=.type "tuple",data:=.seq (ord.map fun (k:Nat)=>rawInt k).toArray }:=by rw [<- hh1];exact Heap.get?_push_size _ rfl
   refine wpAny_bind (wpAny_setEpoch_of (s:={ s with heap:=h1,drawn:=dr }) (kp _ _ hos) hds x.fits ?_)
   refine wpAny_bind (wpAny_newObj_type (wpAny_pure ⟨_,rfl,"set_iterator",_,⟨_,Heap.get?_push_size _ rfl,rfl⟩,slot_si_next.lookup,?_⟩))
   have sz2:(h1.push { cls:=.type "set_iterator",data:=.fields #[Value.ref s.heap.objs.size,rawInt 0,Value.ref S,rawInt es.size,rawInt ep] }).objs.size=h1.objs.size+1:=Heap.size_push ..
   refine h h1.objs.size s.heap.objs.size _ _ _ dr ?_ (by rw [sz];exact Nat.le_succ _) (.inr (Nat.le_refl _)) (fun b o e=>Heap.get?_push_of_some _ (kp b o e)) (by rw [sz2];exact Nat.lt_succ_self _) (by rw [sz2,sz];exact Nat.lt_succ_of_lt (Nat.lt_succ_self _))
    (fun A hh=>walk_ref (t:=t) (ep:=ep) (ord:=ord) (by rw [sz];exact Nat.ne_of_lt (Nat.lt_succ_of_lt ltS)) (by rw [sz];exact Nat.ne_of_lt (Nat.lt_succ_self _)) lo le A hh) (fun i s' st=>st.1.typeIs) ⟨⟨_,Heap.get?_push_size _ rfl,rfl,by simp [rawInt]⟩,x.keep fun o e=>Heap.get?_push_of_some _ (kp _ _ e),Heap.get?_push_of_some _ new⟩
   refine (hp.map _).trans (.of_eq ?_)
   refine List.ext_getElem? fun j=>?_
   rw [List.getElem?_map,List.getElem?_map]
   by_cases hj:j < es.size
   ·have e1:(List.range es.size)[j]?=some j:=List.getElem?_range hj
    have e2:es.toList[j]?=some es[j]:=by simp [hj]
    rw [e1,e2];simp [hj]
   ·have e1:(List.range es.size)[j]?=none:=List.getElem?_eq_none (by simp;omega)
    have e2:es.toList[j]?=none:=List.getElem?_eq_none (by simp;omega)
    rw [e1,e2];rfl
  ·rw [if_neg (by simp [many])]
   refine plainRoad (es.toList.map (·.2)) (fun i=>if i=0 then 0 else t.place.getD 0 0+1) rfl (.refl _) fun A s i Q' E' hi x' q=>next_few x' hb (.inl many) Q' E' ?_
   have e0:es.size=0\/es.size=1:=by omega
   rcases e0 with e0 | e0
   ·have e1:i=0:=by omega
    subst e1
    have ee:es=#[]:=Array.eq_empty_of_size_eq_zero e0
    subst ee
    simpa using q
   ·obtain ⟨e,rfl⟩:∃ e,es=#[e]:=arr_one es e0
    obtain ⟨p,hp⟩:∃ p,t.place=#[p]:=arr_one t.place (by rw [fz];rfl)
    rw [hp]
    have hi':i=0\/i=1:=by simp at hi;omega
    rcases hi' with rfl | rfl
    ·rw [if_pos rfl,below_one_0]
     simpa [hp] using q
    ·rw [if_neg (by decide)]
     have:SetTable.below #[p] ((#[p]:Array Nat).getD 0 0+1)=1:=below_one_1 p
     rw [this]
     simpa using q
theorem hint_set {r:Addr} {Q:Bool->Shared->Prop} (hT:s.TypeIs (.ref r) "set") (h:Q false s):wpAny (model prog w) A (Builtin.List.listLengthHint (.ref r)) Q E s:=by
 unfold Builtin.List.listLengthHint
 refine wpAny_bind (wpAny_specialOf hT PySem.F.slot_set_len.lookup ?_)
 generalize hid:("set.__len__" : String)=id0
 wp_delta
 rw [show splitId id0=some ("set","__len__") from by subst hid;decide +kernel]
 subst hid
 refine wpAny_bind (wpAny_isInstance (T:="set") (b:=true) hT (by rw [isSubtype_type];kernel_rfl) ?_)
 refine wpAny_ite_split (fun hab=>absurd hab (by decide)) (fun _=>?_)
 refine wpAny_ite_split (fun _=>?_) (fun hab=>absurd (by decide +kernel) hab)
 refine wpAny_bind (wpAny_typeOf hT ?_)
 exact wpAny_pure h
theorem extend_set {S L:Addr} {es:Array (Int × Value)} {ep:Nat} {t:SetTable} {R:Result->Shared->Prop} (x:SetW w s.heap S es ep t) (small:es.size<=sizeLine) (hh:A.handled=none) (hSL:L≠S) (res:Value) (c₀:Nat) (hL:s.heap.get? L=some { cls:=.type "list",data:=.seq #[] c₀ })
  (hR:∀ h' tk dr acc' c',(∀ b o,b≠L->s.heap.get? b=some o->h'.get? b=some o)->h'.get? L=some { cls:=.type "list",dict:=none,data:=.seq acc' c',slots:=#[] }->acc'.toList.Perm (es.toList.map (·.2))->R (.ok (.ret res)) { s with heap:=h',toks:=tk,drawn:=dr }) :
  wpAny (model prog w) A.in1 (Builtin.List.listExtendWith (.ref L) (.ref S) res)
   (fun fin s'=>match fin with | .done f=>R (.ok f) s' | .again c'=>c'.quiet=true/\codeAny (model prog w) A c' R s') (fun e s'=>R (.error e) s') s:=by
 have ltL:@LT.lt Nat _ L s.heap.objs.size:=Heap.lt_size hL
 unfold Builtin.List.listExtendWith
 refine wpAny_bind (wpAny_typeOf (T:="set") x.typeIs ?_)
 have h1:Builtin.List.listSameRef (.ref L) (.ref S)=false:=by simp [Builtin.List.listSameRef,hSL]
 have n1:(Value.type "set" == Value.type "list")=false:=by decide
 have n2:(Value.type "set" == Value.type "tuple")=false:=by decide
 simp only [h1,n1,n2,Bool.or_false,Bool.false_eq_true,if_false]
 refine wpAny_bind (set_iter x small fun I T ys St h' dr hp hI hT kp ltI ltT W ty st=>?_)
 have hLf:L ∉ [I,S,T]:=by
  simp only [List.mem_cons,List.not_mem_nil,or_false,not_or]
  refine ⟨Nat.ne_of_lt (Nat.lt_of_lt_of_le ltL hI),hSL,?_⟩
  rcases hT with hT | hT
  ·rw [hT];exact hSL
  ·exact Nat.ne_of_lt (Nat.lt_of_lt_of_le ltL hT)
 have W1:=W A.in1 (by simpa using hh)
 have len:ys.length=es.size:=by rw [hp.length_eq];simp
 have key:∀ (h:Heap) (c₁ tk:Nat),St 0 { s with heap:=h,toks:=tk,drawn:=dr }->(∀ b o,b≠L->s.heap.get? b=some o->h.get? b=some o) ->
   h.get? L=some { cls:=.type "list",data:=.seq #[] c₁ }->codeAny (model prog w) A (.builtin "list.extend.loop" ⟨[.ref L,.ref I,res],[]⟩) R { s with heap:=h,toks:=tk,drawn:=dr }:=by
  intro h c₁ tk hst hk hL₁
  refine codeAny_extend_loopS W1 small L hLf res es.size 0 _ #[] c₁ rfl (Nat.zero_le _) hst hL₁ (ItemsOf.nil _) fun s' acc' c' hm hL' hacc=>?_
  obtain ⟨h2,g2,d2,t2,o2⟩:=s'
  cases (show g2=s.gens from hm.gens)
  cases (show d2=dr from hm.drawn)
  cases (show o2=s.os from hm.os)
  refine hR h2 t2 dr acc' c' (fun b o hb e=>hm.heap b o (fun hmem=>?_) (hk b o hb e)) hL' ?_
  ·rcases List.mem_cons.mp hmem with e' | hmem
   ·exact hb e'
   ·exact absurd (Heap.lt_size e) (by rw [List.mem_singleton.mp hmem];exact Nat.not_lt.mpr hI)
  ·have e:acc'.toList=ys:=by
    refine List.ext_getElem? fun j=>?_
    by_cases hj:j < es.size
    ·have l1:j < acc'.size:=by rw [hacc.1];exact hj
     have e1:acc'[j]?=some acc'[j]:=by simp [l1]
     rw [hacc.2 j _ e1,Array.getElem?_toList];exact e1
    ·rw [List.getElem?_eq_none (by rw [Array.length_toList,hacc.1];omega),List.getElem?_eq_none (by omega)]
   rw [e];exact hp
 have hL₁:=kp _ _ hL
 have x1:=x.keep fun o e=>kp _ _ e
 refine wpAny_bind (wpAny_holding (hint_set (s:={ s with heap:=h',drawn:=dr }) x1.typeIs ?_))
 refine wpAny_ite_split (fun _=>?_) (fun _=>wpAny_pure ⟨plainId_quiet PySem.F.plain_extend_loop _,key _ c₀ _ st (fun b o _ e=>kp b o e) hL₁⟩)
 refine wpAny_bind (wpAny_rule ?_)
 refine wpAny_bind ?_
 show wpAny _ _ (updateSeq L (·.push .none) >>= fun _=>updateSeq L (·.pop)) _ _ _
 refine wpAny_bind (wpAny_updateSeq hL₁ rfl ?_)
 have hL₂:=Heap.get?_update_self (Obj.mapSeq (·.push Value.none)) hL₁ rfl
 refine wpAny_updateSeq (hz:=by seq_fits) hL₂ rfl ?_
 have hL₃:=Heap.get?_update_self (Obj.mapSeq (·.pop)) hL₂ rfl
 refine wpAny_pure ⟨plainId_quiet PySem.F.plain_extend_loop _,key _ _ _ ?_ (fun b o hb e=>?_) hL₃⟩
 ·refine W1.frame 0 _ _ _ st (Nat.le_refl _) fun b hb o e=>?_
  have hbL:b≠L:=fun h=>hLf (h ▸ hb)
  exact (Heap.get?_update_other _ _ (Ne.symm hbL)).trans ((Heap.get?_update_other _ _ (Ne.symm hbL)).trans e)
 ·exact (Heap.get?_update_other _ _ (Ne.symm hb)).trans ((Heap.get?_update_other _ _ (Ne.symm hb)).trans (kp _ _ e))
theorem collect_set {S:Addr} {es:Array (Int × Value)} {ep:Nat} {t:SetTable} {R:List Value->Shared->Prop} (x:SetW w s.heap S es ep t) (small:es.size<=sizeLine) (hh:A.handled=none)
  (h:∀ (h':Heap) (tk:Nat) (dr:Drawn) (acc:List Value),(∀ b o,s.heap.get? b=some o->h'.get? b=some o)->acc.Perm (es.toList.map (·.2))->R acc { s with heap:=h',toks:=tk,drawn:=dr }) :
  wpAny (model prog w) A (collect (.ref S)) R E s:=by
 obtain ⟨os,hos,_⟩:=x.ho
 have ltS:@LT.lt Nat _ S s.heap.objs.size:=Heap.lt_size hos
 unfold collect
 refine wpAny_bind (wpAny_runValue (codeAny_builtin PySem.F.entry_proto_collect ?_))
 rw [Around.under_plainId PySem.F.plain_proto_collect _]
 show wpAny _ A.in1 (newList [] >>= fun l=>again (.builtin "list.__iadd__" ⟨[l,.ref S],[]⟩)) _ _ s
 refine wpAny_bind (wpAny_newObj_type ?_)
 refine wpAny_pure ⟨plainId_quiet PySem.F.plain_list_iadd _,codeAny_builtin PySem.F.entry_list_iadd ?_⟩
 rw [Around.under_plainId PySem.F.plain_list_iadd _]
 have hL:(s.heap.push { cls:=.type "list",data:=.seq ([]:List Value).toArray }).get? s.heap.objs.size=some { cls:=.type "list",data:=.seq #[] }:=Heap.get?_push_size _ rfl
 show wpAny _ A.in1 (Builtin.List.listExtendWith (.ref s.heap.objs.size) (.ref S) (.ref s.heap.objs.size)) _ _ _
 have key:=extend_set (prog:=prog) (w:=w) (A:=A) (s:={ s with heap:=s.heap.push { cls:=.type "list",data:=.seq ([]:List Value).toArray } })
  (R:=fun (q:Result) (s':Shared)=>∃ (h':Heap) (tk:Nat) (dr:Drawn) (acc':Array Value) (c':Nat),q=.ok (.ret (.ref s.heap.objs.size))/\s'={ s with heap:=h',toks:=tk,drawn:=dr } /\
   (∀ b o,s.heap.get? b=some o->h'.get? b=some o)/\h'.get? s.heap.objs.size=some { cls:=.type "list",dict:=none,data:=.seq acc' c',slots:=#[] }/\acc'.toList.Perm (es.toList.map (·.2)))
  (x.keep fun o e=>Heap.get?_push_of_some _ e) small hh (Nat.ne_of_gt ltS) (.ref s.heap.objs.size) 0 hL
  (fun h' tk dr acc' c' hk hL' hacc=>⟨h',tk,dr,acc',c',rfl,rfl,fun b o e=>hk b o (Nat.ne_of_lt (Heap.lt_size e)) (Heap.get?_push_of_some _ e),hL',hacc⟩)
 refine wpAny_mono key (fun fin s' x=>?_) fun e s' x=>?_
 ·cases fin with
  | done f =>
   obtain ⟨h',tk,dr,acc',c',e,rfl,hk,hL',hacc⟩:=x
   cases e
   show wpAny _ A (load s.heap.objs.size >>= _) _ _ _
   refine wpAny_bind (wpAny_load hL' ?_)
   exact wpAny_pure (h h' tk dr acc'.toList hk hacc)
  | again c₁ =>
   refine ⟨x.1,codeAny_mono x.2 fun q s₂ y=>?_⟩
   obtain ⟨h',tk,dr,acc',c',rfl,rfl,hk,hL',hacc⟩:=y
   show wpAny _ A (load s.heap.objs.size >>= _) _ _ _
   refine wpAny_bind (wpAny_load hL' ?_)
   exact wpAny_pure (h h' tk dr acc'.toList hk hacc)
 ·obtain ⟨_,_,_,_,_,e',_⟩:=x
  cases e'
theorem SetX.setW {a:Addr} {h:Heap} {zs:List Str} {o:Obj} {es:Array (Int × Value)} {ep:Nat} {t:SetTable} (x:SetX prog w h a zs (!byTxt w) o es ep t):SetW w h a es ep t :=
 ⟨⟨o,x.ho,x.ex,x.hd⟩,x.fits,x.led,fun q=>.inl (x.pl (by omega))⟩
end
theorem perm_of_sub {α:Type} [DecidableEq α]:∀ {l m:List α},l.Nodup->(∀ x∈l,x∈m)->m.length<=l.length->l.Perm m
 | [],m,_,_,h=>by
  have:m=[]:=List.eq_nil_of_length_eq_zero (by simpa using h)
  rw [this]
 | x::l,m,nd,sub,h=>by
  have nd':=List.nodup_cons.mp nd
  have hx:=sub x List.mem_cons_self
  have p:=List.perm_cons_erase hx
  refine (List.Perm.cons x (perm_of_sub nd'.2 (fun y hy=>?_) ?_)).trans p.symm
  ·have:=p.mem_iff.mp (sub y (List.mem_cons_of_mem _ hy))
   rcases List.mem_cons.mp this with e | e
   ·exact absurd (e ▸ hy) nd'.1
   ·exact e
  ·have:=List.length_erase_of_mem hx
   simp at h;omega
theorem addS_nd {σ:List Str} {z:Str} (h:σ.Nodup):(addS σ z).Nodup:=by
 unfold addS
 split
 ·exact h
 ·rename_i q;exact List.nodup_cons.mpr ⟨q,h⟩
theorem dist_nodup (zs:List Str):(dist zs).Nodup:=by
 unfold dist
 have:∀ (zs σ:List Str),σ.Nodup->(zs.foldl addS σ).Nodup:=by
  intro zs
  induction zs with
  | nil=>intro σ h;exact h
  | cons z zs ih=>intro σ h;exact ih _ (addS_nd h)
 exact this zs [] .nil
theorem mem_dist {zs:List Str} {k:Str}:k∈dist zs ↔ k∈zs:=by
 unfold dist
 have:∀ (zs σ:List Str),k∈zs.foldl addS σ ↔ k∈σ\/k∈zs:=by
  intro zs
  induction zs with
  | nil=>intro σ;simp
  | cons z zs ih=>intro σ;rw [List.foldl_cons,ih,mem_addS,List.mem_cons];exact ⟨fun h=>by rcases h with (h | h) | h<;>simp [h],fun h=>by rcases h with h | h | h<;>simp [h]⟩
 simpa using this zs []
theorem vals_str:∀ (us:List Value),(∀ u∈us,∃ z t,u=.str z t)->∃ zs,StrsAre us zs
 | [],_=>⟨[],.nil⟩
 | u::us,h=>by
  obtain ⟨z,t,rfl⟩:=h u List.mem_cons_self
  obtain ⟨zs,q⟩:=vals_str us fun v hv=>h v (List.mem_cons_of_mem _ hv)
  exact ⟨z::zs,.cons z t q⟩
theorem strs_mem:∀ {us:List Value} {zs:List Str} {z:Str},StrsAre us zs->(z∈zs ↔ ∃ u∈us,Value.isStrOf z u=true):=by
 intro us zs z h
 induction h with
 | nil=>simp
 | cons y t _ ih =>
  rw [List.mem_cons,ih]
  constructor
  ·rintro (rfl | ⟨u,hu,q⟩)
   ·exact ⟨_,List.mem_cons_self,by simp [Value.isStrOf]⟩
   ·exact ⟨u,List.mem_cons_of_mem _ hu,q⟩
  ·rintro ⟨u,hu,q⟩
   rcases List.mem_cons.mp hu with rfl | hu
   ·obtain ⟨t',e⟩:=Value.isStrOf_shape q
    cases e;exact .inl rfl
   ·exact .inr ⟨u,hu,q⟩
theorem strs_perm:∀ {us vs:List Value},us.Perm vs->∀ {zs:List Str},StrsAre us zs->∃ ys,StrsAre vs ys/\zs.Perm ys:=by
 intro us vs p
 induction p with
 | nil=>intro zs h;exact ⟨zs,h,.refl _⟩
 | cons x _ ih=>intro zs h;cases h with | cons z t h=>obtain ⟨ys,q,r⟩:=ih h;exact ⟨z::ys,.cons z t q,.cons z r⟩
 | swap x y l=>intro zs h;cases h with | cons z t h=>cases h with | cons z' t' h=>exact ⟨_,.cons z' t' (.cons z t h),.swap _ _ _⟩
 | trans _ _ ih1 ih2=>intro zs h;obtain ⟨ys,q,r⟩:=ih1 h;obtain ⟨ws,q',r'⟩:=ih2 q;exact ⟨ws,q',r.trans r'⟩
section
variable {prog:Program} {w:World}
theorem SetX.vals {a:Addr} {h:Heap} {zs:List Str} {led:Bool} {o:Obj} {es:Array (Int × Value)} {ep:Nat} {t:SetTable} (x:SetX prog w h a zs led o es ep t) {acc:List Value} (p:acc.Perm (es.toList.map (·.2))):∃ ys,StrsAre acc ys/\ys.Perm (dist zs):=by
 obtain ⟨ks,hk⟩:=vals_str (es.toList.map (·.2)) fun u hu=>by
  obtain ⟨e,he,rfl⟩:=List.mem_map.mp hu
  obtain ⟨⟨k,hk,_⟩,_⟩:=x.el e he
  obtain ⟨t,q⟩:=Value.isStrOf_shape (x:=k) (v:=e.2) hk
  exact ⟨k,t,q⟩
 obtain ⟨ys,hy,q⟩:=strs_perm p.symm hk
 refine ⟨ys,hy,q.symm.trans (perm_of_sub (dist_nodup zs) (fun z hz=>?_) ?_).symm⟩
 ·obtain ⟨e,he,r⟩:=(x.mem z).mp (decide_eq_true hz)
  exact (strs_mem hk).mpr ⟨e.2,List.mem_map.mpr ⟨e,he,rfl⟩,r⟩
 ·have:=strs_len hk
  rw [List.length_map,Array.length_toList,x.size] at this
  omega
end
theorem srt_perm_eq {xs ys:List Str} (p:xs.Perm ys):srt xs=srt ys:=srt_of ((srt_perm xs).trans p) (srt_pw xs)
def TxtO (P:Program) (w:World) (a:Addr) (zs:List Str):HO:=.ext fun h=>TxtX P w h a zs (!byTxt w)
theorem Inv.drawn {X:Cx} {pins:List (Addr × Obj)} {σ:St} {H:Hp} {s:Shared} {dr:Drawn} (I:Inv X pins σ H s):Inv X pins σ H { s with drawn:=dr } :=
 ⟨I.ok,I.os,I.bare,I.base,I.loc,I.cell,I.free,I.freeC,I.pin,I.hok,I.len⟩
section
variable {X:Cx}
theorem txtO_ok {H:Hp} {h:Heap} {a:Addr} {zs:List Str} (x:TxtX X.prog X.w h a zs (!byTxt X.w)):ObjOk X.prog X.w H h a (TxtO X.prog X.w a zs):=by
 refine ⟨x,?_,fun h1 h2 q k=>q.keep fun o e=>k o e⟩
 obtain ⟨o,es,ep,t,y⟩:=x
 exact ⟨o,y.ho⟩
theorem call_set_txt (hc:X.calm=true):CallR X (.type "set") (fun xs H Q=>∃ (p:Addr) (zs:List Str),xs=[.ref p]/\(SqL X.K H p (zs.map V.str)\/SqT X.K H p (zs.map V.str))/\zs.length+1 < scanBound/\∀ l,H l=none->Q (.ref l) (upd H l (TxtO X.prog X.w l zs))):=by
 intro pins s σ H xs us Q I r h
 obtain ⟨p,zs,rfl,hp,small,q⟩:=h
 obtain ⟨u,rfl,rx⟩:=vals1 r
 cases rx
 have fr:H s.heap.objs.size=none:=I.hok.fresh (Nat.le_refl _)
 have fin:∀ (h':Heap) (tk:Nat),TxtX X.prog X.w h' s.heap.objs.size zs (!byTxt X.w)->(∀ b o,s.heap.get? b=some o->h'.get? b=some o)->EP X pins σ Q (.ref s.heap.objs.size) { s with heap:=h',toks:=tk }:=fun h' tk T kp =>
  ⟨.ref s.heap.objs.size,_,I.laid (t':=tk) kp (Nat.le_refl _) (txtO_ok T),rfl,q _ fr⟩
 rcases hp with hp | hp
 ·obtain ⟨its,rv,pl,_⟩:=I.list hp
  exact setX_list (I.ok.hd hc) pl.isList (strs_of rv) small fin
 ·obtain ⟨its,rv,pl,_⟩:=I.tuple hp
  exact setX_tuple (I.ok.hd hc) pl (strs_of rv) small fin
theorem call_sorted_set (hc:X.calm=true):CallR X (.builtin "sorted") (fun xs H Q=>∃ (p:Addr) (zs:List Str),xs=[.ref p]/\H p=some (TxtO X.prog X.w p zs)/\zs.length < 64/\∀ l,H l=none->Q (.ref l) (upd H l (.lst ((srt (dist zs)).map V.str)))):=by
 intro pins s σ H xs us Q I r h
 obtain ⟨p,zs,rfl,hp,few,q⟩:=h
 obtain ⟨u,rfl,rx⟩:=vals1 r
 cases rx
 obtain ⟨⟨o,es,ep,t,x⟩,_⟩:=I.hok _ _ hp
 have few':(dist zs).length < 64:=Nat.lt_of_le_of_lt (dist_le zs) few
 refine Calls.call_function_entry kind_sorted plain_sorted entry_sorted (args_sorted1 _) ?_
 unfold Builtin.«sorted»
 apply wpAny_bind (m:=checkCount "sorted" 1 1 _)
 apply wpAny_pure
 apply wpAny_bind
 refine collect_set (A:=X.A.in1) x.setW (by rw [x.size];exact Nat.le_trans (Nat.le_of_lt few') (by decide)) (by exact I.ok.hd hc) fun h1 tk dr acc keep pm=>?_
 obtain ⟨ys,txt,py⟩:=x.vals pm
 have la:acc.length=(dist zs).length:=by rw [strs_len txt];exact py.length_eq
 apply wpAny_bind
 refine wpAny_newList ?_ (by rw [la];exact Nat.le_trans (Nat.le_of_lt few') (by decide))
 apply wpAny_bind
 apply wpAny_holding
 refine wpAny_mono (sorts_new (prog:=X.prog) (w:=X.w) (s:={ s with drawn:=dr }) (h:=h1) (tk:=tk) (Q:=EP X pins σ Q) txt (by rw [la];exact few') fun out n h2 o1 o2 o3=>?_) (fun _ _ z=>wpAny_pure ⟨_,rfl,z⟩) fun _ _ z=>z
 rw [srt_perm_eq py] at o1
 have no:s.heap.get? h1.objs.size=none:=by
  cases e:s.heap.get? h1.objs.size with
  | none=>rfl
  | some o=>exact absurd (Heap.lt_size (keep _ _ e)) (Nat.lt_irrefl _)
 have noH:H h1.objs.size=none:=by
  cases e:H h1.objs.size with
  | none=>rfl
  | some o =>
   obtain ⟨u,eu⟩:=(I.hok _ _ e).there
   rw [no] at eu;cases eu
 refine ⟨.ref h1.objs.size,_,(I.drawn (dr:=dr)).laidN (t':=tk) (o:=.lst ((srt (dist zs)).map V.str)) (fun b o e=>o2 _ _ (keep _ _ e)) no noH ?_,rfl,q _ noH⟩
 exact ⟨by rw [List.length_map,srt_len];exact Nat.le_trans (Nat.le_of_lt few') (by decide),out,n,of_strs o1,o3⟩
theorem call_setP {P:Program} {w:World} {K:PySem.W.Frag} (hc:X.calm=true) (hP:X.prog=P:=by rfl) (hw:X.w=w:=by rfl) (hK:X.K=K:=by rfl):CallR X (.type "set") (fun xs H Q=>∃ (p:Addr) (zs:List Str),xs=[.ref p]/\(SqL K H p (zs.map V.str)\/SqT K H p (zs.map V.str))/\zs.length+1 < scanBound/\∀ l,H l=none->Q (.ref l) (upd H l (TxtO P w l zs))):=by
 subst hP hw hK
 exact call_set_txt hc
theorem call_sortedP {P:Program} {w:World} (hc:X.calm=true) (hP:X.prog=P:=by rfl) (hw:X.w=w:=by rfl):CallR X (.builtin "sorted") (fun xs H Q=>∃ (p:Addr) (zs:List Str),xs=[.ref p]/\H p=some (TxtO P w p zs)/\zs.length < 64/\∀ l,H l=none->Q (.ref l) (upd H l (.lst ((srt (dist zs)).map V.str)))):=by
 subst hP hw
 exact call_sorted_set hc
end
section
variable {X:Cx} {e k:Expr} {te tk:TE} {p2 pos:Pos}
end
end L2
namespace HT
open PySem PySem.Spec PyProof.Rows
section
variable {prog:Program} {w:World} {A:Around} {E:Value->Shared->Prop} {s:Shared}
end
end HT
namespace L2
open PySem PySem.Spec PyProof.Rows
section
variable {X:Cx} {e k:Expr} {te tk:TE} {p2 pos:Pos}
theorem mt_joinT:MtR X "str.join" (fun x vs H Q=>∃ (sep:Str) (p:Addr) (ys:List Str),x=.str sep/\vs=[.ref p]/\SqT X.K H p (ys.map V.str)/\(ys.map (·.length)).sum+ys.length * sep.length<=16777216/\Q (.str (Txt.join sep ys)) H):=by
 intro pins s σ H x xs v us Q I rx r h
 obtain ⟨sep,p,ys,rfl,rfl,hq,hl,q⟩:=h
 obtain ⟨u,rfl,ru⟩:=vals1 r
 cases ru
 obtain ⟨t,rfl⟩:=rx
 obtain ⟨its,rv,pl,hz⟩:=I.tuple hq
 exact join_tuple pl (by simpa using strs_of rv) hl fun t' k=>⟨.str _,H,I.tok _,⟨t',rfl⟩,q⟩
end
section
variable {X:Cx}
end
end L2
namespace K91
open PySem PySem.Spec PyProof.Rows L2
structure Mt (K:PySem.W.Frag) (mg:Str->Option Value) (C fP fS:Addr) (fdP fdS:FuncData):Prop where
 wc:WC K mg C
 pF:Fun K "places" "Web.places" sPlaces fP fdP
 pM:Meth K C "places" fP
 pB:Binds K fdP ["self"] []
 sF:Fun K "ties" "Web.ties" sTies fS fdS
 sM:Meth K C "ties" fS
 sB:Binds K fdS ["self"] []
theorem WebObj.meth {C x:Addr} {H:Hp} {ns:List Str} {ps:List (Str × Str)} (h:WebObj C H x ns ps) (m:Str) (e1:(m == ("kept_places" : Str))=false:=by decide +kernel) (e2:(m == ("kept_ties" : Str))=false:=by decide +kernel):∃ dx fs,H x=some (.ins C dx fs)/\fs.lookup m=none:=by
 obtain ⟨dx,kp,kt,us,q,_⟩:=h
 exact ⟨dx,_,q,wf_no kp kt m e1 e2⟩
structure GoodW (ns:List Str) (ps:List (Str × Str)):Prop where
 good:GoodP ns
 ins:InP ns ps
 few:ps.length<=30
end K91
namespace L2
open PySem PySem.Spec PyProof.Rows
section
variable {X:Cx}
theorem vals_strV:∀ (l:List (Str × Tok)),Vals ((l.map (·.1)).map V.str) (strValues l)
 | []=>.nil
 | p::l=>.cons ⟨p.2,rfl⟩ (vals_strV l)
theorem mt_split:MtR X "str.split" (fun x vs H Q=>∃ (z sep:Str),x=.str z/\vs=[.str sep]/\(sep.length == 0)=false/\z.length<=sizeLine/\(Txt.split z sep).length<=sizeLine /\
  ∀ l,H l=none->Q (.ref l) (upd H l (.lst ((Txt.split z sep).map V.str)))):=by
 intro pins s σ H x xs v us Q I rx r h
 obtain ⟨z,sep,rfl,rfl,hy,hz,hn,q⟩:=h
 obtain ⟨t,rfl⟩:=rx
 obtain ⟨u,rfl,ru⟩:=vals1 r
 obtain ⟨tu,rfl⟩:=ru
 have fin:∀ (l:List (Str × Tok)) (k:Nat),l.map (·.1)=Txt.split z sep->EP X pins σ Q (.ref s.heap.objs.size) { s with heap:=s.heap.push { cls:=.type "list",data:=.seq (strValues l).toArray },toks:=k }:=fun l k e =>
  ⟨.ref s.heap.objs.size,_,I.lnew (t':=k) (by rw [<- e];exact vals_strV l) (by simpa using hn),rfl,q _ I.fresh⟩
 cases h1:(decide (z.length < sep.length) || decide (Builtin.Str.strKind z < Builtin.Str.strKind sep))
 ·cases hf:(Builtin.Str.occurrences z sep 0 z.length (z.length+1)).isEmpty
  ·have e:Txt.split z sep=Builtin.Str.partsBetween z (Builtin.Str.occurrences z sep 0 z.length (z.length+1)) sep.length:=(if_neg (ne_true_of_eq_false h1)).trans (if_neg (ne_true_of_eq_false hf))
   refine call_meets F.slot_str_split (typeIs_str _ _ _) F.entry_str_split (F.args_str_split_2 _ _) (meets_str_split_sep z sep t tu h1 hy hf hz (by rw [<- e];exact hn)) ?_
   rw [strsFrom_eq]
   exact fin (numbered s.toks _) _ ((numbered_texts _ _).trans e.symm)
  ·exact call_meets F.slot_str_split (typeIs_str _ _ _) F.entry_str_split (F.args_str_split_2 _ _) (meets_str_split_not_found z sep t tu h1 hy hf)
    (fin [(z,t)] s.toks ((if_neg (ne_true_of_eq_false h1)).trans (if_pos hf)).symm)
 ·exact call_meets F.slot_str_split (typeIs_str _ _ _) F.entry_str_split (F.args_str_split_2 _ _) (meets_str_split_cannot_occur z sep t tu h1)
   (fin [(z,t)] s.toks (if_pos h1).symm)
def tFmt (t:TE):TE:=fun σ H Q=>t σ H fun x H1=>∃ z:Str,x=.str z/\z.length<=sizeLine/\Q (.str z) H1
theorem pe_fmt {e:Expr} {t:TE} {pos:Pos} (h:PE X e t):PE X (.FormattedValue e (-1) none pos) (tFmt t):=by
 intro pins s σ H Q I q
 refine wpAny_FormattedValue_plain (thn (h pins s σ H _ I q) fun v s1 ⟨x,H1,I1,rx,z,e,hz,q1⟩=>?_)
 subst e
 obtain ⟨t,rfl⟩:=rx
 exact wpAny_formatField_str ⟨.str z,H1,I1,⟨t,rfl⟩,q1⟩ ⟨.str z,H1,I1.tok _,⟨_,rfl⟩,q1⟩ hz
def PJ (X:Cx) (es:List Expr) (t:Str->TE):Prop:=∀ (acc:Str) (pins:List (Addr × Obj)) (s:Shared) (σ:St) (H:Hp) (Q:VK),Inv X pins σ H s->t acc σ H Q ->
 Joins (model X.prog X.w) X.A X.xe (evalEach es X.env) acc (fun out s1=>out.length<=sizeLine/\EP X pins σ Q (.str out s1.toks) { s1 with toks:=s1.toks+1 }) s
def tJNil:Str->TE:=fun acc _ H Q=>acc.length<=sizeLine/\Q (.str acc) H
def tJCons (te:TE) (t:Str->TE):Str->TE:=fun acc σ H Q=>te σ H fun x H1=>∃ z:Str,x=.str z/\(acc++z).length<=sizeLine/\t (acc++z) σ H1 Q
theorem pj_nil:PJ X [] tJNil:=fun acc pins s σ H Q I ⟨hz,q⟩=>⟨hz,.str acc,H,I.tok _,⟨_,rfl⟩,q⟩
theorem pj_cons {e:Expr} {es:List Expr} {te:TE} {t:Str->TE} (h:PE X e te) (hr:PJ X es t):PJ X (e::es) (tJCons te t):=by
 intro acc pins s σ H Q I q
 show wpAny _ _ _ _ _ _
 refine thn (h pins s σ H _ I q) fun v s1 ⟨x,H1,I1,rx,z,e,hz,q1⟩=>?_
 subst e
 obtain ⟨t,rfl⟩:=rx
 exact ⟨z,t,rfl,hz,hr (acc++z) pins s1 σ H1 Q I1 q1⟩
theorem pe_joined {e1 e2:Expr} {es:List Expr} {t:Str->TE} {pos:Pos} (h:PJ X (e1::e2::es) t):PE X (.JoinedStr (e1::e2::es) pos) (t Str.empty):=by
 intro pins s σ H Q I q
 exact wpAny_JoinedStr (h Str.empty pins s σ H Q I q)
end
abbrev cs (z:Str):List Nat:=z.cps.toList
def jn (sep:List Nat):List (List Nat)->List Nat
 | []=>[]
 | [x]=>x
 | x::y::r=>x++sep++jn sep (y::r)
theorem cs_app (x y:Str):cs (x++y)=cs x++cs y:=Array.toList_append
theorem cs_join (sep:Str):∀ l:List Str,cs (Str.join sep l)=jn (cs sep) (l.map cs)
 | []=>rfl
 | [x]=>rfl
 | x::y::r=>by
  show cs (x++sep++Str.join sep (y::r))=_
  rw [cs_app,cs_app,cs_join sep (y::r)]
  rfl
theorem first_at {c:Nat}:∀ {x y A B:List Nat},c ∉ x->c ∉ y->x++c::A=y++c::B->x=y/\A=B
 | [],[],A,B,_,_,h=>⟨rfl,by simpa using h⟩
 | [],b::y,A,B,_,hy,h=>by
  have:c=b:=by simpa using congrArg List.head? h
  exact absurd (this ▸ List.mem_cons_self) hy
 | a::x,[],A,B,hx,_,h=>by
  have:a=c:=by simpa using congrArg List.head? h
  exact absurd (this ▸ List.mem_cons_self) hx
 | a::x,b::y,A,B,hx,hy,h=>by
  rw [List.cons_append,List.cons_append,List.cons.injEq] at h
  obtain ⟨e1,e2⟩:=first_at (fun m=>hx (List.mem_cons_of_mem _ m)) (fun m=>hy (List.mem_cons_of_mem _ m)) h.2
  exact ⟨by rw [h.1,e1],e2⟩
theorem jn_uniq {c:Nat}:∀ {l m:List (List Nat)},l≠[]->m≠[]->(∀ x∈l,c ∉ x)->(∀ x∈m,c ∉ x)->jn [c] l=jn [c] m->l=m
 | [],_,h,_,_,_,_=>absurd rfl h
 | _::_,[],_,h,_,_,_=>absurd rfl h
 | [x],[y],_,_,_,_,h=>by rw [show x=y from h]
 | [x],y::z::r,_,_,hx,_,h=>by
  have:x=y++[c]++jn [c] (z::r):=h
  exact absurd (by rw [this];simp) (hx x List.mem_cons_self)
 | x::z::r,[y],_,_,_,hy,h=>by
  have:x++[c]++jn [c] (z::r)=y:=h
  exact absurd (by rw [<- this];simp) (hy y List.mem_cons_self)
 | x::z::r,y::w::q,_,_,hx,hy,h=>by
  have h':x++c::jn [c] (z::r)=y++c::jn [c] (w::q):=by
   have:x++[c]++jn [c] (z::r)=y++[c]++jn [c] (w::q):=h
   simpa using this
  obtain ⟨e1,e2⟩:=first_at (hx x List.mem_cons_self) (hy y List.mem_cons_self) h'
  rw [e1,jn_uniq (by simp) (by simp) (fun u hu=>hx u (List.mem_cons_of_mem _ hu)) (fun u hu=>hy u (List.mem_cons_of_mem _ hu)) e2]
theorem cs_inj:∀ {l m:List Str},l.map cs=m.map cs->l=m
 | [],[],_=>rfl
 | [],_::_,h=>by simp at h
 | _::_,[],h=>by simp at h
 | x::l,y::m,h=>by
  rw [List.map_cons,List.map_cons,List.cons.injEq] at h
  have e:x=y:=by cases x;cases y;simp only [Str.mk.injEq];exact Array.toList_inj.mp h.1
  rw [e,cs_inj h.2]
theorem split_ne (x y:Str):Txt.split x y≠[]:=by
 unfold Txt.split
 split
 ·simp
 ·split
  ·simp
  ·rw [StrLaws.partsBetween_eq]
   obtain ⟨p,r,e⟩:=StrLaws.partsFrom_ne x y.length 0 (Builtin.Str.occurrences x y 0 x.length (x.length+1))
   rw [e];simp
theorem split_join {c:Nat} {l:List Str} (h0:l≠[]) (hf:∀ x∈l,c ∉ cs x):Txt.split (Txt.join ⟨#[c]⟩ l) ⟨#[c]⟩=l:=by
 have ej:Txt.join ⟨#[c]⟩ l=Str.join ⟨#[c]⟩ l:=StrLaws.glued_eq_join _ _
 have h1:=StrLaws.join_split (Txt.join ⟨#[c]⟩ l) ⟨#[c]⟩
 have h2:=StrLaws.split_free (Txt.join ⟨#[c]⟩ l) c
 have h3:=split_ne (Txt.join ⟨#[c]⟩ l) ⟨#[c]⟩
 generalize Txt.split (Txt.join ⟨#[c]⟩ l) ⟨#[c]⟩=m at h1 h2 h3 ⊢
 rw [ej] at h1
 have:=congrArg cs h1
 rw [cs_join,cs_join] at this
 refine cs_inj (jn_uniq (c:=c) (by simpa using h3) (by simpa using h0) (fun x hx=>?_) (fun x hx=>?_) this)
 ·obtain ⟨p,hp,rfl⟩:=List.mem_map.mp hx
  exact h2 p hp
 ·obtain ⟨p,hp,rfl⟩:=List.mem_map.mp hx
  exact hf p hp
abbrev gt3:Str:=" > "
theorem cs_gt3:cs gt3=[32,62,32]:=by decide +kernel
theorem len_cs (z:Str):z.length=(cs z).length:=by simp [Str.length]
theorem split_two {a b:Str} (ha:62 ∉ cs a) (hb:62 ∉ cs b):Txt.split (a++gt3++b) gt3=[a,b]:=by
 have ez:cs (a++gt3++b)=cs a++[32,62,32]++cs b:=by rw [cs_app,cs_app,cs_gt3]
 have l3:gt3.length=3:=by decide +kernel
 have lz:(a++gt3++b).length=a.length+3+b.length:=by
  rw [len_cs,ez,len_cs a,len_cs b];simp only [List.length_append,List.length_cons,List.length_nil]
 have h1:=StrLaws.join_split (a++gt3++b) gt3
 have two:∃ p q r,Txt.split (a++gt3++b) gt3=p::q::r:=by
  obtain ⟨f,hG,hn⟩:=StrLaws.occ_tight (a++gt3++b) gt3 (by rw [l3];decide)
  have at_:StrLaws.At (a++gt3++b) gt3 (a++gt3++b).length a.length:=by
   refine ⟨by rw [l3,lz];omega,?_⟩
   rw [StrLaws.subAt_eq,show (a++gt3++b).cps.toList=_ from ez,l3,show gt3.cps.toList=_ from cs_gt3,len_cs a]
   simp
  unfold Txt.split
  rw [if_neg ?_]
  ·cases e:Builtin.Str.occurrences (a++gt3++b) gt3 0 (a++gt3++b).length ((a++gt3++b).length+1) with
   | nil =>
    rw [e] at hG
    have:f=0:=hG
    exact absurd at_ (hn a.length (by omega))
   | cons c r =>
    rw [if_neg (by simp),StrLaws.partsBetween_eq]
    obtain ⟨q,r',e2⟩:=StrLaws.partsFrom_ne (a++gt3++b) gt3.length (c+gt3.length) r
    exact ⟨_,q,r',by show _::StrLaws.partsFrom _ _ _ r=_;rw [e2]⟩
  ·rw [Bool.or_eq_true,decide_eq_true_eq,decide_eq_true_eq]
   rintro (h | h)
   ·rw [l3,lz] at h;omega
   ·have k3:Builtin.Str.strKind gt3=1:=by decide +kernel
    rw [k3] at h
    unfold Builtin.Str.strKind at h
    split at h
    ·omega
    ·split at h<;>omega
 obtain ⟨p,q,r,e⟩:=two
 rw [e] at h1 ⊢
 have h2:=congrArg cs h1
 rw [cs_join,ez,cs_gt3] at h2
 have h3:(cs p++[32])++62::(32::jn [32,62,32] ((q::r).map cs))=(cs a++[32])++62::(32::cs b):=by
  have:cs p++[32,62,32]++jn [32,62,32] ((q::r).map cs)=cs a++[32,62,32]++cs b:=h2
  simpa using this
 have n1:62 ∉ cs a++[32]:=by simpa using ha
 have n2:62 ∉ 32::cs b:=by simpa using hb
 have cnt:=congrArg (List.count 62) h3
 rw [List.count_append (l₁:=cs p++[32]),List.count_append (l₁:=cs a++[32]),List.count_cons_self,List.count_cons_self,List.count_eq_zero_of_not_mem n1,List.count_eq_zero_of_not_mem n2] at cnt
 have m1:62 ∉ cs p++[32]:=List.count_eq_zero.mp (by omega)
 have m2:62 ∉ 32::jn [32,62,32] ((q::r).map cs):=List.count_eq_zero.mp (by omega)
 obtain ⟨e1,e2⟩:=first_at m1 n1 h3
 have ep:cs p=cs a:=List.append_cancel_right e1
 have eq:jn [32,62,32] ((q::r).map cs)=cs b:=by simpa using e2
 have er:r=[]:=by
  cases r with
  | nil=>rfl
  | cons u r =>
   exfalso
   apply m2
   show 62∈32::(cs q++[32,62,32]++jn [32,62,32] ((u::r).map cs))
   simp
 subst er
 exact cs_inj (by simp only [List.map_cons,List.map_nil];rw [ep,show cs q=cs b from eq])
theorem ps_tryN {X:Cx} {body:List Stmt} {h₀:ExceptHandler} {hs:List ExceptHandler} {pos:Pos} {t:TS} (hb:PSs X.nox body t):PS X (.Try body (h₀::hs) [] [] pos) t:=fun pins s σ H D I hw=>by
 refine wpAny_Try_except (wpAny_mono (hb pins s σ H D (I.wish _) hw) (fun f s1 q=>?_) fun _ _ z=>z.elim)
 cases f<;>first | exact wpAny_execs_nil q.unwish | exact q.unwish
open Classical in
theorem srt_mem {l:List Str} {x:Str}:x∈srt l ↔ x∈l:=(srt_perm l).mem_iff
theorem srt_nd {l:List Str} (h:l.Nodup):(srt l).Nodup:=(srt_perm l).nodup_iff.mpr h
theorem srt_srt (l:List Str):srt (srt l)=srt l:=(srt_of (srt_perm (srt l) |>.trans (srt_perm l)) (srt_pw (srt l)))
end L2
namespace K91
open PySem PySem.Spec PyProof.Rows L2
abbrev sWText:Stmt:=top 20 -- web_text
abbrev sWRows:Stmt:=top 21 -- web_of_rows
abbrev sRead:Stmt:=top 22 -- read_web
abbrev rTupOf (K:PySem.W.Frag):List V->Hp->VK->Prop:=fun xs H Q=>∃ p ys,xs=[V.ref p]/\((SqL K H p ys/\∀ l,H l=none->Q (V.ref l) (upd H l (.tup ys)))\/(SqT K H p ys/\Q (V.ref p) H))
theorem lo_iff {c:Nat}:lo c=true ↔ 97<=c:=by
 unfold lo
 rw [Bool.not_eq_true',decide_eq_false_iff_not]
 show ¬ [c] < ("a" : Str).cps.toList ↔ _
 have e:("a" : Str).cps.toList=[97]:=by decide +kernel
 rw [e]
 constructor
 ·intro h
  rcases Nat.lt_or_ge c 97 with q | q
  ·exact absurd (List.Lex.rel q) h
  ·exact q
 ·intro h q
  cases q with
  | rel z=>omega
  | cons z=>cases z
theorem hi_iff {c:Nat}:hi c=true ↔ c<=122:=by
 unfold hi
 rw [Bool.not_eq_true',decide_eq_false_iff_not]
 show ¬ ("z" : Str).cps.toList < [c] ↔ _
 have e:("z" : Str).cps.toList=[122]:=by decide +kernel
 rw [e]
 constructor
 ·intro h
  rcases Nat.lt_or_ge 122 c with q | q
  ·exact absurd (List.Lex.rel q) h
  ·exact q
 ·intro h q
  cases q with
  | rel z=>omega
  | cons z=>cases z
theorem nm_all {z:Str} (h:nm z=true) {c:Nat} (hc:c∈z.cps.toList):97<=c/\c<=122:=by
 unfold nm at h
 simp only [Bool.and_eq_true,List.all_map,List.all_eq_true] at h
 have:=h.2 c hc
 simp only [Function.comp,id,Bool.and_eq_true] at this
 exact ⟨lo_iff.mp this.1,hi_iff.mp this.2⟩
abbrev bl1:Str:=" "
abbrev nl1:Str:="\n"
abbrev plc:Str:="places"
theorem bl_eq:bl1=⟨#[32]⟩:=by decide +kernel
theorem nl_eq:nl1=⟨#[10]⟩:=by decide +kernel
theorem cs_plc:cs plc=[112,108,97,99,101,115]:=by decide +kernel
def rowT (p:Str × Str):Str:=p.1++gt3++p.2
def headT (ms:List Str):Str:=Txt.join bl1 (plc::ms)
def wtext (ns:List Str) (ps:List (Str × Str)):Str:=Txt.join nl1 (headT (srt ns)::ps.map rowT)++nl1
theorem GoodW.inS {ns:List Str} {ps:List (Str × Str)} (g:GoodW ns ps):InP (srt ns) ps:=fun p hp=>⟨srt_mem.mpr (g.ins p hp).1,srt_mem.mpr (g.ins p hp).2⟩
theorem sum_le {b:Nat}:∀ {l:List Str},(∀ x∈l,x.length<=b)->(l.map (·.length)).sum<=l.length * b
 | [],_=>by simp
 | x::l,h=>by
  have h1:=h x List.mem_cons_self
  have h2:=sum_le (l:=l) fun y hy=>h y (List.mem_cons_of_mem _ hy)
  simp only [List.map_cons,List.sum_cons,List.length_cons,Nat.succ_mul]
  omega
theorem join_le (sep:Str) (l:List Str):(Txt.join sep l).length<=(l.map (·.length)).sum+l.length * sep.length:=by
 rw [show Txt.join sep l=Str.join sep l from StrLaws.glued_eq_join _ _]
 exact StrLaws.join_length_le sep l
theorem app_len (x y:Str):(x++y).length=x.length+y.length:=by rw [len_cs,cs_app,List.length_append,len_cs x,len_cs y]
theorem empty_app (x:Str):Str.empty++x=x:=by
 refine List.head_eq_of_cons_eq (cs_inj (l:=[_]) (m:=[x]) ?_)
 simp only [List.map_cons,List.map_nil]
 rw [cs_app]
 rfl
theorem nm_free {z:Str} (h:nm z=true) {c:Nat} (hc:c < 97):c ∉ cs z:=fun m=>by have:=(nm_all h m).1;omega
theorem rowT_len {p:Str × Str} (h1:nm p.1=true) (h2:nm p.2=true):(rowT p).length<=19:=by
 unfold rowT
 rw [app_len,app_len,show gt3.length=3 from by decide +kernel]
 have:=nm_len h1
 have:=nm_len h2
 omega
theorem head_sum {ms:List Str} (h:∀ z∈ms,nm z=true) (few:ms.length<=12):((plc::ms).map (·.length)).sum+(plc::ms).length * bl1.length<=130:=by
 have h1:=sum_le (b:=8) (l:=ms) fun x hx=>nm_len (h x hx)
 have e1:plc.length=6:=by decide +kernel
 have e2:bl1.length=1:=by decide +kernel
 simp only [List.map_cons,List.sum_cons,List.length_cons]
 rw [e1,e2]
 omega
theorem head_len {ms:List Str} (h:∀ z∈ms,nm z=true) (few:ms.length<=12):(headT ms).length<=130:=Nat.le_trans (join_le _ _) (head_sum h few)
theorem rows_sum {ms:List Str} {ps:List (Str × Str)} (h:∀ z∈ms,nm z=true) (few:ms.length<=12) (hp:∀ p∈ps,nm p.1=true/\nm p.2=true) (fp:ps.length<=30):((headT ms::ps.map rowT).map (·.length)).sum+(headT ms::ps.map rowT).length * nl1.length<=1000:=by
 have h1:=sum_le (b:=19) (l:=ps.map rowT) fun x hx=>by
  obtain ⟨p,hp',rfl⟩:=List.mem_map.mp hx
  exact rowT_len (hp p hp').1 (hp p hp').2
 have h2:=head_len h few
 have e2:nl1.length=1:=by decide +kernel
 simp only [List.map_cons,List.sum_cons,List.length_cons]
 rw [e2]
 rw [List.length_map] at h1 ⊢
 omega
theorem head_free {ms:List Str} (h:∀ z∈ms,nm z=true):10 ∉ cs (headT ms):=by
 unfold headT
 rw [show Txt.join bl1 (plc::ms)=Str.join bl1 (plc::ms) from StrLaws.glued_eq_join _ _,cs_join]
 have:∀ l:List (List Nat),(∀ x∈l,10 ∉ x)->10 ∉ jn (cs bl1) l:=by
  intro l
  have eb:cs bl1=[32]:=by decide +kernel
  rw [eb]
  induction l with
  | nil=>intro _ m;exact nomatch m
  | cons x l ih =>
   intro hl
   cases l with
   | nil=>exact hl x List.mem_cons_self
   | cons y r =>
    show 10 ∉ x++[32]++jn [32] (y::r)
    have a1:=hl x List.mem_cons_self
    have a2:=ih fun z hz=>hl z (List.mem_cons_of_mem _ hz)
    simp only [List.mem_append,List.mem_singleton,not_or]
    exact ⟨⟨a1,by decide⟩,a2⟩
 refine this _ fun x hx=>?_
 rcases List.mem_cons.mp hx with e | e
 ·rw [e,cs_plc];decide
 ·obtain ⟨z,hz,rfl⟩:=List.mem_map.mp e
  exact nm_free (h z hz) (by decide)
theorem rowT_free {p:Str × Str} (h1:nm p.1=true) (h2:nm p.2=true):10 ∉ cs (rowT p):=by
 unfold rowT
 rw [cs_app,cs_app,cs_gt3]
 simp only [List.mem_append,not_or]
 exact ⟨⟨nm_free h1 (by decide),by decide⟩,nm_free h2 (by decide)⟩
theorem head_split {ms:List Str} (h:∀ z∈ms,nm z=true):Txt.split (headT ms) bl1=plc::ms:=by
 unfold headT
 rw [bl_eq]
 refine split_join (by simp) fun x hx=>?_
 rcases List.mem_cons.mp hx with e | e
 ·rw [e,cs_plc];decide
 ·exact nm_free (h x e) (by decide)
theorem join_nl {l:List Str} (h:l≠[]):Txt.join nl1 l++nl1=Txt.join nl1 (l++[Str.empty]):=by
 rw [show Txt.join nl1 l=Str.join nl1 l from StrLaws.glued_eq_join _ _,show Txt.join nl1 (l++[Str.empty])=Str.join nl1 (l++[Str.empty]) from StrLaws.glued_eq_join _ _]
 refine List.head_eq_of_cons_eq (cs_inj (l:=[_]) (m:=[_]) ?_)
 simp only [List.map_cons,List.map_nil]
 rw [cs_app,cs_join,cs_join,List.map_append]
 congr 1
 have:∀ l:List (List Nat),l≠[]->jn (cs nl1) l++cs nl1=jn (cs nl1) (l++[[]]):=by
  intro l
  induction l with
  | nil=>intro h;exact absurd rfl h
  | cons x l ih =>
   intro _
   cases l with
   | nil=>show x++cs nl1=x++cs nl1++[];simp
   | cons y r =>
    show x++cs nl1++jn (cs nl1) (y::r)++cs nl1=x++cs nl1++jn (cs nl1) (y::r++[[]])
    rw [<- ih (by simp),List.append_assoc]
 exact this _ (by simpa using h)
theorem text_split {ns:List Str} {ps:List (Str × Str)} (h:∀ z∈ns,nm z=true) (hp:∀ p∈ps,nm p.1=true/\nm p.2=true):Txt.split (wtext ns ps) nl1=headT (srt ns)::ps.map rowT++[Str.empty]:=by
 unfold wtext
 rw [join_nl (by simp),nl_eq]
 refine split_join (by simp) fun x hx=>?_
 rcases List.mem_append.mp hx with e | e
 ·rcases List.mem_cons.mp e with q | q
  ·rw [q];exact head_free fun z hz=>h z (srt_mem.mp hz)
  ·obtain ⟨p,hp',rfl⟩:=List.mem_map.mp q
   exact rowT_free (hp p hp').1 (hp p hp').2
 ·rw [List.mem_singleton.mp e];exact fun m=>nomatch m
theorem text_len {ns:List Str} {ps:List (Str × Str)} (h:∀ z∈ns,nm z=true) (few:ns.length<=12) (hp:∀ p∈ps,nm p.1=true/\nm p.2=true) (fp:ps.length<=30):(wtext ns ps).length<=1001:=by
 unfold wtext
 rw [app_len,show nl1.length=1 from by decide +kernel]
 have:=Nat.le_trans (join_le nl1 _) (rows_sum (ms:=srt ns) (fun z hz=>h z (srt_mem.mp hz)) (by rw [srt_len];exact few) hp fp)
 omega
theorem GoodW.nmp {ns:List Str} {ps:List (Str × Str)} (g:GoodW ns ps):∀ p∈ps,nm p.1=true/\nm p.2=true:=fun p hp=>⟨g.good.nms _ (g.ins p hp).1,g.good.nms _ (g.ins p hp).2⟩
theorem cut1 (x:V) (l:List V):cutV (x::l) (some 1) none=l:=by
 unfold cutV HT.sIx
 simp
theorem cut2 (x e:V) (l:List V):cutV (x::l++[e]) (some 1) (some (-1))=l:=by
 unfold cutV HT.sIx
 simp
 rw [show ((-1:Int)+((l.length:Int)+1+1)).toNat - 1=l.length from by omega]
 simp
section
variable {P:Program} {w:World} {K:PySem.W.Frag} {mg:Str->Option Value} {base:Heap}
variable {C fI fP fS fWT fWR:Addr} {fdI fdP fdS fdWT fdWR:FuncData}
def spWT (C:Addr):Sp:=fun vs H Q _=>∃ (x:Addr) (ns:List Str) (ps:List (Str × Str)),vs=[.ref x]/\WebObj C H x ns ps/\GoodW ns ps/\∀ H',Same H H'->Q (.str (wtext ns ps)) H'
abbrev nWT:List Str:=["web","rows","a","b"]
theorem scWT:FnScope nWT ["web"] (defScope sWText):=⟨rfl,rfl,rfl,by decide +kernel,rfl,by decide +kernel,by decide +kernel⟩
theorem ok_wtext {f:Addr} {fd:FuncData} (F:Fun K "web_text" "web_text" sWText f fd) (M:Mt K mg C fP fS fdP fdS) (T:Glb mg):FnOk P w K mg base CX0 2 f fd ["web"] (spWT C):=by
 have GP:FnOk P w K mg base CX0 1 fP fdP ["self"] (spPl C):=ok_places M.pF M.wc T
 have GT:FnOk P w K mg base CX0 1 fS fdS ["self"] (spTs C):=ok_ties M.sF M.wc T
 refine F.ok scWT (fun vs H Q E h=>?_) (fun cdv A outer s H vs Q E hr h=>?_)
 ·obtain ⟨x,ns,ps,rfl,_⟩:=h
  rfl
 ·obtain ⟨x,ns,ps,rfl,hW,g,k⟩:=h
  refine ⟨_,pss_cons (ps_set (i:=1) scWT.nd rfl (Or.inl rfl) (pe_lst (pa_cons (pe_bm PySem.F.plainAttrs_str PySem.F.slot_str_join PySem.F.type_str_join mt_join pe_str (pa_cons (pe_op op_cat (pe_lst (pa_cons pe_str pa_nil)) (pe_meth0 (pv 0) M.wc.cl M.pM GP hr M.pB .nil pass0)) pa_nil)) pa_nil)))
   (pss_cons (ps_for PassesOwn.never rfl (pi_list (pe_meth0 (pv 0) M.wc.cl M.sM GT hr M.sB .nil pass0)) (pg_tup rfl (pgs_cons (pg_name (i:=2) scWT.nd rfl (Or.inl rfl)) (pgs_cons (pg_name (i:=3) scWT.nd rfl (Or.inl rfl)) pgs_nil)))
    (pss_one (ps_expr (pe_bm PySem.F.plainAttrs_list PySem.F.slot_list_append PySem.F.type_list_append mt_append (pv 1) (pa_cons (pe_joined (pj_cons (pe_fmt (pv 2)) (pj_cons pe_str (pj_cons (pe_fmt (pv 3)) pj_nil)))) pa_nil)))))
   (pss_one (ps_ret (pe_op op_add_str (pe_bm PySem.F.plainAttrs_str PySem.F.slot_str_join PySem.F.type_str_join mt_join pe_str (pa_cons (pv 1) pa_nil)) pe_str)))),?_⟩
  have gS:∀ z∈srt ns,nm z=true:=fun z hz=>g.good.nms z (srt_mem.mp hz)
  have fS:(srt ns).length<=12:=by rw [srt_len];exact g.good.few
  refine ⟨rfl,(by decide),fun l1 n1=>?_⟩
  have s1:=same_upd (o:=.lst [.str plc]) n1
  have W1:=hW.same s1
  obtain ⟨d1,f1,q1,r1⟩:=W1.meth "places"
  refine ⟨_,rfl,x,d1,f1,rfl,q1,r1,x,ns,ps,rfl,W1,fun l2 n2=>?_⟩
  have s2:=same_upd (o:=.lst ((srt ns).map V.str)) n2
  refine ⟨l1,l2,_,_,rfl,rfl,s2 _ _ upd_same,upd_same,by rw [List.length_map];exact Nat.le_trans (show 1+(srt ns).length<=13 by omega) (by decide),fun l3 n3=>?_⟩
  have s3:=same_upd (o:=.lst ([.str plc]++(srt ns).map V.str)) n3
  refine ⟨bl1,l3,plc::srt ns,rfl,rfl,SqL.of upd_same,Nat.le_trans (head_sum gS fS) (by decide),?_⟩
  refine ⟨(show 1<=sizeLine by decide),fun l4 n4=>?_⟩
  have s4:=s1.trans (s2.trans (s3.trans (same_upd (o:=.lst [.str (headT (srt ns))]) n4)))
  have h4:=upd_same (H:=upd (upd (upd H l1 (.lst [.str plc])) l2 (.lst ((srt ns).map V.str))) l3 (.lst ([.str plc]++(srt ns).map V.str))) (a:=l4) (o:=.lst [.str (headT (srt ns))])
  have n4H:H l4=none:=(s1.trans (s2.trans s3)).free n4
  change tSeq _ _ _ _ (upd (upd (upd (upd H l1 (.lst [.str plc])) l2 (.lst ((srt ns).map V.str))) l3 (.lst ([.str plc]++(srt ns).map V.str))) l4 (.lst [.str (headT (srt ns))]))
  generalize upd (upd (upd (upd H l1 (.lst [.str plc])) l2 (.lst ((srt ns).map V.str))) l3 (.lst ([.str plc]++(srt ns).map V.str))) l4 (.lst [.str (headT (srt ns))])=H4 at s4 h4 ⊢
  have W4:=hW.same s4
  obtain ⟨d5,f5,q5,r5⟩:=W4.meth "ties"
  refine ⟨_,rfl,x,d5,f5,rfl,q5,r5,x,ns,ps,rfl,W4,fun l5 us n5 hU=>?_⟩
  have s5:=same_upd (o:=.lst (us.map V.ref)) n5
  have h5:=upd_same (H:=H4) (a:=l5) (o:=.lst (us.map V.ref))
  have h45:=s5 _ _ h4
  have hU5:=hU.same s5
  have n5H:H l5=none:=s4.free n5
  have n54:l5≠l4:=Ne.symm (ne_of_none h4 n5)
  have s05:=s4.trans s5
  generalize upd H4 l5 (.lst (us.map V.ref))=H5 at s5 s05 h5 h45 hU5 ⊢
  have lu:(us.map V.ref).length=ps.length:=by rw [List.length_map,hU.len]
  have npm:=g.nmp
  refine ⟨l5,rfl,⟨_,SqL.of h5⟩,for_list (K:=K) (xs:=us.map V.ref) (fun i σ H6=>∃ v2 v3,σ=[some (.ref x),some (.ref l4),v2,v3]/\Same H H6/\H6 l5=some (.lst (us.map V.ref))/\TiesAt H6 us ps/\H6 l4=some (.lst ((headT (srt ns)::(ps.take i).map rowT).map V.str))) ⟨_,_,rfl,s05,h5,hU5,h45⟩ ?_ ?_ ?_⟩
  ·rintro i σ H6 _ ⟨v2,v3,rfl,_,h,_⟩
   exact SqL.of h
  ·rintro i v σ H6 hv ⟨v2,v3,rfl,s6,h6,hU6,h46⟩
   rw [List.getElem?_map] at hv
   obtain ⟨t,et,rfl⟩:=Option.map_eq_some_iff.mp hv
   obtain ⟨p,ep,ht⟩:=hU6.get et
   have hp:=List.mem_of_getElem? ep
   have l1:=nm_len (npm p hp).1
   have l2:=nm_len (npm p hp).2
   have hi:i < ps.length:=(List.getElem?_eq_some_iff.mp ep).1
   have big:100<=sizeLine:=by decide
   have e3:gt3.length=3:=by decide +kernel
   refine ⟨t,_,rfl,SqT.of ht,rfl,_,_,rfl,_,_,rfl,rfl,?_⟩
   refine ⟨_,rfl,.inl ⟨rfl,_,SqL.of h46⟩,_,rfl,p.1,rfl,by omega,p.1,rfl,by rw [empty_app];omega,gt3,rfl,by rw [app_len,empty_app];omega,_,rfl,p.2,rfl,by omega,p.2,rfl,by rw [app_len,app_len,empty_app];omega,by rw [app_len,app_len,empty_app];omega,l4,_,_,rfl,rfl,h46,?_,?_⟩
   ·rw [List.length_map,List.length_cons,List.length_map,List.length_take]
    exact small1000 (by have:=g.few;omega)
   ·rw [empty_app]
    have b6:=But.upd H6 l4 (.lst ((headT (srt ns)::(ps.take i).map rowT).map V.str++[.str (p.1++gt3++p.2)]))
    refine ⟨_,_,rfl,Same.upd_new s6 n4H,b6 _ _ h6 n54,hU6.but b6 (fun xs q=>by rw [h46] at q;cases q),?_⟩
    rw [upd_same,List.take_add_one,ep]
    simp [rowT]
  rintro σ H6 ⟨v2,v3,rfl,s6,h6,hU6,h46⟩
  rw [lu,List.take_of_length_le (Nat.le_refl _)] at h46
  have rs:=rows_sum (ms:=srt ns) gS fS npm g.few
  refine ⟨rfl,_,rfl,nl1,l4,_,rfl,rfl,SqL.of h46,Nat.le_trans rs (by decide),_,_,rfl,rfl,?_,k _ s6⟩
  have:=join_le nl1 (headT (srt ns)::ps.map rowT)
  have e1:nl1.length=1:=by decide +kernel
  have big:2000<=sizeLine:=by decide
  rw [show (Str.ofString "\n").length=1 from by decide +kernel]
  omega
def spWR (C:Addr):Sp:=fun vs H Q _=>∃ (o:Addr) (ms:List Str) (ps:List (Str × Str)),vs=[.str (headT ms),.ref o]/\H o=some (.lst ((ps.map rowT).map V.str))/\GoodW ms ps/\∀ y H',WebObj C H' y ms ps->Same H H'->Q (.ref y) H'
abbrev nWR:List Str:=["first","others","places","ties"]
theorem scWR:FnScope nWR ["first","others"] (defScope sWRows):=⟨rfl,rfl,rfl,by decide +kernel,rfl,by decide +kernel,by decide +kernel⟩
theorem ok_wrows {f:Addr} {fd:FuncData} (F:Fun K "web_of_rows" "web_of_rows" sWRows f fd) (MkW:Mk K C fI) (mgC:mg "Web" = some (.ref C)) (bI:Binds K fdI ["self","places","ties"] []) (GI:FnOk P w K mg base CX0 4 fI fdI ["self","places","ties"] (spInit C)) (T:Glb mg):FnOk P w K mg base CX0 6 f fd ["first","others"] (spWR C):=by
 refine F.ok scWR (fun vs H Q E h=>?_) (fun cdv A outer s H vs Q E hr h=>?_)
 ·obtain ⟨o,ms,ps,rfl,_⟩:=h
  rfl
 ·obtain ⟨o,ms,ps,rfl,ho,g,k⟩:=h
  refine ⟨_,pss_cons (ps_set (i:=2) scWR.nd rfl (Or.inl rfl) (pe_slice sl_list (pe_bm PySem.F.plainAttrs_str PySem.F.slot_str_split PySem.F.type_str_split mt_split (pv 0) (pa_cons pe_str pa_nil)) (po_some pe_int) po_none))
   (pss_cons (ps_setL (i:=3) ["row"] [] scWR.nd rfl rfl rfl (compSc (osc:=(defScope sWRows).names) (N:=nWR) rfl rfl (by decide +kernel)) (gk_name (by decide)) (pi_list (pv 1))
    (fun _ _ _=>pg_name (i:=0) (show (["row"]:List Str).Nodup by decide +kernel) rfl (Or.inl rfl)) (fun _ _ _=>pifs_nil)
    (fun _ _ _=>pe_callTy (r:=rTupOf K) call_tuple_of (by rfl) T.tuple PyProof.Rows.boot_tuple (pa_cons (pe_bmK (K:=K) rfl PySem.F.plainAttrs_str PySem.F.slot_str_split PySem.F.type_str_split mt_split (pv 0) (pa_cons pe_str pa_nil)) pa_nil)))
   (pss_one (ps_tryN (pss_one (ps_ret (pe_make MkW GI hr rfl mgC bI .nil pass0 (pa_cons (pv 2) (pa_cons (pv 3) pa_nil)))))))),?_⟩
  have hs:=head_split (ms:=ms) g.good.nms
  have big:2000<=sizeLine:=by decide
  have hl:=head_len g.good.nms g.good.few
  refine ⟨_,rfl,rfl,headT ms,bl1,rfl,rfl,rfl,by omega,by rw [hs,List.length_cons];have:=g.good.few;omega,fun l1 n1=>?_⟩
  rw [hs]
  refine ⟨1,rfl,l1,_,rfl,SqL.of upd_same,fun l2 n2=>?_⟩
  rw [List.map_cons,cut1]
  have s2:Same H (upd (upd H l1 (.lst (.str plc::ms.map V.str))) l2 (.lst (ms.map V.str))):=(same_upd n1).trans (same_upd n2)
  have h2:=upd_same (H:=upd H l1 (.lst (.str plc::ms.map V.str))) (a:=l2) (o:=.lst (ms.map V.str))
  change tSeq _ _ _ _ (upd (upd H l1 (.lst (.str plc::ms.map V.str))) l2 (.lst (ms.map V.str)))
  generalize upd (upd H l1 (.lst (.str plc::ms.map V.str))) l2 (.lst (ms.map V.str))=H2 at s2 h2 ⊢
  have ho2:=s2 _ _ ho
  refine ⟨_,rfl,o,rfl,⟨_,SqL.of ho2⟩,lc_list (K:=K) (xs:=(ps.map rowT).map V.str) (fun i ys H3=>Same H2 H3/\∃ us,ys=us.map V.ref/\TiesAt H3 us (ps.take i)) ⟨Same.refl _,[],rfl,.nil⟩ ?_ ?_ ?_ ?_⟩
  ·rintro i ys H3 _ ⟨_,us,rfl,hU⟩
   rw [List.length_map,hU.len,List.length_take]
   have:=g.few
   omega
  ·rintro i ys H3 _ ⟨s3,_⟩
   exact SqL.of (s3 _ _ ho2)
  ·rintro i v ys H3 R hv ⟨s3,us,rfl,hU⟩ kR
   rw [List.getElem?_map,List.getElem?_map] at hv
   obtain ⟨z,ez,rfl⟩:=Option.map_eq_some_iff.mp hv
   obtain ⟨p,ep,rfl⟩:=Option.map_eq_some_iff.mp ez
   have hp:=g.nmp p (List.mem_of_getElem? ep)
   have sp:Txt.split (rowT p) gt3=[p.1,p.2]:=split_two (nm_free hp.1 (by decide)) (nm_free hp.2 (by decide))
   have rl:=rowT_len hp.1 hp.2
   simp only [tYes,gName,if_true]
   refine ⟨_,rfl,rfl,rowT p,gt3,rfl,rfl,rfl,by omega,by rw [sp];show 2<=sizeLine;decide,fun l4 n4=>?_⟩
   rw [sp]
   refine ⟨l4,_,rfl,.inl ⟨SqL.of upd_same,fun c nc=>kR _ _ ⟨s3.trans ((same_upd n4).trans (same_upd nc)),us++[c],by simp,?_⟩⟩⟩
   rw [List.take_add_one,ep]
   exact TiesAt.snoc ((hU.same (same_upd n4)).same (same_upd nc)) upd_same
  rintro ys H3 ⟨s3,us,rfl,hU⟩ l3 n3
  rw [List.length_map,List.length_map,List.take_of_length_le (Nat.le_refl _)] at hU
  have s4:=s3.trans (same_upd (o:=.lst (us.map V.ref)) n3)
  have h34:=upd_same (H:=H3) (a:=l3) (o:=.lst (us.map V.ref))
  have hU4:=hU.same (same_upd (o:=.lst (us.map V.ref)) n3)
  generalize upd H3 l3 (.lst (us.map V.ref))=H4 at s4 h34 hU4 ⊢
  refine ⟨_,rfl,_,rfl,?_⟩
  intro y dy ny ndy ney
  have sy:Same H4 (upd (upd H4 dy (.own y)) y (.ins C dy [])):=Same.upd_new (same_upd ndy) ny
  refine ⟨y,l2,l3,ms,ps,us,rfl,⟨dy,upd_same⟩,⟨sy _ _ (s4 _ _ h2),sy _ _ h34,hU4.same sy,g.good,g.ins,g.few⟩,fun H5 W5 b5=>⟨rfl,k y H5 W5 (s2.trans (s4.trans (Same.but sy b5 ny)))⟩⟩
end
section
variable {P:Program} {w:World} {K:PySem.W.Frag} {mg:Str->Option Value} {base:Heap}
variable {C fI fP fS fWT fWR:Addr} {fdI fdP fdS fdWT fdWR:FuncData}
def spRW (C:Addr):Sp:=fun vs H Q _=>∃ (ns:List Str) (ps:List (Str × Str)),vs=[.str (wtext ns ps)]/\GoodW ns ps/\∀ y H',WebObj C H' y (srt ns) ps->Same H H'->Q (.ref y) H'
abbrev nRW:List Str:=["text","rows","web"]
theorem scRW:FnScope nRW ["text"] (defScope sRead):=⟨rfl,rfl,rfl,by decide +kernel,rfl,by decide +kernel,by decide +kernel⟩
theorem ok_read {f:Addr} {fd:FuncData} (F:Fun K "read_web" "read_web" sRead f fd) (DT:Df K mg "web_text" sWText ["web"] fWT fdWT) (GT:FnOk P w K mg base CX0 2 fWT fdWT ["web"] (spWT C)) (DR:Df K mg "web_of_rows" sWRows ["first","others"] fWR fdWR) (GR:FnOk P w K mg base CX0 6 fWR fdWR ["first","others"] (spWR C)) (T:Glb mg):FnOk P w K mg base CX0 7 f fd ["text"] (spRW C):=by
 refine F.ok scRW (fun vs H Q E h=>?_) (fun cdv A outer s H vs Q E hr h=>?_)
 ·obtain ⟨ns,ps,rfl,_⟩:=h
  rfl
 ·obtain ⟨ns,ps,rfl,g,k⟩:=h
  have hr2:=hr.mono (j:=2) (by decide)
  refine ⟨_,pss_cons (ps_if (pt_not (pt_val (pe_callB (call_isinst (T:="str")) (by rfl) T.isinst boot_isinstance (pa_cons (pv 0) (pa_cons (pe_bltn (v:=.ty "str") rfl T.str PyProof.Rows.boot_str rfl) pa_nil))) (fun _=>rfl))) (pss_one ps_never) pss_nil)
   (pss_cons (ps_set (i:=1) scRW.nd rfl (Or.inl rfl) (pe_bm PySem.F.plainAttrs_str PySem.F.slot_str_split PySem.F.type_str_split mt_split (pv 0) (pa_cons pe_str pa_nil)))
   (pss_cons (ps_set (i:=2) scRW.nd rfl (Or.inl rfl) (pe_call GR hr rfl DR.mgf DR.fn.kp DR.b .nil pass0 (pa_cons (pe_ix ix_list (pv 1) pe_int (fun _ _=>rfl)) (pa_cons (pe_slice sl_list (pv 1) (po_some pe_int) (po_some (pe_un un_neg pe_int))) pa_nil))))
   (pss_cons (ps_if (pt_cmpR op_ne (pe_call GT hr2 rfl DT.mgf DT.fn.kp DT.b .nil pass0 (pa_cons (pv 2) pa_nil)) (pv 0) (nomark _)) (pss_one ps_never) pss_nil)
   (pss_one (ps_ret (pv 2)))))),?_⟩
  have ts:=text_split (ns:=ns) (ps:=ps) g.good.nms g.nmp
  have tl:=text_len g.good.nms g.good.few g.nmp g.few
  have big:2000<=sizeLine:=by decide
  refine ⟨_,rfl,_,_,true,rfl,.str _,rfl,_,rfl,iteF ?_⟩
  refine ⟨_,rfl,rfl,wtext ns ps,nl1,rfl,rfl,rfl,by omega,?_,fun l1 n1=>?_⟩
  ·rw [ts,List.length_append,List.length_cons,List.length_map]
   have:=g.few
   simp only [List.length_cons,List.length_nil]
   omega
  rw [ts]
  have s1:=same_upd (o:=.lst ((headT (srt ns)::ps.map rowT++[Str.empty]).map V.str)) n1
  have h1:=upd_same (H:=H) (a:=l1) (o:=.lst ((headT (srt ns)::ps.map rowT++[Str.empty]).map V.str))
  change tSeq _ _ _ _ (upd H l1 (.lst ((headT (srt ns)::ps.map rowT++[Str.empty]).map V.str)))
  generalize upd H l1 (.lst ((headT (srt ns)::ps.map rowT++[Str.empty]).map V.str))=H1 at s1 h1 ⊢
  have at0:atI ((headT (srt ns)::ps.map rowT++[Str.empty]).map V.str) 0=some (V.str (headT (srt ns))):=atI_nat (j:=0) (by simp)
  refine ⟨_,rfl,l1,_,0,.str (headT (srt ns)),rfl,rfl,SqL.of h1,at0,_,rfl,1,rfl,1,rfl,-1,rfl,l1,_,rfl,SqL.of h1,fun l2 n2=>?_⟩
  rw [List.map_append,List.map_cons,List.map_cons,List.map_nil,cut2]
  have gS:GoodW (srt ns) ps:=⟨⟨by rw [srt_len];exact g.good.one,by rw [srt_len];exact g.good.few,fun z hz=>g.good.nms z (srt_mem.mp hz),srt_nd g.good.nd⟩,g.inS,g.few⟩
  have ss:srt (srt ns)=srt ns:=(srt_of (List.Perm.refl _) (srt_pw ns)).symm
  refine ⟨l2,srt ns,ps,rfl,upd_same,gS,fun y H3 W3 s3=>?_⟩
  refine ⟨_,rfl,y,srt ns,ps,rfl,W3,gS,fun H4 s4=>⟨_,rfl,rfl,_,rfl,?_⟩⟩
  rw [show wtext (srt ns) ps=wtext ns ps from by unfold wtext;rw [ss],decide_eq_true rfl]
  exact iteF ⟨_,rfl,k y H4 (W3.same s4) (s1.trans ((same_upd n2).trans (s3.trans s4)))⟩
end
open PySem PySem.Spec PyProof.Rows L2 L8
theorem jn_len (sep:List Nat):∀ l:List (List Nat),l≠[]->(jn sep l).length+sep.length=(l.map (·.length)).sum+l.length * sep.length
 | [],h=>absurd rfl h
 | [x],_=>by simp [jn]
 | x::y::r,_=>by
  have ih:=jn_len sep (y::r) (by simp)
  show (x++sep++jn sep (y::r)).length+_=_
  simp only [List.length_append,List.map_cons,List.sum_cons,List.length_cons,Nat.succ_mul] at ih ⊢
  omega
theorem sum_ge:∀ {l:List Nat} {x:Nat},x∈l->x<=l.sum
 | [],_,h=>nomatch h
 | a::l,x,h=>by
  rw [List.sum_cons]
  rcases List.mem_cons.mp h with rfl | h
  ·omega
  ·have:=sum_ge h;omega
theorem split_sum (x y:Str):x.length+y.length=((Txt.split x y).map (·.length)).sum+(Txt.split x y).length * y.length:=by
 have e:=StrLaws.join_split x y
 have h:=jn_len (cs y) ((Txt.split x y).map cs) (by simpa using split_ne x y)
 have c:=cs_join y (Txt.split x y)
 rw [show Str.join y (Txt.split x y)=x from e] at c
 rw [<- c] at h
 simp only [List.map_map,List.length_map,Function.comp_def,cs,Array.length_toList] at h
 exact h
theorem split_bd {x y:Str} {b:Nat} (hy:1<=y.length) (hx:x.length<=b):(Txt.split x y).length<=b+1/\∀ p∈Txt.split x y,p.length<=b:=by
 have h:=split_sum x y
 have ne:=split_ne x y
 have l1:1<=(Txt.split x y).length:=by
  cases e:Txt.split x y with
  | nil=>exact absurd e ne
  | cons _ _=>simp
 obtain ⟨k,hk⟩:∃ k,(Txt.split x y).length=k+1:=⟨(Txt.split x y).length - 1,by omega⟩
 have hm:k<=k * y.length:=Nat.le_mul_of_pos_right _ hy
 rw [hk,Nat.succ_mul] at h
 refine ⟨by omega,fun p hp=>?_⟩
 have:=sum_ge (List.mem_map.mpr ⟨p,hp,rfl⟩:p.length∈(Txt.split x y).map (·.length))
 omega
def plOf (z:Str):List Str:=(Txt.split z bl1).drop 1
def tlOf (rs:List Str):List (List Str):=rs.map fun r=>Txt.split r gt3
def pr2 (p:Str × Str):List Str:=[p.1,p.2]
def PartsAt (H:Hp):List Addr->List (List Str)->Prop:=Paired fun t zs=>H t=some (.tup (zs.map V.str))
theorem PartsAt.same {H H':Hp} {us:List Addr} {zs:List (List Str)} (h:PartsAt H us zs) (s:Same H H'):PartsAt H' us zs:=Paired.mapP h fun t p e=>s t _ e
theorem PartsAt.len {H:Hp} {us:List Addr} {zs:List (List Str)} (h:PartsAt H us zs):us.length=zs.length:=by
 unfold PartsAt at h
 induction h with
 | nil=>rfl
 | cons _ _ ih=>simp [ih]
theorem PartsAt.snoc {H:Hp} {us:List Addr} {zs:List (List Str)} (h:PartsAt H us zs) {t:Addr} {z:List Str} (e:H t=some (.tup (z.map V.str))):PartsAt H (us++[t]) (zs++[z]):=by
 unfold PartsAt at h ⊢
 induction h with
 | nil=>exact .cons e .nil
 | cons r _ ih=>exact .cons r ih
theorem PartsAt.mem {H:Hp} {us:List Addr} {zs:List (List Str)} (h:PartsAt H us zs):∀ {u:Addr},u∈us->∃ z∈zs,H u=some (.tup (z.map V.str)):=by
 unfold PartsAt at h
 induction h with
 | nil=>intro u hu;exact nomatch hu
 | cons r _ ih =>
  intro u hu
  rcases List.mem_cons.mp hu with rfl | hu
  ·exact ⟨_,by simp,r⟩
  ·obtain ⟨z,hz,e⟩:=ih hu
   exact ⟨z,List.mem_cons_of_mem _ hz,e⟩
theorem PartsAt.mem' {H:Hp} {us:List Addr} {zs:List (List Str)} (h:PartsAt H us zs):∀ {z:List Str},z∈zs->∃ u∈us,H u=some (.tup (z.map V.str)):=by
 unfold PartsAt at h
 induction h with
 | nil=>intro u hu;exact nomatch hu
 | cons r _ ih =>
  intro u hu
  rcases List.mem_cons.mp hu with rfl | hu
  ·exact ⟨_,by simp,r⟩
  ·obtain ⟨z,hz,e⟩:=ih hu
   exact ⟨z,List.mem_cons_of_mem _ hz,e⟩
theorem PartsAt.ties {H:Hp}:∀ {us:List Addr} {ps:List (Str × Str)},PartsAt H us (ps.map pr2)->TiesAt H us ps:=by
 intro us ps h
 unfold PartsAt at h
 unfold TiesAt
 generalize e:ps.map pr2=zs at h
 induction h generalizing ps with
 | nil=>cases ps with
  | nil=>exact .nil
  | cons _ _=>simp at e
 | cons r _ ih=>cases ps with
  | nil=>simp at e
  | cons p ps =>
   rw [List.map_cons,List.cons.injEq] at e
   obtain ⟨rfl,e⟩:=e
   exact .cons r (ih e)
theorem tie_of {K:PySem.W.Frag} {H:Hp} {ns zs:List Str} {u:Addr} (e:H u=some (.tup (zs.map V.str))):∃ c,TieC K H ns (.ref u) c/\(c=true->∃ p:Str × Str,zs=pr2 p/\p.1∈ns/\p.2∈ns):=by
 match zs,e with
 | [a,b],e =>
  refine ⟨decide (a∈ns) && decide (b∈ns),.inl ⟨u,.str a,.str b,_,_,rfl,e,.inl ⟨a,rfl,rfl⟩,.inl ⟨b,rfl,rfl⟩,rfl⟩,fun h=>?_⟩
  simp only [Bool.and_eq_true,decide_eq_true_eq] at h
  exact ⟨(a,b),rfl,h.1,h.2⟩
 | [],e=>exact ⟨false,.inr (.inl ⟨u,_,rfl,e,by simp,rfl⟩),fun h=>nomatch h⟩
 | [a],e=>exact ⟨false,.inr (.inl ⟨u,_,rfl,e,by simp,rfl⟩),fun h=>nomatch h⟩
 | a::b::c::r,e=>exact ⟨false,.inr (.inl ⟨u,_,rfl,e,by simp,rfl⟩),fun h=>nomatch h⟩
theorem all_pairs:∀ {tl:List (List Str)} {ns:List Str},(∀ z∈tl,∃ p:Str × Str,z=pr2 p/\p.1∈ns/\p.2∈ns)->∃ ps,tl=ps.map pr2/\InP ns ps
 | [],_,_=>⟨[],rfl,fun _ h=>nomatch h⟩
 | z::tl,ns,h=>by
  obtain ⟨p,rfl,h1,h2⟩:=h z (by simp)
  obtain ⟨ps,e,hp⟩:=all_pairs (tl:=tl) (ns:=ns) fun y hy=>h y (List.mem_cons_of_mem _ hy)
  refine ⟨p::ps,by rw [e];rfl,fun q hq=>?_⟩
  rcases List.mem_cons.mp hq with rfl | hq
  ·exact ⟨h1,h2⟩
  ·exact hp q hq
theorem bad_of {K:PySem.W.Frag} {H:Hp} {l2 l3:Addr} {pl:List Str} {tl:List (List Str)} {us:List Addr} (h2:H l2=some (.lst (pl.map V.str))) (h3:H l3=some (.lst (us.map V.ref))) (hp:PartsAt H us tl) (lp:pl.length<=20000) (lw:∀ z∈pl,z.length<=20000)
  (no:∀ ps,tl=ps.map pr2->¬ GoodW pl ps):BadW K H (.ref l2) (.ref l3):=by
 by_cases hg:GoodP pl
 ·refine .inr ⟨l2,pl,rfl,h2,hg,.inr ⟨l3,us.map V.ref,rfl,h3,fun x hx=>?_,?_⟩⟩
  ·obtain ⟨u,hu,rfl⟩:=List.mem_map.mp hx
   obtain ⟨z,_,e⟩:=hp.mem hu
   obtain ⟨c,h,_⟩:=tie_of (K:=K) (ns:=pl) e
   exact ⟨c,h⟩
  ·refine Classical.byContradiction fun n=>?_
   have n1:¬ 30 < (us.map V.ref).length:=fun h=>n (.inl h)
   rw [List.length_map,hp.len] at n1
   have al:∀ z∈tl,∃ p:Str × Str,z=pr2 p/\p.1∈pl/\p.2∈pl:=fun z hz=>by
    obtain ⟨u,hu,e⟩:=hp.mem' hz
    obtain ⟨c,h,q⟩:=tie_of (K:=K) (ns:=pl) e
    cases c with
    | true=>exact q rfl
    | false=>exact absurd (.inr ⟨_,List.mem_map.mpr ⟨u,hu,rfl⟩,h⟩) n
   obtain ⟨ps,e,hi⟩:=all_pairs al
   exact no ps e ⟨hg,hi,by rw [e,List.length_map] at n1;omega⟩
 ·refine .inl (.inr ⟨l2,_,rfl,h2,fun x hx=>?_,by rw [List.length_map];exact lp,?_⟩)
  ·obtain ⟨z,hz,rfl⟩:=List.mem_map.mp hx
   exact .inl ⟨z,rfl,lw z hz⟩
  ·refine Classical.byContradiction fun n=>hg ?_
   have a1:1<=pl.length/\pl.length<=12:=Classical.byContradiction fun z=>n (.inl (by rw [List.length_map];exact z))
   refine ⟨a1.1,a1.2,fun z hz=>?_,Classical.byContradiction fun z=>n (.inr (.inr ⟨pl,rfl,z⟩))⟩
   cases e:nm z with
   | true=>rfl
   | false=>exact absurd (.inr (.inl ⟨_,List.mem_map.mpr ⟨z,hz,rfl⟩,e⟩)) n
section
variable {P:Program} {w:World} {K:PySem.W.Frag} {mg:Str->Option Value} {base:Heap} {CX:CXT} {k:Nat} {f:Addr} {fd:FuncData} {ps:List Str} {sp sp1 sp2:Sp}
theorem up0 (F:FnOk P w K mg base CX0 k f fd ps sp):FnOk P w K mg base CX k f fd ps sp :=
 ⟨F.len,fun A outer s H args us vs Q E hr he hb hv hs=>codeAny_mono (F.run A outer s H args us vs Q E hr he hb hv hs) fun r s' hq=>by
  cases r with
  | ok fl=>cases fl<;>exact hq
  | error e=>exact False.elim hq⟩
theorem or2 (F:FnOk P w K mg base CX k f fd ps sp1) (G:FnOk P w K mg base CX k f fd ps sp2):FnOk P w K mg base CX k f fd ps (fun vs H Q E=>sp1 vs H Q E\/sp2 vs H Q E) :=
 ⟨fun vs H Q E h=>h.elim (F.len _ _ _ _) (G.len _ _ _ _),fun A outer s H args us vs Q E hr he hb hv hs=>hs.elim (F.run A outer s H args us vs Q E hr he hb hv) (G.run A outer s H args us vs Q E hr he hb hv)⟩
end
section
variable {P:Program} {w:World} {K:PySem.W.Frag} {mg:Str->Option Value} {base:Heap}
variable {C E3 E6 fI fP fS fWT fWR:Addr} {fdI fdP fdS fdWT fdWR:FuncData}
def spWRX (C E6:Addr):Sp:=fun vs H Q R=>∃ (o:Addr) (z:Str) (rs:List Str),vs=[.str z,.ref o]/\H o=some (.lst (rs.map V.str))/\z.length<=10000/\rs.length<=10001/\(∀ r∈rs,r.length<=10000) /\
 ((∃ ps,tlOf rs=ps.map pr2/\GoodW (plOf z) ps/\∀ y H',WebObj C H' y (plOf z) ps->Same H H'->Q (.ref y) H')\/((∀ ps,tlOf rs=ps.map pr2->¬ GoodW (plOf z) ps)/\∀ H',Same H H'->R (.ref E6) none H'))
theorem ok_wrowsX {f:Addr} {fd:FuncData} (F:Fun K "web_of_rows" "web_of_rows" sWRows f fd) (MkW:Mk K C fI) (mgC:mg "Web" = some (.ref C)) (bI:Binds K fdI ["self","places","ties"] []) (GI:FnOk P w K mg base CX0 4 fI fdI ["self","places","ties"] (spInit C)) (GX:FnOk P w K mg base (CXF P w) 4 fI fdI ["self","places","ties"] (spInitX (K:=K) E3))
  (X3:Ex K mg "NoWeb" E3) (X6:Ex K mg "NoText" E6) (ex:PySem.W.exmOne K (.ref E3) (.ref E3)=some true) (T:Glb mg):FnOk P w K mg base (CXO P w) 6 f fd ["first","others"] (spWRX C E6):=by
 have G:FnOk P w K mg base (CXF P w) 4 fI fdI ["self","places","ties"] (fun vs H Q E=>spInit C vs H Q E\/spInitX (K:=K) E3 vs H Q E):=or2 (up0 GI) GX
 refine F.okD scWR (fun vs H Q E h=>?_) (fun cdv A outer s H vs Q E hr h=>?_)
 ·obtain ⟨o,z,rs,rfl,_⟩:=h
  rfl
 ·obtain ⟨o,z,rs,rfl,ho,lz,lr,lrs,hk⟩:=h
  obtain ⟨Bn,newId,initId,bm,q,FB⟩:=X6.bm
  refine ⟨_,pss_cons (ps_set (i:=2) scWR.nd rfl (Or.inl rfl) (pe_slice sl_list (pe_bm PySem.F.plainAttrs_str PySem.F.slot_str_split PySem.F.type_str_split mt_split (pv 0) (pa_cons pe_str pa_nil)) (po_some pe_int) po_none))
   (pss_cons (ps_setL (i:=3) ["row"] [] scWR.nd rfl rfl rfl (compSc (osc:=(defScope sWRows).names) (N:=nWR) rfl rfl (by decide +kernel)) (gk_name (by decide)) (pi_list (pv 1))
    (fun _ _ _=>pg_name (i:=0) (show (["row"]:List Str).Nodup by decide +kernel) rfl (Or.inl rfl)) (fun _ _ _=>pifs_nil)
    (fun _ _ _=>pe_callTy (r:=rTupOf K) call_tuple_of (by rfl) T.tuple PyProof.Rows.boot_tuple (pa_cons (pe_bmK (K:=K) rfl PySem.F.plainAttrs_str PySem.F.slot_str_split PySem.F.type_str_split mt_split (pv 0) (pa_cons pe_str pa_nil)) pa_nil)))
   (pss_one (ps_tryFrom (pef_make MkW G hr rfl mgC bI .nil (fun _=>pa_cons (pv 2) (pa_cons (pv 3) pa_nil))) rfl X3.b rfl X6.b q FB))),?_⟩
  have big:20002<=sizeLine:=by decide
  obtain ⟨bz,wz⟩:=split_bd (x:=z) (y:=bl1) (by decide +kernel) lz
  refine ⟨_,rfl,rfl,z,bl1,rfl,rfl,rfl,by omega,by omega,fun l1 n1=>?_⟩
  refine ⟨1,rfl,l1,_,rfl,SqL.of upd_same,fun l2 n2=>?_⟩
  have ecut:cutV ((Txt.split z bl1).map V.str) (some 1) none=(plOf z).map V.str:=by
   unfold plOf
   cases e:Txt.split z bl1 with
   | nil=>exact absurd e (split_ne _ _)
   | cons a r=>rw [List.map_cons,cut1];rfl
  rw [ecut]
  have s2:Same H (upd (upd H l1 (.lst ((Txt.split z bl1).map V.str))) l2 (.lst ((plOf z).map V.str))):=(same_upd n1).trans (same_upd n2)
  have h2:=upd_same (H:=upd H l1 (.lst ((Txt.split z bl1).map V.str))) (a:=l2) (o:=.lst ((plOf z).map V.str))
  change tSeq _ _ _ _ (upd (upd H l1 (.lst ((Txt.split z bl1).map V.str))) l2 (.lst ((plOf z).map V.str)))
  generalize upd (upd H l1 (.lst ((Txt.split z bl1).map V.str))) l2 (.lst ((plOf z).map V.str))=H2 at s2 h2 ⊢
  have ho2:=s2 _ _ ho
  refine ⟨_,rfl,o,rfl,⟨_,SqL.of ho2⟩,lc_list (K:=K) (xs:=rs.map V.str) (fun i ys H3=>Same H2 H3/\∃ us,ys=us.map V.ref/\PartsAt H3 us (tlOf (rs.take i))) ⟨Same.refl _,[],rfl,.nil⟩ ?_ ?_ ?_ ?_⟩
  ·rintro i ys H3 _ ⟨_,us,rfl,hU⟩
   rw [List.length_map,hU.len]
   unfold tlOf
   rw [List.length_map,List.length_take]
   omega
  ·rintro i ys H3 _ ⟨s3,_⟩
   exact SqL.of (s3 _ _ ho2)
  ·rintro i v ys H3 R hv ⟨s3,us,rfl,hU⟩ kR
   rw [List.getElem?_map] at hv
   obtain ⟨r,er,rfl⟩:=Option.map_eq_some_iff.mp hv
   have lr1:=lrs r (List.mem_of_getElem? er)
   obtain ⟨br,_⟩:=split_bd (x:=r) (y:=gt3) (by decide +kernel) lr1
   simp only [tYes,gName,if_true]
   refine ⟨_,rfl,rfl,r,gt3,rfl,rfl,rfl,by omega,by omega,fun l4 n4=>?_⟩
   refine ⟨l4,_,rfl,.inl ⟨SqL.of upd_same,fun c nc=>kR _ _ ⟨s3.trans ((same_upd n4).trans (same_upd nc)),us++[c],by simp,?_⟩⟩⟩
   have e:tlOf (rs.take (i+1))=tlOf (rs.take i)++[Txt.split r gt3]:=by unfold tlOf;rw [List.take_add_one,er,List.map_append];rfl
   rw [e]
   exact (hU.same ((same_upd n4).trans (same_upd nc))).snoc upd_same
  rintro ys H3 ⟨s3,us,rfl,hU⟩ l3 n3
  rw [List.length_map,List.take_length] at hU
  have s4:=s3.trans (same_upd (o:=.lst (us.map V.ref)) n3)
  have h3:=upd_same (H:=H3) (a:=l3) (o:=.lst (us.map V.ref))
  have hU4:=hU.same (same_upd (o:=.lst (us.map V.ref)) n3)
  generalize upd H3 l3 (.lst (us.map V.ref))=H4 at s4 h3 hU4 ⊢
  have s04:=s2.trans s4
  refine ⟨_,rfl,_,rfl,fun y dx ny ndx nex=>?_⟩
  have sx:Same H4 (upd (upd H4 dx (.own y)) y (.ins C dx [])):=Same.upd_new (same_upd ndx) ny
  rcases hk with ⟨ps,et,g,kQ⟩ | ⟨no,kR⟩
  ·rw [et] at hU4
   refine .inl ⟨y,l2,l3,plOf z,ps,us,rfl,⟨dx,upd_same⟩,⟨sx _ _ (s4 _ _ h2),sx _ _ h3,(hU4.same sx).ties,g.good,g.ins,g.few⟩,fun H7 W7 b7=>⟨rfl,?_⟩⟩
   exact kQ y H7 W7 (s04.trans (Same.but sx b7 ny))
  ·refine .inr ⟨y,.ref l2,.ref l3,rfl,bad_of (sx _ _ (s4 _ _ h2)) (sx _ _ h3) (hU4.same sx) ?_ ?_ no,fun H7 s7=>⟨ex,kR _ (s04.trans (sx.trans s7))⟩⟩
   ·unfold plOf;rw [List.length_drop];omega
   ·intro u hu
    exact Nat.le_trans (wz u (List.mem_of_mem_drop hu)) (by omega)
end
def NoW (t:Str):Prop:=∀ ns ps,GoodW ns ps->t≠wtext ns ps
theorem GoodW.srt {ns:List Str} {ps:List (Str × Str)} (g:GoodW ns ps):GoodW (srt ns) ps:=⟨⟨by rw [srt_len];exact g.good.one,by rw [srt_len];exact g.good.few,fun z hz=>g.good.nms z (srt_mem.mp hz),srt_nd g.good.nd⟩,g.inS,g.few⟩
theorem srt_srt (ns:List Str):srt (srt ns)=srt ns:=(srt_of (List.Perm.refl _) (srt_pw ns)).symm
theorem wtext_srt (ns:List Str) (ps:List (Str × Str)):wtext (srt ns) ps=wtext ns ps:=by unfold wtext;rw [srt_srt]
theorem web_or (t:Str):(∃ ns ps,GoodW ns ps/\srt ns=ns/\t=wtext ns ps)\/NoW t:=by
 by_cases h:∃ ns ps,GoodW ns ps/\t=wtext ns ps
 ·obtain ⟨ns,ps,g,e⟩:=h
  exact .inl ⟨srt ns,ps,g.srt,srt_srt ns,by rw [wtext_srt];exact e⟩
 ·exact .inr fun ns ps g e=>h ⟨ns,ps,g,e⟩
theorem cutm {z:V} {l:List V}:cutV (z::l) (some 1) (some (-1))=l.dropLast:=by
 unfold cutV HT.sIx
 rcases l.eq_nil_or_concat with rfl | ⟨r,e,rfl⟩
 ·simp
 ·simp
  rw [show ((-1:Int)+((r.length:Int)+1+1)).toNat - 1=r.length from by omega]
  simp
section
variable {P:Program} {w:World} {K:PySem.W.Frag} {mg:Str->Option Value} {base:Heap}
variable {C E3 E6 fI fP fS fWT fWR:Addr} {fdI fdP fdS fdWT fdWR:FuncData}
def BadX (K:PySem.W.Frag) (H:Hp) (x:V):Prop:=(∃ t:Str,x=.str t/\t.length<=10000/\NoW t)\/Not K H "str" x
def spRWX (K:PySem.W.Frag) (E6:Addr):Sp:=fun vs H Q R=>∃ x,vs=[x]/\BadX K H x/\∀ H',Same H H'->R (.ref E6) none H'
theorem ok_readX {f:Addr} {fd:FuncData} (F:Fun K "read_web" "read_web" sRead f fd) (DT:Df K mg "web_text" sWText ["web"] fWT fdWT) (GT:FnOk P w K mg base CX0 2 fWT fdWT ["web"] (spWT C)) (DR:Df K mg "web_of_rows" sWRows ["first","others"] fWR fdWR) (GR:FnOk P w K mg base (CXO P w) 6 fWR fdWR ["first","others"] (spWRX C E6)) (X6:Ex K mg "NoText" E6) (T:Glb mg):FnOk P w K mg base (CXO P w) 7 f fd ["text"] (spRWX K E6):=by
 refine F.okO scRW (fun vs H Q E h=>?_) (fun cdv A outer s H vs Q E hr h=>?_)
 ·obtain ⟨x,rfl,_⟩:=h
  rfl
 ·obtain ⟨x,rfl,hx,k⟩:=h
  obtain ⟨Bn,newId,initId,bm,q,FB⟩:=X6.bm
  have hr2:=hr.mono (j:=2) (by decide)
  refine ⟨_,pss_cons (ps_if (pt_not (pt_val (pe_callB (call_isinst (T:="str")) (by rfl) T.isinst boot_isinstance (pa_cons (pv 0) (pa_cons (pe_bltn (v:=.ty "str") rfl T.str PyProof.Rows.boot_str rfl) pa_nil))) (fun _=>rfl))) (pss_one (ps_raise rfl X6.b q FB (pa_cons pe_str pa_nil))) pss_nil)
   (pss_cons (ps_set (i:=1) scRW.nd rfl (Or.inl rfl) (pe_bm PySem.F.plainAttrs_str PySem.F.slot_str_split PySem.F.type_str_split mt_split (pv 0) (pa_cons pe_str pa_nil)))
   (pss_cons (ps_set (i:=2) scRW.nd rfl (Or.inl rfl) (pe_call GR hr rfl DR.mgf DR.fn.kp DR.b .nil passO (pa_cons (pe_ix ix_list (pv 1) pe_int (fun _ _=>rfl)) (pa_cons (pe_slice sl_list (pv 1) (po_some pe_int) (po_some (pe_un un_neg pe_int))) pa_nil))))
   (pss_cons (ps_if (pt_cmpR op_ne (pe_call GT hr2 rfl DT.mgf DT.fn.kp DT.b .nil pass0 (pa_cons (pv 2) pa_nil)) (pv 0) (nomark _)) (pss_one (ps_raise rfl X6.b q FB (pa_cons pe_str pa_nil))) pss_nil)
   (pss_one (ps_ret (pv 2)))))),?_⟩
  rcases hx with ⟨t,rfl,lt,no⟩ | ⟨t,ty,e⟩
  ·have big:20002<=sizeLine:=by decide
   obtain ⟨bt,wt⟩:=split_bd (x:=t) (y:=nl1) (by decide +kernel) lt
   refine ⟨_,rfl,_,_,true,rfl,.str _,rfl,_,rfl,iteF ?_⟩
   refine ⟨_,rfl,rfl,t,nl1,rfl,rfl,rfl,by omega,by omega,fun l1 n1=>?_⟩
   obtain ⟨r0,rr,er⟩:∃ r0 rr,Txt.split t nl1=r0::rr:=by
    cases e:Txt.split t nl1 with
    | nil=>exact absurd e (split_ne _ _)
    | cons a r=>exact ⟨a,r,rfl⟩
   rw [er] at bt wt ⊢
   have s1:=same_upd (o:=.lst ((r0::rr).map V.str)) n1
   have h1:=upd_same (H:=H) (a:=l1) (o:=.lst ((r0::rr).map V.str))
   change tSeq _ _ _ _ (upd H l1 (.lst ((r0::rr).map V.str)))
   generalize upd H l1 (.lst ((r0::rr).map V.str))=H1 at s1 h1 ⊢
   have at0:atI ((r0::rr).map V.str) 0=some (V.str r0):=atI_nat (j:=0) (by simp)
   refine ⟨_,rfl,l1,_,0,.str r0,rfl,rfl,SqL.of h1,at0,_,rfl,1,rfl,1,rfl,-1,rfl,l1,_,rfl,SqL.of h1,fun l2 n2=>?_⟩
   rw [List.map_cons,cutm,<- List.map_dropLast]
   have s2:=s1.trans (same_upd (o:=.lst (rr.dropLast.map V.str)) n2)
   have lw:∀ r∈rr.dropLast,r.length<=10000:=fun r hr=>wt r (List.mem_cons_of_mem _ (List.dropLast_subset _ hr))
   rw [List.length_cons] at bt
   have ld:rr.dropLast.length<=10001:=by rw [List.length_dropLast];omega
   refine ⟨l2,r0,rr.dropLast,rfl,upd_same,wt r0 (by simp),ld,lw,?_⟩
   by_cases hg:∃ ps,tlOf rr.dropLast=ps.map pr2/\GoodW (plOf r0) ps
   ·obtain ⟨ps,et,g⟩:=hg
    refine .inl ⟨ps,et,g,fun y H3 W3 s3=>?_⟩
    refine ⟨_,rfl,y,_,ps,rfl,W3,g,fun H4 s4=>⟨_,rfl,rfl,_,rfl,?_⟩⟩
    rw [show (decide (V.str (wtext (plOf r0) ps)=V.str t))=false from decide_eq_false fun e=>no _ _ g (V.str.inj e).symm]
    exact iteT ⟨by show 1<=_;decide,k _ (s2.trans (s3.trans s4))⟩
   ·exact .inr ⟨fun ps e g=>hg ⟨ps,e,g⟩,fun H' s'=>k _ (s2.trans s')⟩
  ·refine ⟨_,rfl,_,_,false,rfl,ty,e,_,rfl,iteT ?_⟩
   exact ⟨by show 1<=_;decide,k _ (Same.refl _)⟩
end
end K91
namespace L2
open PySem PySem.Spec PyProof.Rows
theorem jn_uniq2 {c d:Nat}:∀ {l m:List (List Nat)},l≠[]->m≠[]->(∀ x∈l,c ∉ x)->(∀ x∈m,c ∉ x)->jn [c,d] l=jn [c,d] m->l=m
 | [],_,h,_,_,_,_=>absurd rfl h
 | _::_,[],_,h,_,_,_=>absurd rfl h
 | [x],[y],_,_,_,_,h=>by rw [show x=y from h]
 | [x],y::z::r,_,_,hx,_,h=>by
  have:x=y++[c,d]++jn [c,d] (z::r):=h
  exact absurd (by rw [this];simp) (hx x List.mem_cons_self)
 | x::z::r,[y],_,_,_,hy,h=>by
  have:x++[c,d]++jn [c,d] (z::r)=y:=h
  exact absurd (by rw [<- this];simp) (hy y List.mem_cons_self)
 | x::z::r,y::w::q,_,_,hx,hy,h=>by
  have h':x++c::(d::jn [c,d] (z::r))=y++c::(d::jn [c,d] (w::q)):=by
   have:x++[c,d]++jn [c,d] (z::r)=y++[c,d]++jn [c,d] (w::q):=h
   simpa using this
  obtain ⟨e1,e2⟩:=first_at (hx x List.mem_cons_self) (hy y List.mem_cons_self) h'
  rw [List.cons.injEq] at e2
  rw [e1,jn_uniq2 (by simp) (by simp) (fun u hu=>hx u (List.mem_cons_of_mem _ hu)) (fun u hu=>hy u (List.mem_cons_of_mem _ hu)) e2.2]
theorem jn_next {c d:Nat} (cd:c≠d):∀ {l:List (List Nat)},(∀ x∈l,c ∉ x)->∀ k,(jn [c,d] l)[k]?=some c->(jn [c,d] l)[k+1]?=some d
 | [],_,k,h=>by simp [jn] at h
 | [x],hx,k,h=>absurd (List.mem_of_getElem? (show x[k]?=some c from h)) (hx x List.mem_cons_self)
 | x::y::r,hx,k,h=>by
  have e:jn [c,d] (x::y::r)=x++c::d::jn [c,d] (y::r):=by
   show x++[c,d]++jn [c,d] (y::r)=_
   simp
  rw [e] at h ⊢
  rcases Nat.lt_trichotomy k x.length with q | q | q
  ·rw [List.getElem?_append_left q] at h
   exact absurd (List.mem_of_getElem? h) (hx x List.mem_cons_self)
  ·subst q
   rw [List.getElem?_append_right (by omega)]
   simp
  ·rw [List.getElem?_append_right (by omega)] at h ⊢
   obtain ⟨j,hj⟩:∃ j,k - x.length=j+1:=⟨k - x.length - 1,by omega⟩
   rw [show k+1 - x.length=j+1+1 by omega]
   rw [hj] at h
   rw [List.getElem?_cons_succ] at h ⊢
   cases j with
   | zero =>
    rw [List.getElem?_cons_zero] at h
    exact absurd (by simpa using h:d=c) (Ne.symm cd)
   | succ j =>
    rw [List.getElem?_cons_succ] at h ⊢
    exact jn_next cd (fun u hu=>hx u (List.mem_cons_of_mem _ hu)) j h
theorem part_freeS (x sep:Str) (c a b:Nat) (hA:∀ k,x.cps.toList[k]?=some c->StrLaws.At x sep x.length k) (hn:∀ k,a<=k->k < b->¬ StrLaws.At x sep x.length k):c ∉ (Builtin.Str.strSub x a b).cps.toList:=by
 intro hm
 rw [StrLaws.strSub_toList] at hm
 obtain ⟨j,hj⟩:=List.getElem?_of_mem hm
 have hlt:j < b - a:=by
  have h1:j < ((x.cps.toList.drop a).take (b - a)).length:=(List.getElem?_eq_some_iff.mp hj).1
  simp at h1
  omega
 rw [List.getElem?_take_of_lt hlt,List.getElem?_drop] at hj
 exact hn (a+j) (by omega) (by omega) (hA _ hj)
theorem parts_freeS (x sep:Str) (c:Nat) (hA:∀ k,x.cps.toList[k]?=some c->StrLaws.At x sep x.length k):∀ (cuts:List Nat) (a f:Nat),StrLaws.ChainG x sep x.length a cuts f->(∀ k,f<=k->¬ StrLaws.At x sep x.length k)->∀ p∈StrLaws.partsFrom x sep.length a cuts,c ∉ p.cps.toList
 | [],a,f,h,hn,p,hp=>by
  have e:f=a:=h
  subst e
  rw [List.mem_singleton.mp hp]
  exact part_freeS x sep c f x.length hA fun k h1 _=>hn k h1
 | d::r,a,f,h,hn,p,hp=>by
  rcases List.mem_cons.mp hp with rfl | hp'
  ·exact part_freeS x sep c a d hA h.2.2.1
  ·exact parts_freeS x sep c hA r _ f h.2.2.2 hn p hp'
theorem split_freeS (x sep:Str) (c:Nat) (hs:1<=sep.length) (hA:∀ k,x.cps.toList[k]?=some c->StrLaws.At x sep x.length k) (hk:Builtin.Str.strKind sep=1):∀ p∈Txt.split x sep,c ∉ p.cps.toList:=by
 obtain ⟨f,hG,hn⟩:=StrLaws.occ_tight x sep hs
 unfold Txt.split
 split
 ·rename_i hc
  intro p hp
  rw [List.mem_singleton.mp hp]
  intro hm
  obtain ⟨j,hj⟩:=List.getElem?_of_mem hm
  have hA:=hA j hj
  rw [Bool.or_eq_true,decide_eq_true_eq,decide_eq_true_eq] at hc
  rcases hc with h | h
  ·have:=hA.1;omega
  ·rw [hk] at h
   unfold Builtin.Str.strKind at h
   split at h
   ·omega
   ·split at h<;>omega
 ·split
  ·rename_i he
   intro p hp
   rw [List.mem_singleton.mp hp]
   have e0:Builtin.Str.occurrences x sep 0 x.length (x.length+1)=[]:=List.isEmpty_iff.mp he
   rw [e0] at hG
   have ef:f=0:=hG
   subst ef
   rw [<- StrLaws.sub_whole x]
   exact part_freeS x sep c 0 x.length hA fun k h1 _=>hn k h1
  ·rw [StrLaws.partsBetween_eq]
   exact parts_freeS x sep c hA _ 0 f hG hn
abbrev sm2:Str:="; "
theorem cs_sm2:cs sm2=[59,32]:=by decide +kernel
theorem len_sm2:sm2.length=2:=by decide +kernel
theorem split_sm2 {l:List Str} (h0:l≠[]) (hf:∀ x∈l,59 ∉ cs x):Txt.split (Txt.join sm2 l) sm2=l:=by
 have ej:Txt.join sm2 l=Str.join sm2 l:=StrLaws.glued_eq_join _ _
 have hf':∀ x∈l.map cs,59 ∉ x:=fun x hx=>by
  obtain ⟨p,hp,rfl⟩:=List.mem_map.mp hx
  exact hf p hp
 have ec:cs (Txt.join sm2 l)=jn [59,32] (l.map cs):=by rw [ej,cs_join,cs_sm2]
 have hA:∀ k,(Txt.join sm2 l).cps.toList[k]?=some 59->StrLaws.At (Txt.join sm2 l) sm2 (Txt.join sm2 l).length k:=fun k hk=>by
  have hk':(jn [59,32] (l.map cs))[k]?=some 59:=by rw [<- ec];exact hk
  have h2:=jn_next (d:=32) (by decide) hf' k hk'
  have lt:=(List.getElem?_eq_some_iff.mp h2).1
  refine ⟨?_,?_⟩
  ·rw [len_sm2,len_cs,ec];omega
  ·rw [StrLaws.subAt_eq,len_sm2,show (Txt.join sm2 l).cps.toList=_ from ec,show sm2.cps.toList=_ from cs_sm2]
   obtain ⟨a1,a2⟩:=List.getElem?_eq_some_iff.mp hk'
   obtain ⟨b1,b2⟩:=List.getElem?_eq_some_iff.mp h2
   rw [List.drop_eq_getElem_cons a1,List.drop_eq_getElem_cons b1,a2,b2]
   rfl
 have h1:=StrLaws.join_split (Txt.join sm2 l) sm2
 have h2:=split_freeS (Txt.join sm2 l) sm2 59 (by rw [len_sm2];decide) hA (by decide +kernel)
 have h3:=split_ne (Txt.join sm2 l) sm2
 generalize Txt.split (Txt.join sm2 l) sm2=m at h1 h2 h3 ⊢
 rw [ej] at h1
 have:=congrArg cs h1
 rw [cs_join,cs_join,cs_sm2] at this
 refine cs_inj (jn_uniq2 (c:=59) (d:=32) (by simpa using h3) (by simpa using h0) (fun x hx=>?_) hf' this)
 obtain ⟨p,hp,rfl⟩:=List.mem_map.mp hx
 exact h2 p hp
section
open StrLaws
theorem ls_skip {s:Str} {i m:Nat} {st:LsSt} (h:Unicode.isLineBreak (s.cps.getD i 0)=false):Id.run (forIn (m:=Id) (List.range' i (m+1)) st (lsBody s))=Id.run (forIn (m:=Id) (List.range' (i+1) m) st (lsBody s)):=by
 rw [List.range'_succ,List.forIn_cons]
 unfold lsBody
 simp only [h,Bool.and_false,Bool.false_eq_true,if_false]
 rfl
theorem ls_brk {s:Str} {i m:Nat} {L:Array (Nat × Nat × Nat)} {b:Nat} (h:Unicode.isLineBreak (s.cps.getD i 0)=true) (hb:b<=i) (h13:s.cps.getD i 0≠13):Id.run (forIn (m:=Id) (List.range' i (m+1)) ((L,b):LsSt) (lsBody s))=Id.run (forIn (m:=Id) (List.range' (i+1) m) ((L.push (b,i,i+1),i+1):LsSt) (lsBody s)):=by
 rw [List.range'_succ,List.forIn_cons]
 have e:lsNext s i=i+1:=by
  unfold lsNext
  rw [if_neg (by intro hh;rw [Bool.and_eq_true,beq_iff_eq] at hh;exact h13 hh.1)]
 unfold lsBody
 simp only [h,decide_eq_true hb,Bool.and_self,if_true,e]
 rfl
theorem ls_skips {s:Str} {st:LsSt}:∀ (n:Nat) {i m:Nat},(∀ k,k < n->Unicode.isLineBreak (s.cps.getD (i+k) 0)=false)->Id.run (forIn (m:=Id) (List.range' i (n+m)) st (lsBody s))=Id.run (forIn (m:=Id) (List.range' (i+n) m) st (lsBody s))
 | 0,i,m,_=>by rw [Nat.zero_add,Nat.add_zero]
 | n+1,i,m,h=>by
  rw [show n+1+m=(n+m)+1 by omega,ls_skip (by simpa using h 0 (by omega)),ls_skips n (fun k hk=>by have:=h (k+1) (by omega);rwa [show i+(k+1)=i+1+k by omega] at this)]
  rw [show i+1+n=i+(n+1) by omega]
def lined (rs:List (List Nat)):List Nat:=rs.flatMap fun r=>r++[10]
def spans:Nat->List (List Nat)->List (Nat × Nat × Nat)
 | _,[]=>[]
 | i,r::rs=>(i,i+r.length,i+r.length+1)::spans (i+r.length+1) rs
theorem ls_all {s:Str}:∀ (rs:List (List Nat)) (i:Nat) (L:Array (Nat × Nat × Nat)),s.cps.toList.drop i=lined rs->i<=s.length->(∀ r∈rs,∀ c∈r,Unicode.isLineBreak c=false) ->
  Id.run (forIn (m:=Id) (List.range' i (s.length - i)) ((L,i):LsSt) (lsBody s))=(L++(spans i rs).toArray,s.length)
 | [],i,L,e,hi,_=>by
  have:s.length - i=0:=by
   have:=congrArg List.length e
   rw [List.length_drop,Array.length_toList] at this
   exact this
  have e2:i=s.length:=by omega
  rw [this]
  subst e2
  simp [spans]
 | r::rs,i,L,e,hi,hr=>by
  have e':s.cps.toList.drop i=r++10::lined rs:=by rw [e];simp [lined]
  have ln:s.length - i=r.length+(1+(lined rs).length):=by
   have:=congrArg List.length e'
   rw [List.length_drop,Array.length_toList] at this
   simp only [List.length_append,List.length_cons] at this
   show s.cps.size - i=_
   omega
  have at_:∀ k,s.cps.getD (i+k) 0=(r++10::lined rs).getD k 0:=fun k=>by
   rw [<- e',Array.getD_eq_getD_getElem?,List.getD_eq_getElem?_getD,List.getElem?_drop,Array.getElem?_toList]
  rw [ln,ls_skips r.length (fun k hk=>by
   rw [at_ k,List.getD_eq_getElem?_getD,List.getElem?_append_left hk,List.getElem?_eq_getElem hk]
   exact hr r List.mem_cons_self _ (List.getElem_mem hk))]
  have a10:s.cps.getD (i+r.length) 0=10:=by rw [at_];simp
  rw [Nat.add_comm 1,ls_brk (by rw [a10];decide +kernel) (by omega) (by rw [a10];decide)]
  have e2:s.cps.toList.drop (i+r.length+1)=lined rs:=by
   rw [show i+r.length+1=i+(r.length+1) by omega,<- List.drop_drop,e']
   simp
  have hl:i+r.length+1<=s.length:=by omega
  rw [show (lined rs).length=s.length - (i+r.length+1) by omega]
  rw [ls_all rs _ _ e2 hl fun q hq=>hr q (List.mem_cons_of_mem _ hq)]
  refine Prod.ext (Array.toList_inj.mp ?_) rfl
  show (L.push (i,i+r.length,i+r.length+1)++(spans (i+r.length+1) rs).toArray).toList=(L++((i,i+r.length,i+r.length+1)::spans (i+r.length+1) rs).toArray).toList
  rw [Array.toList_append,Array.toList_append,Array.toList_push,List.append_assoc,List.singleton_append]
theorem sub_spans {s:Str}:∀ (rs:List (List Nat)) (i:Nat),s.cps.toList.drop i=lined rs->(spans i rs).map (fun p=>cs (Builtin.Str.strSub s p.1 p.2.1))=rs
 | [],i,e=>rfl
 | r::rs,i,e=>by
  have e':s.cps.toList.drop i=r++10::lined rs:=by rw [e];simp [lined]
  have e2:s.cps.toList.drop (i+r.length+1)=lined rs:=by
   rw [show i+r.length+1=i+(r.length+1) by omega,<- List.drop_drop,e']
   simp
  show cs (Builtin.Str.strSub s i (i+r.length))::(spans (i+r.length+1) rs).map _=_
  rw [sub_spans rs _ e2,show cs (Builtin.Str.strSub s i (i+r.length))=r by
   show (Builtin.Str.strSub s i (i+r.length)).cps.toList=r
   rw [strSub_toList,e',Nat.add_sub_cancel_left,List.take_left']
   rfl]
theorem lines_of {s:Str} {rs:List Str} (e:cs s=lined (rs.map cs)) (hr:∀ r∈rs,∀ c∈cs r,Unicode.isLineBreak c=false):PySem.linesOf s=rs/\(PySem.lineCuts s).length=rs.length/\(rs≠[]->PySem.lineCuts s≠[(0,s.length)]):=by
 have e0:s.cps.toList.drop 0=lined (rs.map cs):=e
 have r0:∀ r∈rs.map cs,∀ c∈r,Unicode.isLineBreak c=false:=fun r h=>by
  obtain ⟨q,hq,rfl⟩:=List.mem_map.mp h
  exact hr q hq
 have h:=ls_all (s:=s) (rs.map cs) 0 #[] e0 (Nat.zero_le _) r0
 have sp:Builtin.Str.lineSpans s=spans 0 (rs.map cs):=by
  rw [ls_eq]
  rw [show s.length=s.length - 0 from rfl,h]
  unfold lsEnd
  rw [if_neg (by simp)]
  simp
 have lc:PySem.lineCuts s=(spans 0 (rs.map cs)).map fun p=>(p.1,p.2.1):=by
  unfold PySem.lineCuts
  rw [sp]
  rfl
 have ln:∀ (l:List (List Nat)) i,(spans i l).length=l.length:=fun l=>by
  induction l with
  | nil=>intro i;rfl
  | cons x l ih=>intro i;show (spans _ l).length+1=l.length+1;rw [ih]
 refine ⟨?_,by rw [lc,List.length_map,ln,List.length_map],fun hn q=>?_⟩
 ·refine cs_inj ?_
  unfold PySem.linesOf
  rw [lc,List.map_map,List.map_map]
  exact sub_spans (rs.map cs) 0 e0
 ·rw [lc] at q
  cases rs with
  | nil=>exact hn rfl
  | cons r rs =>
   have q0:(0,0+(cs r).length)=(0,s.length):=by
    have:=congrArg List.head? q
    simpa [spans] using this
   have ls:s.length=(lined ((r::rs).map cs)).length:=by rw [len_cs,e]
   have:(cs r).length=s.length:=by simpa using q0
   rw [ls] at this
   simp [lined] at this
end
section
variable {X:Cx}
theorem mt_splitlines:MtR X "str.splitlines" (fun x vs H Q=>∃ (z:Str) (rs:List Str),x=.str z/\vs=[]/\cs z=lined (rs.map cs)/\(∀ r∈rs,∀ c∈cs r,Unicode.isLineBreak c=false)/\rs≠[]/\z.length<=sizeLine/\rs.length<=sizeLine /\
  ∀ l,H l=none->Q (.ref l) (upd H l (.lst (rs.map V.str)))):=by
 intro pins s σ H x xs v us Q I rx r h
 obtain ⟨z,rs,rfl,rfl,e,hr,hn,hz,hl,q⟩:=h
 obtain ⟨t,rfl⟩:=rx
 cases r
 obtain ⟨l1,l2,l3⟩:=lines_of e hr
 refine call_meets F.slot_str_splitlines (typeIs_str _ _ _) F.entry_str_splitlines (F.args_str_splitlines_1 _) (meets_str_splitlines z t hz (by rw [l2];exact hl)) ?_
 rw [if_neg (by simpa using l3 hn),l1]
 rw [strsFrom_eq]
 exact ⟨.ref s.heap.objs.size,_,I.lnew (t':=_) (by have:=vals_strV (numbered s.toks rs);rw [numbered_texts] at this;exact this) (by rw [List.length_map];exact hl),rfl,q _ I.fresh⟩
def tFmtI (t:TE):TE:=fun σ H Q=>t σ H fun x H1=>∃ i:Int,x=.int i/\i.natAbs.log2 < 1920/\Q (.str (toString i)) H1
theorem pe_fmtI {e:Expr} {t:TE} {pos:Pos} (h:PE X e t):PE X (.FormattedValue e (-1) none pos) (tFmtI t):=by
 intro pins s σ H Q I q
 refine wpAny_FormattedValue_plain (thn (h pins s σ H _ I q) fun v s1 ⟨x,H1,I1,rx,i,e,hz,q1⟩=>?_)
 subst e
 obtain ⟨t,rfl⟩:=rx
 exact wpAny_formatField_int hz ⟨.str _,H1,I1.tok _,⟨_,rfl⟩,q1⟩
end
end L2
namespace K91
open PySem PySem.Spec PyProof.Rows L2
abbrev sIR:Stmt:=top 24 -- in_a_row
abbrev sSTi:Stmt:=top 25 -- show_ties
abbrev sSC:Stmt:=top 26 -- show_cut
abbrev sSE:Stmt:=top 27 -- show_entry
abbrev sSCs:Stmt:=top 28 -- show_cuts
abbrev sSW:Stmt:=top 29 -- show_web
abbrev sRR:Stmt:=top 30 -- read_row
section
variable {P:Program} {w:World} {K:PySem.W.Frag} {mg:Str->Option Value} {base:Heap}
variable {C fP fS fIR fSC fSE fWT fSW fRW:Addr} {fdP fdS fdIR fdSC fdSE fdWT fdSW fdRW:FuncData}
abbrev mn1:Str:="-"
abbrev pl1:Str:="+"
abbrev st1:Str:="*"
def inRow (zs:List Str):Str:=if zs=[] then mn1 else Txt.join bl1 zs
def Fits (zs:List Str):Prop:=(zs.map (·.length)).sum+zs.length<=100000
def spIR:Sp:=fun vs H Q _=>∃ (l:Addr) (zs:List Str),vs=[.ref l]/\SqL K H l (zs.map V.str)/\Fits zs/\Q (.str (inRow zs)) H
theorem scIR:FnScope ["words"] ["words"] (defScope sIR):=⟨rfl,rfl,rfl,by decide +kernel,rfl,by decide +kernel,by decide +kernel⟩
theorem ok_ir {f:Addr} {fd:FuncData} (F:Fun K "in_a_row" "in_a_row" sIR f fd):FnOk P w K mg base CX0 1 f fd ["words"] (spIR (K:=K)):=by
 refine F.ok scIR (fun vs H Q E h=>?_) (fun cdv A outer s H vs Q E hr h=>?_)
 ·obtain ⟨l,zs,rfl,_⟩:=h
  rfl
 ·obtain ⟨l,zs,rfl,hl,ft,k⟩:=h
  refine ⟨_,pss_one (ps_ret (pe_ifExp (pt_truth (pv 0) (fun _=>rfl)) (pe_bm PySem.F.plainAttrs_str PySem.F.slot_str_join PySem.F.type_str_join mt_join pe_str (pa_cons (pv 0) pa_nil)) pe_str)),?_⟩
  refine ⟨_,rfl,_,.inl ⟨_,hl,rfl⟩,?_⟩
  unfold inRow at k
  cases zs with
  | nil=>exact iteF k
  | cons z zs =>
   rw [if_neg (by simp)] at k
   refine iteT ⟨rfl,_,rfl,bl1,l,z::zs,rfl,rfl,hl,?_,k⟩
   unfold Fits at ft
   rw [show bl1.length=1 from by decide +kernel]
   omega
def spSC:Sp:=fun vs H Q _=>∃ (t:Addr) (zs:List Str),vs=[.ref t]/\SqT K H t (zs.map V.str)/\Fits zs/\Q (.str (Txt.join pl1 zs)) H
theorem scSC:FnScope ["cut"] ["cut"] (defScope sSC):=⟨rfl,rfl,rfl,by decide +kernel,rfl,by decide +kernel,by decide +kernel⟩
theorem ok_sc {f:Addr} {fd:FuncData} (F:Fun K "show_cut" "show_cut" sSC f fd):FnOk P w K mg base CX0 1 f fd ["cut"] (spSC (K:=K)):=by
 refine F.ok scSC (fun vs H Q E h=>?_) (fun cdv A outer s H vs Q E hr h=>?_)
 ·obtain ⟨l,zs,rfl,_⟩:=h
  rfl
 ·obtain ⟨l,zs,rfl,hl,ft,k⟩:=h
  refine ⟨_,pss_one (ps_ret (pe_ifExp (pt_cmp (pc_isN (pv 0))) pe_str (pe_bm PySem.F.plainAttrs_str PySem.F.slot_str_join PySem.F.type_str_join mt_joinT pe_str (pa_cons (pv 0) pa_nil)))),?_⟩
  refine ⟨_,rfl,_,rfl,iteF ⟨rfl,_,rfl,pl1,l,zs,rfl,rfl,hl,?_,k⟩⟩
  unfold Fits at ft
  rw [show pl1.length=1 from by decide +kernel]
  omega
end
section
variable {P:Program} {w:World} {K:PySem.W.Frag} {mg:Str->Option Value} {base:Heap}
variable {C fP fS fIR fSC fSE fWT fSW fRW:Addr} {fdP fdS fdIR fdSC fdSE fdWT fdSW fdRW:FuncData}
abbrev rStrI:List V->Hp->VK->Prop:=fun xs H Q=>∃ i:Int,xs=[.int i]/\i.natAbs.log2 < 1920/\Q (.str (toString i)) H
abbrev txt (i:Int):Str:=toString i
theorem log_small {i:Int} (h0:0<=i) (h1:i < 10 ^ 13):i.natAbs.log2 < 1920:=by
 have:i.natAbs < 2 ^ 44:=by omega
 have h:=Nat.log2_lt (n:=i.natAbs) (k:=44)
 by_cases z:i.natAbs=0
 ·rw [z];decide
 ·have:=(Nat.log2_lt z).mpr this
  omega
theorem txt_len {i:Int} (h0:0<=i) (h1:i < 10 ^ 13):(txt i).length<=13:=toString_length_le h0 (by decide) h1
theorem fits_ints {ks:List Int} (h:∀ i∈ks,0<=i/\i < 10 ^ 13) (few:ks.length<=100):Fits (ks.map txt):=by
 have:=sum_le (b:=13) (l:=ks.map txt) fun x hx=>by
  obtain ⟨i,hi,rfl⟩:=List.mem_map.mp hx
  exact txt_len (h i hi).1 (h i hi).2
 unfold Fits
 rw [List.length_map] at this ⊢
 omega
def spSTi:Sp:=fun vs H Q _=>∃ (l:Addr) (ks:List Int),vs=[.ref l]/\SqL K H l (ks.map V.int)/\(∀ i∈ks,0<=i/\i < 10 ^ 13)/\ks.length<=100/\∀ H',Same H H'->Q (.str (inRow (ks.map txt))) H'
theorem scSTi:FnScope ["ties"] ["ties"] (defScope sSTi):=⟨rfl,rfl,rfl,by decide +kernel,rfl,by decide +kernel,by decide +kernel⟩
theorem ok_sti {f:Addr} {fd:FuncData} (F:Fun K "show_ties" "show_ties" sSTi f fd) (DI:Df K mg "in_a_row" sIR ["words"] fIR fdIR) (T:Glb mg):FnOk P w K mg base CX0 2 f fd ["ties"] (spSTi (K:=K)):=by
 have GI:FnOk P w K mg base CX0 1 fIR fdIR ["words"] (spIR (K:=K)):=ok_ir DI.fn
 refine F.ok scSTi (fun vs H Q E h=>?_) (fun cdv A outer s H vs Q E hr h=>?_)
 ·obtain ⟨l,ks,rfl,_⟩:=h
  rfl
 ·obtain ⟨l,ks,rfl,hl,hk,few,k⟩:=h
  have h1:=hr.mono (j:=1) (by decide)
  refine ⟨_,pss_one (ps_ret (pe_ifExp (pt_cmp (pc_isN (pv 0))) pe_str (pe_call GI h1 rfl DI.mgf DI.fn.kp DI.b .nil pass0 (pa_cons
   (pe_lc ["k"] [] rfl (compSc (osc:=(defScope sSTi).names) (N:=["ties"]) rfl rfl (by decide +kernel)) (gk_name (by decide)) (pi_list (pv 0))
    (fun _ _ _=>pg_name (i:=0) (show (["k"]:List Str).Nodup by decide +kernel) rfl (Or.inl rfl)) (fun _ _ _=>pifs_nil)
    (fun _ _ _=>pe_callTy (r:=rStrI) call_str_int (by rfl) T.str PyProof.Rows.boot_str (pa_cons (pv 0) pa_nil))) pa_nil)))),?_⟩
  have big:2000<=sizeLine:=by decide
  refine ⟨_,rfl,_,rfl,iteF ⟨_,rfl,l,rfl,⟨_,hl⟩,lc_list (K:=K) (xs:=ks.map V.int) (fun i ys H3=>H3=H/\ys=((ks.take i).map txt).map V.str) ⟨rfl,rfl⟩ ?_ ?_ ?_ ?_⟩⟩
  ·rintro i ys H3 _ ⟨_,rfl⟩
   rw [List.length_map,List.length_map,List.length_take]
   omega
  ·rintro i ys H3 _ ⟨rfl,_⟩
   exact hl
  ·rintro i v ys H3 R hv ⟨rfl,rfl⟩ kR
   rw [List.getElem?_map] at hv
   obtain ⟨j,ej,rfl⟩:=Option.map_eq_some_iff.mp hv
   have hj:=hk j (List.mem_of_getElem? ej)
   simp only [tYes,gName,if_true]
   refine ⟨_,rfl,j,rfl,log_small hj.1 hj.2,kR _ _ ⟨rfl,?_⟩⟩
   rw [List.take_add_one,ej]
   simp
   rfl
  ·rintro ys H3 ⟨rfl,rfl⟩ D hD
   rw [List.length_map,List.take_of_length_le (Nat.le_refl _)]
   exact ⟨D,ks.map txt,rfl,SqL.of upd_same,fits_ints hk few,k _ (same_upd hD)⟩
def Ent (K:PySem.W.Frag) (H:Hp) (p:Addr) (z:Str):Prop :=
 (∃ zs:List Str,zs≠[]/\SqT K H p (zs.map V.str)/\Fits zs/\z=Txt.join pl1 zs) \/
 ∃ (t:Addr) (zs:List Str) (n:Int),SqT K H p [.ref t,.int n]/\H t=some (.tup (zs.map V.str))/\Fits zs/\0<=n/\n < 10 ^ 13/\z=Txt.join pl1 zs++st1++txt n
def spSE:Sp:=fun vs H Q _=>∃ (p:Addr) (z:Str),vs=[.ref p]/\Ent K H p z/\Q (.str z) H
abbrev nSE:List Str:=["thing","cut","times"]
theorem scSE:FnScope nSE ["thing"] (defScope sSE):=⟨rfl,rfl,rfl,by decide +kernel,rfl,by decide +kernel,by decide +kernel⟩
theorem ok_se {f:Addr} {fd:FuncData} (F:Fun K "show_entry" "show_entry" sSE f fd) (DC:Df K mg "show_cut" sSC ["cut"] fSC fdSC) (T:Glb mg):FnOk P w K mg base CX0 2 f fd ["thing"] (spSE (K:=K)):=by
 have GC:FnOk P w K mg base CX0 1 fSC fdSC ["cut"] (spSC (K:=K)):=ok_sc DC.fn
 refine F.ok scSE (fun vs H Q E h=>?_) (fun cdv A outer s H vs Q E hr h=>?_)
 ·obtain ⟨p,z,rfl,_⟩:=h
  rfl
 ·obtain ⟨p,z,rfl,en,k⟩:=h
  have h1:=hr.mono (j:=1) (by decide)
  refine ⟨_,pss_cons (ps_if (pt_val (pe_callB (call_isinst (T:="str")) (by rfl) T.isinst boot_isinstance (pa_cons (pe_ix ix_tup (pv 0) pe_int (fun _ _=>rfl)) (pa_cons (pe_bltn (v:=.ty "str") rfl T.str PyProof.Rows.boot_str rfl) pa_nil))) (fun _=>rfl))
    (pss_one (ps_ret (pe_call GC h1 rfl DC.mgf DC.fn.kp DC.b .nil pass0 (pa_cons (pv 0) pa_nil)))) pss_nil)
   (pss_cons (ps_asg (pv 0) (pg_tup rfl (pgs_cons (pg_name (i:=1) scSE.nd rfl (Or.inl rfl)) (pgs_cons (pg_name (i:=2) scSE.nd rfl (Or.inl rfl)) pgs_nil))))
   (pss_one (ps_ret (pe_joined (pj_cons (pe_fmt (pe_call GC h1 rfl DC.mgf DC.fn.kp DC.b .nil pass0 (pa_cons (pv 1) pa_nil))) (pj_cons pe_str (pj_cons (pe_fmtI (pv 2)) pj_nil))))))),?_⟩
  rcases en with ⟨zs,ne,hp,ft,rfl⟩ | ⟨t,zs,n,hp,ht,ft,n0,n1,rfl⟩
  ·cases zs with
   | nil=>exact absurd rfl ne
   | cons z zs =>
    refine ⟨_,rfl,p,_,0,.str z,rfl,rfl,hp,atI_nat (j:=0) (by simp),?_⟩
    refine ⟨_,_,true,rfl,.str _,rfl,_,rfl,iteT ?_⟩
    exact ⟨_,rfl,p,z::zs,rfl,hp,ft,k⟩
  ·have big:200000<=sizeLine:=by decide
   have jl:=join_le pl1 zs
   have e1:pl1.length=1:=by decide +kernel
   have e2:st1.length=1:=by decide +kernel
   have e3:(Str.ofString (toString n)).length<=13:=txt_len n0 n1
   have ft':=ft
   unfold Fits at ft'
   rw [e1] at jl
   refine ⟨_,rfl,p,_,0,.ref t,rfl,rfl,hp,atI_nat (j:=0) (by simp),?_⟩
   refine ⟨_,_,false,rfl,.tup ht,rfl,_,rfl,iteF ?_⟩
   refine ⟨_,rfl,p,_,rfl,hp,rfl,_,_,rfl,_,_,rfl,rfl,?_⟩
   refine ⟨_,rfl,t,zs,rfl,.inl (.inl ht),ft,_,rfl,by omega,_,rfl,by rw [empty_app];omega,st1,rfl,by rw [app_len,empty_app];omega,_,rfl,n,rfl,log_small n0 n1,_,rfl,by rw [app_len,app_len,empty_app];omega,by rw [app_len,app_len,empty_app];omega,?_⟩
   rw [empty_app]
   exact k
end
section
variable {P:Program} {w:World} {K:PySem.W.Frag} {mg:Str->Option Value} {base:Heap}
variable {C fP fS fIR fSC fSE fWT fSW fRW:Addr} {fdP fdS fdIR fdSC fdSE fdWT fdSW fdRW:FuncData}
def spSCs:Sp:=fun vs H Q _=>∃ (l:Addr) (qs:List (Addr × Str)),vs=[.ref l]/\H l=some (.lst (qs.map fun q=>V.ref q.1))/\(∀ q∈qs,Ent K H q.1 q.2)/\qs.length<=100/\Fits (qs.map (·.2))/\∀ H',Same H H'->Q (.str (inRow (qs.map (·.2)))) H'
theorem scSCs:FnScope ["cuts"] ["cuts"] (defScope sSCs):=⟨rfl,rfl,rfl,by decide +kernel,rfl,by decide +kernel,by decide +kernel⟩
theorem ok_scs {f:Addr} {fd:FuncData} (F:Fun K "show_cuts" "show_cuts" sSCs f fd) (DI:Df K mg "in_a_row" sIR ["words"] fIR fdIR) (DE:Df K mg "show_entry" sSE ["thing"] fSE fdSE) (DC:Df K mg "show_cut" sSC ["cut"] fSC fdSC) (T:Glb mg):FnOk P w K mg base CX0 3 f fd ["cuts"] (spSCs (K:=K)):=by
 have GI:FnOk P w K mg base CX0 1 fIR fdIR ["words"] (spIR (K:=K)):=ok_ir DI.fn
 have GE:FnOk P w K mg base CX0 2 fSE fdSE ["thing"] (spSE (K:=K)):=ok_se DE.fn DC T
 refine F.ok scSCs (fun vs H Q E h=>?_) (fun cdv A outer s H vs Q E hr h=>?_)
 ·obtain ⟨l,qs,rfl,_⟩:=h
  rfl
 ·obtain ⟨l,qs,rfl,hl,he,few,ft,k⟩:=h
  have h1:=hr.mono (j:=1) (by decide)
  refine ⟨_,pss_one (ps_ret (pe_ifExp (pt_cmp (pc_isN (pv 0))) pe_str (pe_call GI h1 rfl DI.mgf DI.fn.kp DI.b .nil pass0 (pa_cons
   (pe_lc ["thing"] [] rfl (compSc (osc:=(defScope sSCs).names) (N:=["cuts"]) rfl rfl (by decide +kernel)) (gk_name (by decide)) (pi_list (pv 0))
    (fun _ _ _=>pg_name (i:=0) (show (["thing"]:List Str).Nodup by decide +kernel) rfl (Or.inl rfl)) (fun _ _ _=>pifs_nil)
    (fun _ _ _=>pe_call GE hr rfl DE.mgf DE.fn.kp DE.b .nil pass0 (pa_cons (pv 0) pa_nil))) pa_nil)))),?_⟩
  have big:2000<=sizeLine:=by decide
  refine ⟨_,rfl,_,rfl,iteF ⟨_,rfl,l,rfl,⟨_,SqL.of hl⟩,lc_list (K:=K) (xs:=qs.map fun q=>V.ref q.1) (fun i ys H3=>H3=H/\ys=((qs.take i).map (·.2)).map V.str) ⟨rfl,rfl⟩ ?_ ?_ ?_ ?_⟩⟩
  ·rintro i ys H3 _ ⟨_,rfl⟩
   rw [List.length_map,List.length_map,List.length_take]
   omega
  ·rintro i ys H3 _ ⟨rfl,_⟩
   exact SqL.of hl
  ·rintro i v ys H3 R hv ⟨rfl,rfl⟩ kR
   rw [List.getElem?_map] at hv
   obtain ⟨q,eq,rfl⟩:=Option.map_eq_some_iff.mp hv
   have hq:=he q (List.mem_of_getElem? eq)
   simp only [tYes,gName,if_true]
   refine ⟨_,rfl,q.1,q.2,rfl,hq,kR _ _ ⟨rfl,?_⟩⟩
   rw [List.take_add_one,eq]
   simp
  ·rintro ys H3 ⟨rfl,rfl⟩ D hD
   rw [List.length_map,List.take_of_length_le (Nat.le_refl _)]
   exact ⟨D,qs.map (·.2),rfl,SqL.of upd_same,ft,k _ (same_upd hD)⟩
def wrow (ns:List Str) (ps:List (Str × Str)):Str:=Txt.join sm2 (headT (srt ns)::ps.map rowT)
theorem brk_free {c:Nat} (h:c=32\/c=62\/(97<=c/\c<=122)):Unicode.isLineBreak c=false:=by
 have:∀ c,c < 123->(c=32\/c=62\/(97<=c/\c<=122))->Unicode.isLineBreak c=false:=by decide +kernel
 exact this c (by omega) h
theorem jn_mem {sep:List Nat} {c:Nat}:∀ {l:List (List Nat)},c∈jn sep l->c∈sep\/∃ x∈l,c∈x
 | [],h=>nomatch h
 | [x],h=>.inr ⟨x,List.mem_cons_self,h⟩
 | x::y::r,h=>by
  have h':c∈x++sep++jn sep (y::r):=h
  rw [List.mem_append,List.mem_append] at h'
  rcases h' with (h1 | h1) | h1
  ·exact .inr ⟨x,List.mem_cons_self,h1⟩
  ·exact .inl h1
  ·rcases jn_mem h1 with q | ⟨z,hz,q⟩
   ·exact .inl q
   ·exact .inr ⟨z,List.mem_cons_of_mem _ hz,q⟩
theorem nm_sign {z:Str} (h:nm z=true) {c:Nat} (hc:c∈cs z):c=32\/c=62\/(97<=c/\c<=122):=.inr (.inr (nm_all h hc))
theorem head_sign {ms:List Str} (h:∀ z∈ms,nm z=true) {c:Nat} (hc:c∈cs (headT ms)):c=32\/c=62\/(97<=c/\c<=122):=by
 unfold headT at hc
 rw [show Txt.join bl1 (plc::ms)=Str.join bl1 (plc::ms) from StrLaws.glued_eq_join _ _,cs_join] at hc
 rcases jn_mem hc with q | ⟨x,hx,q⟩
 ·rw [show cs bl1=[32] from by decide +kernel] at q
  exact .inl (List.mem_singleton.mp q)
 ·rw [List.map_cons] at hx
  rcases List.mem_cons.mp hx with e | e
  ·rw [e,cs_plc] at q
   have:∀ c∈[112,108,97,99,101,115],97<=c/\c<=122:=by decide
   exact .inr (.inr (this c q))
  ·obtain ⟨z,hz,rfl⟩:=List.mem_map.mp e
   exact nm_sign (h z hz) q
theorem row_sign {p:Str × Str} (h1:nm p.1=true) (h2:nm p.2=true) {c:Nat} (hc:c∈cs (rowT p)):c=32\/c=62\/(97<=c/\c<=122):=by
 unfold rowT at hc
 rw [cs_app,cs_app,cs_gt3,List.mem_append,List.mem_append] at hc
 rcases hc with (q | q) | q
 ·exact nm_sign h1 q
 ·have:∀ c∈[32,62,32],c=32\/c=62:=by decide
  rcases this c q with r | r
  ·exact .inl r
  ·exact .inr (.inl r)
 ·exact nm_sign h2 q
theorem rows_sign {ms:List Str} {ps:List (Str × Str)} (h:∀ z∈ms,nm z=true) (hp:∀ p∈ps,nm p.1=true/\nm p.2=true):∀ r∈headT ms::ps.map rowT,∀ c∈cs r,c=32\/c=62\/(97<=c/\c<=122):=fun r hr c hc=>by
 rcases List.mem_cons.mp hr with e | e
 ·rw [e] at hc
  exact head_sign h hc
 ·obtain ⟨p,hp',rfl⟩:=List.mem_map.mp e
  exact row_sign (hp p hp').1 (hp p hp').2 hc
theorem jn_lined:∀ {l:List (List Nat)},l≠[]->jn [10] l++[10]=lined l
 | [],h=>absurd rfl h
 | [x],_=>by simp [jn,lined]
 | x::y::r,_=>by
  show x++[10]++jn [10] (y::r)++[10]=_
  rw [List.append_assoc,jn_lined (by simp)]
  simp [lined]
theorem text_lined (ns:List Str) (ps:List (Str × Str)):cs (wtext ns ps)=lined ((headT (srt ns)::ps.map rowT).map cs):=by
 unfold wtext
 rw [cs_app,show Txt.join nl1 (headT (srt ns)::ps.map rowT)=Str.join nl1 (headT (srt ns)::ps.map rowT) from StrLaws.glued_eq_join _ _,cs_join,show cs nl1=[10] from by decide +kernel]
 exact jn_lined (by simp)
theorem wrow_split {ns:List Str} {ps:List (Str × Str)} (g:GoodW ns ps):Txt.split (wrow ns ps) sm2=headT (srt ns)::ps.map rowT:=by
 unfold wrow
 refine split_sm2 (by simp) fun x hx m=>?_
 have:=rows_sign (ms:=srt ns) (fun z hz=>g.good.nms z (srt_mem.mp hz)) g.nmp x hx 59 m
 omega
theorem wrow_sum {ns:List Str} {ps:List (Str × Str)} (g:GoodW ns ps):((headT (srt ns)::ps.map rowT).map (·.length)).sum+(headT (srt ns)::ps.map rowT).length * sm2.length<=1100:=by
 have rs:=rows_sum (ms:=srt ns) (fun z hz=>g.good.nms z (srt_mem.mp hz)) (by rw [srt_len];exact g.good.few) g.nmp g.few
 have e1:nl1.length=1:=by decide +kernel
 rw [e1] at rs
 rw [len_sm2]
 have:=g.few
 simp only [List.length_cons,List.length_map] at rs ⊢
 omega
theorem wrow_len {ns:List Str} {ps:List (Str × Str)} (g:GoodW ns ps):(wrow ns ps).length<=1100:=Nat.le_trans (join_le _ _) (wrow_sum g)
def spSW (C:Addr):Sp:=fun vs H Q _=>∃ (x:Addr) (ns:List Str) (ps:List (Str × Str)),vs=[.ref x]/\WebObj C H x ns ps/\GoodW ns ps/\∀ H',Same H H'->Q (.str (wrow ns ps)) H'
theorem scSW:FnScope ["web"] ["web"] (defScope sSW):=⟨rfl,rfl,rfl,by decide +kernel,rfl,by decide +kernel,by decide +kernel⟩
theorem ok_sw {f:Addr} {fd:FuncData} (F:Fun K "show_web" "show_web" sSW f fd) (DT:Df K mg "web_text" sWText ["web"] fWT fdWT) (GT:FnOk P w K mg base CX0 2 fWT fdWT ["web"] (spWT C)):FnOk P w K mg base CX0 3 f fd ["web"] (spSW C):=by
 refine F.ok scSW (fun vs H Q E h=>?_) (fun cdv A outer s H vs Q E hr h=>?_)
 ·obtain ⟨x,ns,ps,rfl,_⟩:=h
  rfl
 ·obtain ⟨x,ns,ps,rfl,hW,g,k⟩:=h
  refine ⟨_,pss_one (ps_ret (pe_bm PySem.F.plainAttrs_str PySem.F.slot_str_join PySem.F.type_str_join mt_join pe_str (pa_cons (pe_bm0 PySem.F.plainAttrs_str PySem.F.slot_str_splitlines PySem.F.type_str_splitlines mt_splitlines (pe_call GT hr rfl DT.mgf DT.fn.kp DT.b .nil pass0 (pa_cons (pv 0) pa_nil))) pa_nil))),?_⟩
  have gS:∀ z∈srt ns,nm z=true:=fun z hz=>g.good.nms z (srt_mem.mp hz)
  have tl:=text_len g.good.nms g.good.few g.nmp g.few
  have big:2000<=sizeLine:=by decide
  refine ⟨rfl,_,rfl,x,ns,ps,rfl,hW,g,fun H1 s1=>?_⟩
  refine ⟨rfl,wtext ns ps,headT (srt ns)::ps.map rowT,rfl,rfl,text_lined ns ps,fun r hr c hc=>brk_free (rows_sign gS g.nmp r hr c hc),by simp,by omega,?_,fun l n1=>?_⟩
  ·have:=g.few
   simp only [List.length_cons,List.length_map]
   omega
  ·exact ⟨sm2,l,_,rfl,rfl,SqL.of upd_same,Nat.le_trans (wrow_sum g) (by decide),k _ (s1.trans (same_upd n1))⟩
def spRR (C:Addr):Sp:=fun vs H Q _=>∃ (ns:List Str) (ps:List (Str × Str)),vs=[.str (wrow ns ps)]/\GoodW ns ps/\∀ y H',WebObj C H' y (srt ns) ps->Same H H'->Q (.ref y) H'
abbrev nRR:List Str:=["text","web"]
theorem scRR:FnScope nRR ["text"] (defScope sRR):=⟨rfl,rfl,rfl,by decide +kernel,rfl,by decide +kernel,by decide +kernel⟩
theorem ok_rr {f:Addr} {fd:FuncData} (F:Fun K "read_row" "read_row" sRR f fd) (DR:Df K mg "read_web" sRead ["text"] fRW fdRW) (GR:FnOk P w K mg base CX0 7 fRW fdRW ["text"] (spRW C)) (DW:Df K mg "show_web" sSW ["web"] fSW fdSW) (GW:FnOk P w K mg base CX0 3 fSW fdSW ["web"] (spSW C)) (T:Glb mg):FnOk P w K mg base CX0 8 f fd ["text"] (spRR C):=by
 refine F.ok scRR (fun vs H Q E h=>?_) (fun cdv A outer s H vs Q E hr h=>?_)
 ·obtain ⟨ns,ps,rfl,_⟩:=h
  rfl
 ·obtain ⟨ns,ps,rfl,g,k⟩:=h
  have h3:=hr.mono (j:=3) (by decide)
  refine ⟨_,pss_cons (ps_if (pt_not (pt_val (pe_callB (call_isinst (T:="str")) (by rfl) T.isinst boot_isinstance (pa_cons (pv 0) (pa_cons (pe_bltn (v:=.ty "str") rfl T.str PyProof.Rows.boot_str rfl) pa_nil))) (fun _=>rfl))) (pss_one ps_never) pss_nil)
   (pss_cons (ps_set (i:=1) scRR.nd rfl (Or.inl rfl) (pe_call GR hr rfl DR.mgf DR.fn.kp DR.b .nil pass0 (pa_cons (pe_op op_add_str (pe_bm PySem.F.plainAttrs_str PySem.F.slot_str_join PySem.F.type_str_join mt_join pe_str (pa_cons (pe_bm PySem.F.plainAttrs_str PySem.F.slot_str_split PySem.F.type_str_split mt_split (pv 0) (pa_cons pe_str pa_nil)) pa_nil)) pe_str) pa_nil)))
   (pss_cons (ps_if (pt_cmpR op_ne (pe_call GW h3 rfl DW.mgf DW.fn.kp DW.b .nil pass0 (pa_cons (pv 1) pa_nil)) (pv 0) (nomark _)) (pss_one ps_never) pss_nil)
   (pss_one (ps_ret (pv 1))))),?_⟩
  have ws:=wrow_split g
  have wl:=wrow_len g
  have big:2000<=sizeLine:=by decide
  have gS:∀ z∈srt ns,nm z=true:=fun z hz=>g.good.nms z (srt_mem.mp hz)
  have rs:=rows_sum (ms:=srt ns) gS (by rw [srt_len];exact g.good.few) g.nmp g.few
  have gW:GoodW (srt ns) ps:=⟨⟨by rw [srt_len];exact g.good.one,by rw [srt_len];exact g.good.few,gS,srt_nd g.good.nd⟩,g.inS,g.few⟩
  have ss:srt (srt ns)=srt ns:=(srt_of (List.Perm.refl _) (srt_pw ns)).symm
  refine ⟨_,rfl,_,_,true,rfl,.str _,rfl,_,rfl,iteF ?_⟩
  refine ⟨rfl,_,rfl,rfl,wrow ns ps,sm2,rfl,rfl,rfl,by omega,?_,fun l1 n1=>?_⟩
  ·rw [ws,List.length_cons,List.length_map]
   have:=g.few
   omega
  rw [ws]
  refine ⟨nl1,l1,_,rfl,rfl,SqL.of upd_same,Nat.le_trans rs (by decide),_,_,rfl,rfl,?_,?_⟩
  ·have:=join_le nl1 (headT (srt ns)::ps.map rowT)
   rw [show (Str.ofString "\n").length=1 from by decide +kernel]
   omega
  refine ⟨ns,ps,rfl,g,fun y H2 W2 s2=>?_⟩
  refine ⟨_,rfl,y,srt ns,ps,rfl,W2,gW,fun H3 s3=>⟨_,rfl,rfl,_,rfl,?_⟩⟩
  rw [show wrow (srt ns) ps=wrow ns ps from by unfold wrow;rw [ss],decide_eq_true rfl]
  exact iteF ⟨_,rfl,k y H3 (W2.same s3) ((same_upd n1).trans (s2.trans s3))⟩
end
open PySem PySem.Spec PyProof.Rows L2 L8
abbrev sWrit:Stmt:=top 36 -- _law_written
abbrev sLNm:Stmt:=top 37 -- _law_is_name
abbrev sLRd:Stmt:=top 38 -- _law_read
abbrev gt1:Str:=">"
theorem str_of_cs {x y:Str} (h:cs x=cs y):x=y:=List.head_eq_of_cons_eq (cs_inj (l:=[x]) (m:=[y]) (by simp [h]))
theorem cs_tjoin (sep:Str) (l:List Str):cs (Txt.join sep l)=jn (cs sep) (l.map cs):=by rw [show Txt.join sep l=Str.join sep l from StrLaws.glued_eq_join _ _,cs_join]
theorem jn_snoc (sep:List Nat):∀ (l:List (List Nat)) (x:List Nat),l≠[]->jn sep (l++[x])=jn sep l++sep++x
 | [],_,h=>absurd rfl h
 | [a],x,_=>rfl
 | a::b::r,x,_=>by
  show a++sep++jn sep (b::r++[x])=a++sep++jn sep (b::r)++sep++x
  rw [jn_snoc sep (b::r) x (by simp)]
  simp only [List.append_assoc]
theorem wrow_nil (ns:List Str):wrow ns []=headT (srt ns):=str_of_cs (by unfold wrow;rw [cs_tjoin];rfl)
theorem wrow_snoc (ns:List Str) (ps:List (Str × Str)) (p:Str × Str):wrow ns (ps++[p])=wrow ns ps++sm2++p.1++gt3++p.2:=str_of_cs (by
 unfold wrow
 simp only [cs_app,cs_tjoin,List.map_append,List.map_cons,List.map_nil]
 rw [<- List.cons_append,jn_snoc _ _ _ (by simp)]
 unfold rowT
 simp only [cs_app,List.append_assoc])
theorem wrow_srt (ns:List Str) (ps:List (Str × Str)):wrow (srt ns) ps=wrow ns ps:=by unfold wrow;rw [srt_srt]
theorem rowT_join (p:Str × Str):rowT p=Txt.join bl1 [p.1,gt1,p.2]:=str_of_cs (by
 unfold rowT
 rw [cs_tjoin,cs_app,cs_app,cs_gt3]
 have e1:cs bl1=[32]:=by decide +kernel
 have e2:cs gt1=[62]:=by decide +kernel
 simp only [List.map_cons,List.map_nil,jn,e1,e2]
 simp)
theorem row_sp {p:Str × Str} (h1:nm p.1=true) (h2:nm p.2=true):Txt.split (rowT p) bl1=[p.1,gt1,p.2]:=by
 rw [rowT_join,bl_eq]
 refine split_join (by simp) fun x hx=>?_
 simp only [List.mem_cons,List.not_mem_nil,or_false] at hx
 rcases hx with rfl | rfl | rfl
 ·exact nm_free h1 (by decide)
 ·decide +kernel
 ·exact nm_free h2 (by decide)
theorem tjoin_split (x y:Str):Txt.join y (Txt.split x y)=x:=by rw [show Txt.join y (Txt.split x y)=Str.join y (Txt.split x y) from StrLaws.glued_eq_join _ _];exact StrLaws.join_split x y
theorem row_split {t:Str} {ns:List Str} {ps:List (Str × Str)} (g:GoodW ns ps) (e:t=wrow ns ps):Txt.split t sm2=headT (srt ns)::ps.map rowT/\Txt.split (headT (srt ns)) bl1=plc::srt ns :=
 ⟨by rw [e,wrow_split g],head_split g.srt.good.nms⟩
theorem row_made {t r0:Str} {mid ns:List Str} {ps:List (Str × Str)} (e:Txt.split t sm2=r0::mid) (h0:Txt.split r0 bl1=plc::ns) (hn:∀ z∈ns,nm z=true) (l1:1<=ns.length) (l2:ns.length<=12) (hs:srt (dist ns)=ns) (lm:ps.length<=30)
  (hm:mid=ps.map rowT) (hin:InP ns ps):GoodW ns ps/\srt ns=ns/\t=wrow ns ps:=by
 have ss:srt ns=ns:=by rw [<- hs,srt_srt]
 have nd:ns.Nodup:=by rw [<- hs];exact srt_nd (dist_nodup ns)
 refine ⟨⟨⟨l1,l2,hn,nd⟩,hin,lm⟩,ss,?_⟩
 rw [<- tjoin_split t sm2,e]
 unfold wrow
 rw [ss,hm]
 have:r0=headT ns:=by rw [<- tjoin_split r0 bl1,h0];rfl
 rw [this]
def NoR (t:Str):Prop:=∀ ns ps,GoodW ns ps->t≠wrow ns ps
section
variable {P:Program} {w:World} {K:PySem.W.Frag} {mg:Str->Option Value} {base:Heap}
def spWrit:Sp:=fun vs H Q _=>∃ (a b:Addr) (ns:List Str) (ps:List (Str × Str)) (ts:List Addr),vs=[.ref a,.ref b]/\Lists H a b ns ps ts/\∀ H',Same H H'->Q (.str (wrow ns ps)) H'
abbrev nWr:List Str:=["_law_names","_law_ties","_law_found","_law_one","_law_other"]
theorem scWr:FnScope nWr ["_law_names","_law_ties"] (defScope sWrit):=⟨rfl,rfl,rfl,by decide +kernel,rfl,by decide +kernel,by decide +kernel⟩
theorem ok_writ {f:Addr} {fd:FuncData} (F:Fun K "_law_written" "_law_written" sWrit f fd) (T:Glb mg):FnOk P w K mg base CX0 1 f fd ["_law_names","_law_ties"] spWrit:=by
 refine F.ok scWr (fun vs H Q E h=>?_) (fun cdv A outer s H vs Q E hr h=>?_)
 ·obtain ⟨a,b,ns,ps,ts,rfl,_⟩:=h
  rfl
 ·obtain ⟨a,b,ns,ps,ts,rfl,L,k⟩:=h
  have g:GoodW ns ps:=⟨L.good,L.ins,L.few⟩
  refine ⟨_,pss_cons (ps_set (i:=2) scWr.nd rfl (Or.inl rfl) (pe_bm PySem.F.plainAttrs_str PySem.F.slot_str_join PySem.F.type_str_join mt_join pe_str (pa_cons (pe_op op_cat (pe_lst (pa_cons pe_str pa_nil)) (pe_callB call_sorted_txt (by rfl) T.sorted boot_sorted (pa_cons (pv 0) pa_nil))) pa_nil)))
   (pss_cons (ps_for PassesOwn.never rfl (pi_list (pv 1)) (pg_tup rfl (pgs_cons (pg_name (i:=3) scWr.nd rfl (Or.inl rfl)) (pgs_cons (pg_name (i:=4) scWr.nd rfl (Or.inl rfl)) pgs_nil)))
    (pss_one (ps_set (i:=2) scWr.nd rfl (Or.inl rfl) (pe_op op_add_str (pe_op op_add_str (pe_op op_add_str (pe_op op_add_str (pv 2) pe_str) (pv 3)) pe_str) (pv 4)))))
   (pss_one (ps_ret (pv 2)))),?_⟩
  have fS:(srt ns).length<=12:=by rw [srt_len];exact g.good.few
  have gS:=g.srt.good.nms
  refine ⟨rfl,(by decide),fun l1 n1=>?_⟩
  have s1:=same_upd (o:=.lst [.str plc]) n1
  refine ⟨_,rfl,a,ns,rfl,SqL.of (s1 _ _ L.ha),by have:=g.good.few;omega,fun l2 n2=>?_⟩
  have s2:=same_upd (o:=.lst ((srt ns).map V.str)) n2
  refine ⟨l1,l2,_,_,rfl,rfl,s2 _ _ upd_same,upd_same,by rw [List.length_map];exact Nat.le_trans (show 1+(srt ns).length<=13 by omega) (by decide),fun l3 n3=>?_⟩
  have s3:=s1.trans (s2.trans (same_upd (o:=.lst ([.str plc]++(srt ns).map V.str)) n3))
  have h3:=upd_same (H:=upd (upd H l1 (.lst [.str plc])) l2 (.lst ((srt ns).map V.str))) (a:=l3) (o:=.lst ([.str plc]++(srt ns).map V.str))
  generalize upd (upd (upd H l1 (.lst [.str plc])) l2 (.lst ((srt ns).map V.str))) l3 (.lst ([.str plc]++(srt ns).map V.str))=H3 at s3 h3 ⊢
  have big:2000<=sizeLine:=by decide
  have e1:nl1.length=1:=by decide +kernel
  have e3:gt3.length=3:=by decide +kernel
  have hl:=head_len gS fS
  refine ⟨bl1,l3,plc::srt ns,rfl,rfl,SqL.of h3,Nat.le_trans (head_sum gS fS) (by decide),?_⟩
  have h0:wrow ns []=Txt.join bl1 (plc::srt ns):=wrow_nil ns
  have L3:=L.same s3
  refine ⟨_,rfl,b,rfl,⟨_,SqL.of L3.hb⟩,for_list (K:=K) (xs:=ts.map V.ref) (fun i σ H6=>∃ v4 v5,σ=[some (.ref a),some (.ref b),some (.str (wrow ns (ps.take i))),v4,v5]/\H6=H3) ⟨_,_,by rw [List.take_zero,h0];rfl,rfl⟩ ?_ ?_ ?_⟩
  ·rintro i σ H6 _ ⟨v4,v5,rfl,rfl⟩
   exact SqL.of L3.hb
  ·rintro i v σ H6 hv ⟨v4,v5,rfl,rfl⟩
   rw [List.getElem?_map] at hv
   obtain ⟨t,et,rfl⟩:=Option.map_eq_some_iff.mp hv
   obtain ⟨p,ep,ht⟩:=L3.hT.get et
   have hp:=List.mem_of_getElem? ep
   have l1:=nm_len (g.nmp p hp).1
   have l2:=nm_len (g.nmp p hp).2
   have gt:GoodW ns (ps.take i):=⟨g.good,fun q hq=>g.ins q (List.mem_of_mem_take hq),by rw [List.length_take];have:=g.few;omega⟩
   have tl:=wrow_len gt
   have en:wrow ns (ps.take (i+1))=wrow ns (ps.take i)++sm2++p.1++gt3++p.2:=by rw [List.take_add_one,ep];exact wrow_snoc ns _ p
   refine ⟨t,_,rfl,SqT.of ht,rfl,_,_,rfl,_,_,rfl,rfl,?_⟩
   refine ⟨_,rfl,_,_,rfl,rfl,by show _+sm2.length<=_;rw [len_sm2];omega,_,rfl,_,_,rfl,rfl,by rw [app_len];show _+sm2.length+_<=_;rw [len_sm2];omega,_,_,rfl,rfl,by rw [app_len,app_len];show _+sm2.length+_+gt3.length<=_;rw [len_sm2];omega,_,rfl,_,_,rfl,rfl,by rw [app_len,app_len,app_len];show _+sm2.length+_+gt3.length+_<=_;rw [len_sm2];omega,?_⟩
   exact ⟨_,_,by rw [en];rfl,rfl⟩
  rintro σ H6 ⟨v4,v5,rfl,rfl⟩
  rw [List.take_of_length_le (by rw [List.length_map,L.hT.len];exact Nat.le_refl _)]
  exact ⟨_,rfl,k _ s3⟩
def spLNm:Sp:=fun vs H Q _=>∃ z:Str,vs=[.str z]/\z.length<=20000/\∀ H',Same H H'->Q (.bl (nm z)) H'
theorem scLN':FnScope ["_law_word"] ["_law_word"] (defScope sLNm):=⟨rfl,rfl,rfl,by decide +kernel,rfl,by decide +kernel,by decide +kernel⟩
theorem ok_lnm {f:Addr} {fd:FuncData} (F:Fun K "_law_is_name" "_law_is_name" sLNm f fd) (T:Glb mg):FnOk P w K mg base CX0 1 f fd ["_law_word"] spLNm:=by
 refine F.ok scLN' (fun vs H Q E h=>?_) (fun cdv A outer s H vs Q E hr h=>?_)
 ·obtain ⟨z,rfl,_⟩:=h
  rfl
 ·obtain ⟨z,rfl,hz,k⟩:=h
  refine ⟨_,pss_one (ps_ret (pe_and (pe_cmpR op_le pe_int (pe_callB call_len_str (by rfl) T.len PySem.boot_len (pa_cons (pv 0) pa_nil)) (nomark _)) (pe_and (pe_cmpR op_le (pe_callB call_len_str (by rfl) T.len PySem.boot_len (pa_cons (pv 0) pa_nil)) pe_int (nomark _))
   (pe_one (pe_callB (call_all rfl) (by rfl) T.all boot_all (pa_cons (pe_lc ["_law_sign"] [] rfl (compSc (osc:=(defScope sLNm).names) (N:=["_law_word"]) rfl rfl (by decide +kernel)) (gk_name (by decide)) (pi_str (pv 0)) (fun _ _ _=>pg_name (i:=0) (show (["_law_sign"]:List Str).Nodup by decide +kernel) rfl (Or.inl rfl)) (fun _ _ _=>pifs_nil)
    (fun _ _ _=>pe_and (pe_cmpR op_le_str pe_str (pv 0) (nomark _)) (pe_one (pe_cmpR op_le_str (pv 0) pe_str (nomark _))))) pa_nil)))))),?_⟩
  have hzs:z.length<=sizeLine:=Nat.le_trans hz (by decide)
  refine ⟨_,rfl,z,rfl,hzs,_,_,rfl,rfl,_,rfl,?_⟩
  refine ite2 (fun h1=>?_) (fun h1=>?_)
  ·refine ⟨_,rfl,z,rfl,hzs,_,_,rfl,rfl,_,rfl,?_⟩
   refine ite2 (fun h2=>?_) (fun h2=>?_)
   ·have e:nm z=(z.cps.toList.map fun c=>lo c && hi c).all id:=by
     have a1:1<=z.length:=by simp at h1;omega
     have a2:z.length<=8:=by simp at h2;omega
     unfold nm
     rw [decide_eq_true a1,decide_eq_true a2];rfl
    refine ⟨_,rfl,z,rfl,signs_loop (K:=K) hzs (fun c=>lo c && hi c) (fun c H Q q=>?_) (fun D hD=>⟨D,_,rfl,SqL.of upd_same,?_⟩)⟩
    ·have q':Q (.bl (lo c && hi c)) H:=q
     refine ⟨_,rfl,_,_,rfl,rfl,_,rfl,?_⟩
     refine ite2 (fun h=>?_) (fun h=>?_)
     ·refine ⟨_,rfl,_,_,rfl,rfl,?_⟩
      have e1:lo c=true:=h
      rw [e1,Bool.true_and] at q'
      exact q'
     ·have e1:lo c=false:=by simpa using (show ¬ lo c=true from h)
      rw [e1,Bool.false_and] at q'
      exact q'
    ·exact e ▸ k _ fun c o q=>by rw [upd_ne (ne_of_none q hD)];exact q
   ·have e:nm z=false:=by
     have:¬ z.length<=8:=by simp at h2;omega
     simp [nm,this]
    have e2:decide ((z.length:Int)<=8)=false:=by simpa using h2
    have:=k H (Same.refl _)
    rw [e] at this
    exact this
  ·have e:nm z=false:=by
    have:¬ 1<=z.length:=by simp at h1;omega
    simp [nm,this]
   have e2:decide ((1:Int)<=(z.length:Int))=false:=by simpa using h1
   have:=k H (Same.refl _)
   rw [e] at this
   exact this
end
theorem row_facts {t r0 w0:Str} {rr ws ns:List Str} {ps:List (Str × Str)} (e1:Txt.split t sm2=r0::rr) (e2:Txt.split r0 bl1=w0::ws) (g:GoodW ns ps) (e:t=wrow ns ps) :
  rr=ps.map rowT/\w0=plc/\ws=srt ns:=by
 obtain ⟨a,b⟩:=row_split g e
 rw [e1,List.cons.injEq] at a
 obtain ⟨a1,a2⟩:=a
 rw [<- a1,e2,List.cons.injEq] at b
 exact ⟨a2,b.1,b.2⟩
theorem line_facts {ns ws:List Str} {ps:List (Str × Str)} {mid:List Str} {i:Nat} {r:Str} (g:GoodW ns ps) (e:ws=srt ns) (em':mid=ps.map rowT) (hi:mid[i]?=some r):∃ p:Str × Str,Txt.split r bl1=[p.1,gt1,p.2]/\p.1∈ws/\p.2∈ws:=by
 rw [em',List.getElem?_map] at hi
 obtain ⟨p,ep,rfl⟩:=Option.map_eq_some_iff.mp hi
 have hp:=List.mem_of_getElem? ep
 refine ⟨p,row_sp (g.nmp p hp).1 (g.nmp p hp).2,?_⟩
 rw [e]
 exact g.inS p hp
theorem dist_rise {l:List Str} (h:l.Nodup):srt (dist l)=srt l:=by
 have p:(dist l).Perm l:=(List.perm_ext_iff_of_nodup (dist_nodup l) h).mpr fun a=>mem_dist
 exact srt_of ((srt_perm _).trans p) (srt_pw _)
section
variable {P:Program} {w:World} {K:PySem.W.Frag} {mg:Str->Option Value} {base:Heap}
def spLRd:Sp:=fun vs H Q _=>∃ t:Str,vs=[.str t]/\t.length<=10000/\(NoR t->∀ H',Same H H'->Q .non H') /\
 ∀ ns ps,GoodW ns ps->srt ns=ns->t=wrow ns ps->∀ a l1 l2 us H',Same H H'->H' a=some (.tup [.ref l1,.ref l2])->Lists H' l1 l2 ns ps us->Q (.ref a) H'
abbrev nLR:List Str:=["_law_text","_law_parts","_law_words","_law_names","_law_ties","_law_part"]
theorem scLR:FnScope nLR ["_law_text"] (defScope sLRd):=⟨rfl,rfl,rfl,by decide +kernel,rfl,by decide +kernel,by decide +kernel⟩
theorem ok_lrd {f fN:Addr} {fd fdN:FuncData} (F:Fun K "_law_read" "_law_read" sLRd f fd) (DN:Df K mg "_law_is_name" sLNm ["_law_word"] fN fdN) (T:Glb mg):FnOk P w K mg base CX0 2 f fd ["_law_text"] spLRd:=by
 have GN:FnOk P w K mg base CX0 1 fN fdN ["_law_word"] spLNm:=ok_lnm DN.fn T
 refine F.ok scLR (fun vs H Q E h=>?_) (fun cdv A outer s H vs Q E hr h=>?_)
 ·obtain ⟨t,rfl,_⟩:=h
  rfl
 ·obtain ⟨t,rfl,lt,kN,kY⟩:=h
  refine ⟨_,pss_cons (ps_set (i:=1) scLR.nd rfl (Or.inl rfl) (pe_bm PySem.F.plainAttrs_str PySem.F.slot_str_split PySem.F.type_str_split mt_split (pv 0) (pa_cons pe_str pa_nil)))
   (pss_cons (ps_set (i:=2) scLR.nd rfl (Or.inl rfl) (pe_bm PySem.F.plainAttrs_str PySem.F.slot_str_split PySem.F.type_str_split mt_split (pe_ix ix_list (pv 1) pe_int (fun _ _=>rfl)) (pa_cons pe_str pa_nil)))
   (pss_cons (ps_if (PW.pt (pw_or (pt_cmpR op_ne (pe_ix ix_list (pv 2) pe_int (fun _ _=>rfl)) pe_str (nomark _))
     (pw_or (pt_cmpR op_lt (pe_callB call_len_seq (by rfl) T.len PySem.boot_len (pa_cons (pv 2) pa_nil)) pe_int (nomark _)) (pw_or (pt_cmpR op_gt (pe_callB call_len_seq (by rfl) T.len PySem.boot_len (pa_cons (pv 2) pa_nil)) pe_int (nomark _))
     (pw_or1 (pt_cmpR op_gt (pe_callB call_len_seq (by rfl) T.len PySem.boot_len (pa_cons (pv 1) pa_nil)) pe_int (nomark _))))))) (pss_one (ps_ret pe_non)) pss_nil)
   (pss_cons (ps_set (i:=3) scLR.nd rfl (Or.inl rfl) (pe_slice sl_list (pv 2) (po_some pe_int) po_none))
   (pss_cons (ps_if (PW.pt (pw_or (pt_not (pt_val (pe_callB (call_all rfl) (by rfl) T.all boot_all (pa_cons (pe_lc ["_law_name_here"] [] rfl (compSc (osc:=(defScope sLRd).names) (N:=nLR) rfl rfl (by decide +kernel)) (gk_name (by decide)) (pi_list (pv 3)) (fun _ _ _=>pg_name (i:=0) (show (["_law_name_here"]:List Str).Nodup by decide +kernel) rfl (Or.inl rfl)) (fun _ _ _=>pifs_nil)
      (fun _ _ _=>pe_call GN hr rfl DN.mgf DN.fn.kp DN.b .nil pass0 (pa_cons (pv 0) pa_nil))) pa_nil)) (fun _=>rfl)))
     (pw_or1 (pt_cmpR (op_ne_flat (low 0 hr)) (pe_callB (call_sortedP (P:=P) (w:=w) rfl) (by rfl) T.sorted boot_sorted (pa_cons (pe_callTy (call_setP (P:=P) (w:=w) (K:=K) rfl) (by rfl) T.set PyProof.Rows.boot_set (pa_cons (pv 3) pa_nil)) pa_nil)) (pv 3) (nomark _))))) (pss_one (ps_ret pe_non)) pss_nil)
   (pss_cons (ps_set (i:=4) scLR.nd rfl (Or.inl rfl) (pe_lst pa_nil))
   (pss_cons (ps_for PassesOwn.never rfl (pi_list (pe_slice sl_list (pv 1) (po_some pe_int) po_none)) (pg_name (i:=5) scLR.nd rfl (Or.inl rfl))
    (pss_cons (ps_set (i:=2) scLR.nd rfl (Or.inl rfl) (pe_bm PySem.F.plainAttrs_str PySem.F.slot_str_split PySem.F.type_str_split mt_split (pv 5) (pa_cons pe_str pa_nil)))
    (pss_cons (ps_if (PW.pt (pw_or (pt_cmpR op_ne (pe_callB call_len_seq (by rfl) T.len PySem.boot_len (pa_cons (pv 2) pa_nil)) pe_int (nomark _)) (pw_or (pt_cmpR op_ne (pe_ix ix_list (pv 2) pe_int (fun _ _=>rfl)) pe_str (nomark _))
      (pw_or (pt_cmpR (r:=rIn K true) op_notIn_seq (pe_ix ix_list (pv 2) pe_int (fun _ _=>rfl)) (pv 3) rfl) (pw_or1 (pt_cmpR (r:=rIn K true) op_notIn_seq (pe_ix ix_list (pv 2) pe_int (fun _ _=>rfl)) (pv 3) rfl)))))) (pss_one (ps_ret pe_non)) pss_nil)
    (pss_one (ps_expr (pe_bm PySem.F.plainAttrs_list PySem.F.slot_list_append PySem.F.type_list_append mt_append (pv 4) (pa_cons (pe_tup (pa_cons (pe_ix ix_list (pv 2) pe_int (fun _ _=>rfl)) (pa_cons (pe_ix ix_list (pv 2) pe_int (fun _ _=>rfl)) pa_nil))) pa_nil)))))))
   (pss_one (ps_ret (pe_tup (pa_cons (pv 3) (pa_cons (pv 4) pa_nil))))))))))),?_⟩
  have big:20002<=sizeLine:=by decide
  obtain ⟨bt,wt⟩:=split_bd (x:=t) (y:=sm2) (by decide +kernel) lt
  refine ⟨_,rfl,rfl,t,sm2,rfl,rfl,rfl,by omega,by omega,fun l1 n1=>?_⟩
  obtain ⟨r0,rr,er⟩:∃ r0 rr,Txt.split t sm2=r0::rr:=by
   cases e:Txt.split t sm2 with
   | nil=>exact absurd e (split_ne _ _)
   | cons a r=>exact ⟨a,r,rfl⟩
  rw [er] at bt wt ⊢
  have lr0:=wt r0 (by simp)
  obtain ⟨bw,ww⟩:=split_bd (x:=r0) (y:=bl1) (by decide +kernel) lr0
  obtain ⟨w0,ws,ew⟩:∃ w0 ws,Txt.split r0 bl1=w0::ws:=by
   cases e:Txt.split r0 bl1 with
   | nil=>exact absurd e (split_ne _ _)
   | cons a r=>exact ⟨a,r,rfl⟩
  have fc:∀ {ns ps},GoodW ns ps->t=wrow ns ps->rr=ps.map rowT/\w0=plc/\ws=srt ns:=fun g e=>row_facts er ew g e
  have s1:=same_upd (o:=.lst ((r0::rr).map V.str)) n1
  have h1:=upd_same (H:=H) (a:=l1) (o:=.lst ((r0::rr).map V.str))
  change tSeq _ _ _ _ (upd H l1 (.lst ((r0::rr).map V.str)))
  generalize upd H l1 (.lst ((r0::rr).map V.str))=H1 at s1 h1 ⊢
  have at0:atI ((r0::rr).map V.str) 0=some (V.str r0):=atI_nat (j:=0) (by simp)
  refine ⟨_,rfl,l1,_,0,.str r0,rfl,rfl,SqL.of h1,at0,rfl,r0,bl1,rfl,rfl,rfl,by omega,by omega,fun l2 n2=>?_⟩
  rw [ew] at bw ww ⊢
  have s2:=s1.trans (same_upd (o:=.lst ((w0::ws).map V.str)) n2)
  have h12:=same_upd (o:=.lst ((w0::ws).map V.str)) n2 _ _ h1
  have h2:=upd_same (H:=H1) (a:=l2) (o:=.lst ((w0::ws).map V.str))
  change tSeq _ _ _ _ (upd H1 l2 (.lst ((w0::ws).map V.str)))
  generalize upd H1 l2 (.lst ((w0::ws).map V.str))=H2 at s2 h2 h12 ⊢
  have at2:atI ((w0::ws).map V.str) 0=some (V.str w0):=atI_nat (j:=0) (by simp)
  refine ⟨_,rfl,l2,_,0,.str w0,rfl,rfl,SqL.of h2,at2,rfl,_,rfl,?_⟩
  by_cases tp:w0=plc
  case neg =>
   rw [show (decide (V.str w0=V.str (Str.ofString "places")))=false from decide_eq_false fun e=>tp (V.str.inj e)]
   exact iteT (iteT (kN (fun ns ps g e=>tp (fc g e).2.1) _ s2))
  rw [show (decide (V.str w0=V.str (Str.ofString "places")))=true from decide_eq_true (by rw [tp])]
  refine iteF ⟨_,rfl,l2,_,rfl,.inl (SqL.of h2),_,_,rfl,rfl,_,rfl,?_⟩
  rw [List.length_map,List.length_cons]
  by_cases c1:1<=ws.length
  case neg =>
   refine ite2 (fun _=>iteT (kN (fun ns ps g e=>c1 (by rw [(fc g e).2.2,srt_len];exact g.good.one)) _ s2)) (fun z=>absurd z (by simp;omega))
  refine ite2 (fun z=>absurd z (by simp;omega)) (fun _=>?_)
  refine ⟨_,rfl,l2,_,rfl,.inl (SqL.of h2),_,_,rfl,rfl,_,rfl,?_⟩
  rw [List.length_map,List.length_cons]
  by_cases c2:ws.length<=12
  case neg =>
   refine ite2 (fun _=>iteT (kN (fun ns ps g e=>c2 (by rw [(fc g e).2.2,srt_len];exact g.good.few)) _ s2)) (fun z=>absurd z (by simp;omega))
  refine ite2 (fun z=>absurd z (by simp;omega)) (fun _=>?_)
  refine ⟨_,rfl,l1,_,rfl,.inl (SqL.of h12),_,_,rfl,rfl,_,rfl,?_⟩
  rw [List.length_map,List.length_cons]
  by_cases c3:rr.length<=30
  case neg =>
   refine ite2 (fun _=>kN (fun ns ps g e=>c3 (by rw [(fc g e).1,List.length_map];exact g.few)) _ s2) (fun z=>absurd z (by simp;omega))
  refine ite2 (fun z=>absurd z (by simp;omega)) (fun _=>?_)
  refine ⟨_,rfl,1,rfl,l2,_,rfl,SqL.of h2,fun l3 n3=>?_⟩
  rw [List.map_cons,cut1]
  have s3:=s2.trans (same_upd (o:=.lst (ws.map V.str)) n3)
  have h13:=same_upd (o:=.lst (ws.map V.str)) n3 _ _ h12
  have h3:=upd_same (H:=H2) (a:=l3) (o:=.lst (ws.map V.str))
  change tSeq _ _ _ _ (upd H2 l3 (.lst (ws.map V.str)))
  generalize upd H2 l3 (.lst (ws.map V.str))=H3 at s3 h3 h13 ⊢
  refine ⟨_,rfl,l3,rfl,⟨_,SqL.of h3⟩,lc_list (K:=K) (xs:=ws.map V.str) (fun i ys H4=>Same H3 H4/\ys=((ws.take i).map nm).map V.bl) ⟨Same.refl _,rfl⟩ ?_ ?_ ?_ ?_⟩
  ·rintro i ys H4 hi ⟨_,rfl⟩
   rw [List.length_map,List.length_map,List.length_take]
   omega
  ·rintro i ys H4 _ ⟨s4,_⟩
   exact SqL.of (s4 _ _ h3)
  ·rintro i x ys H4 R hx ⟨s4,rfl⟩ kR
   rw [List.getElem?_map] at hx
   obtain ⟨u,eu,rfl⟩:=Option.map_eq_some_iff.mp hx
   have lu:=ww u (List.mem_cons_of_mem _ (List.mem_of_getElem? eu))
   simp only [tYes,gName,if_true]
   refine ⟨_,rfl,u,rfl,by omega,fun H5 s5=>kR _ _ ⟨s4.trans s5,?_⟩⟩
   rw [List.take_add_one,eu];simp
  rintro ys H4 ⟨s4,rfl⟩ D hD
  rw [List.length_map,List.take_length]
  have s5:=s4.trans (same_upd (o:=.lst ((ws.map nm).map V.bl)) hD)
  have hD5:=upd_same (H:=H4) (a:=D) (o:=.lst ((ws.map nm).map V.bl))
  generalize upd H4 D (.lst ((ws.map nm).map V.bl))=H5 at s5 hD5 ⊢
  refine ⟨D,_,rfl,SqL.of hD5,_,rfl,?_⟩
  have s05:=s3.trans s5
  by_cases c4:(ws.map nm).all id=true
  case neg =>
   rw [show (ws.map nm).all id=false from by simpa using c4]
   refine iteT (iteT (kN (fun ns ps g e=>c4 ?_) _ s05))
   rw [(fc g e).2.2,List.all_map,List.all_eq_true]
   exact fun x hx=>g.srt.good.nms x hx
  rw [c4]
  rw [List.all_map,List.all_eq_true] at c4
  have h35:=s5 _ _ h3
  have h15:=s5 _ _ h13
  refine iteF ⟨_,rfl,l3,ws,rfl,.inl (SqL.of h35),Nat.lt_of_le_of_lt (Nat.succ_le_succ c2) (by decide),fun l6 n6=>?_⟩
  have s6:=same_upd (o:=TxtO P w l6 ws) n6
  refine ⟨l6,ws,rfl,upd_same,by omega,fun l7 n7=>?_⟩
  have s7:=s6.trans (same_upd (o:=.lst ((srt (dist ws)).map V.str)) n7)
  have h7:=upd_same (H:=upd H5 l6 (TxtO P w l6 ws)) (a:=l7) (o:=.lst ((srt (dist ws)).map V.str))
  generalize upd (upd H5 l6 (TxtO P w l6 ws)) l7 (.lst ((srt (dist ws)).map V.str))=H7 at s7 h7 ⊢
  have h37:=s7 _ _ h35
  have h17:=s7 _ _ h15
  have s07:=s05.trans s7
  refine ⟨_,rfl,l7,l3,_,_,rfl,rfl,.inl ⟨SqL.of h7,SqL.of h37⟩,flat_strs _,flat_strs _,_,rfl,?_⟩
  simp only [if_true]
  rw [eqVs_str]
  by_cases c5:srt (dist ws)=ws
  case neg =>
   rw [decide_eq_false c5]
   refine iteT (kN (fun ns ps g e=>c5 ?_) _ s07)
   rw [(fc g e).2.2,dist_rise g.srt.good.nd,srt_srt]
  rw [decide_eq_true c5]
  refine iteF ⟨by show 0<=_;omega,fun l4 n4=>?_⟩
  have s8:=same_upd (o:=.lst []) n4
  have h48:=upd_same (H:=H7) (a:=l4) (o:=.lst [])
  have n4H:H l4=none:=s07.free n4
  have h38:=s8 _ _ h37
  have h18:=s8 _ _ h17
  have s08:=s07.trans s8
  have n43:l3≠l4:=ne_of_none h37 n4
  change tSeq _ _ _ _ (upd H7 l4 (.lst []))
  generalize upd H7 l4 (.lst [])=H8 at s8 s08 h48 h38 h18 ⊢
  refine ⟨_,rfl,1,rfl,l1,_,rfl,SqL.of h18,fun l5 n5=>?_⟩
  rw [List.map_cons,cut1]
  obtain ⟨mid,em⟩:∃ mid,rr=mid:=⟨rr,rfl⟩
  rw [em]
  have lm:mid.length<=30:=by rw [<- em];exact c3
  have s9:=same_upd (o:=.lst (mid.map V.str)) n5
  have h5:=upd_same (H:=H8) (a:=l5) (o:=.lst (mid.map V.str))
  have n54:l5≠l4:=Ne.symm (ne_of_none h48 n5)
  have h49:=s9 _ _ h48
  have h39:=s9 _ _ h38
  have s09:=s08.trans s9
  generalize upd H8 l5 (.lst (mid.map V.str))=H9 at s9 s09 h5 h49 h39 ⊢
  refine ⟨l5,rfl,⟨_,SqL.of h5⟩,for_list (K:=K) (xs:=mid.map V.str) (fun i σ H6=>∃ v2 v5 us ps,σ=[some (.str t),some (.ref l1),v2,some (.ref l3),some (.ref l4),v5]/\Same H H6/\H6 l5=some (.lst (mid.map V.str))/\H6 l3=some (.lst (ws.map V.str))/\H6 l4=some (.lst (us.map V.ref))/\TiesAt H6 us ps/\mid.take i=ps.map rowT/\InP ws ps) ⟨_,_,[],[],rfl,s09,h5,h39,h49,.nil,rfl,fun _ h=>nomatch h⟩ ?_ ?_ ?_⟩
  ·rintro i σ H6 _ ⟨v2,v5,us,ps,rfl,_,h,_⟩
   exact SqL.of h
  ·rintro i v σ H6 hv ⟨v2,v5,us,ps,rfl,s6,h56,h36,h46,hU,et,hin⟩
   rw [List.getElem?_map] at hv
   obtain ⟨r,er',rfl⟩:=Option.map_eq_some_iff.mp hv
   have hrm:r∈r0::rr:=List.mem_cons_of_mem _ (by rw [em];exact List.mem_of_getElem? er')
   have lr:=wt r hrm
   obtain ⟨br,_⟩:=split_bd (x:=r) (y:=bl1) (by decide +kernel) lr
   have lf:∀ {ns qs},GoodW ns qs->t=wrow ns qs->∃ p:Str × Str,Txt.split r bl1=[p.1,gt1,p.2]/\p.1∈ws/\p.2∈ws:=fun {ns qs} g e=>line_facts g (fc g e).2.2 (by rw [<- em];exact (fc g e).1) er'
   refine ⟨_,rfl,rfl,r,bl1,rfl,rfl,rfl,by omega,by omega,fun la na=>?_⟩
   have sa:=s6.trans (same_upd (o:=.lst ((Txt.split r bl1).map V.str)) na)
   have n1a:=same_upd (o:=.lst ((Txt.split r bl1).map V.str)) na
   have ha:=upd_same (H:=H6) (a:=la) (o:=.lst ((Txt.split r bl1).map V.str))
   have h3a:=n1a _ _ h36
   have h4a:=n1a _ _ h46
   have h5a:=n1a _ _ h56
   have hUa:=hU.same n1a
   change tSeq _ _ _ _ (upd H6 la (.lst ((Txt.split r bl1).map V.str)))
   generalize upd H6 la (.lst ((Txt.split r bl1).map V.str))=Ha at sa ha h3a h4a h5a hUa ⊢
   refine ⟨_,rfl,la,_,rfl,.inl (SqL.of ha),rfl,_,rfl,?_⟩
   rw [List.length_map]
   by_cases d1:(Txt.split r bl1).length=3
   case neg =>
    rw [show decide (V.int ((Txt.split r bl1).length:Int)=V.int 3)=false from decide_eq_false fun e=>d1 (by have:=V.int.inj e;omega)]
    refine iteT (iteT (kN (fun ns ps g e=>d1 ?_) _ sa))
    obtain ⟨p,ep,_⟩:=lf g e
    rw [ep];rfl
   rw [show decide (V.int ((Txt.split r bl1).length:Int)=V.int 3)=true from decide_eq_true (by rw [d1];rfl)]
   obtain ⟨wa,wg,wb,e3⟩:∃ wa wg wb,Txt.split r bl1=[wa,wg,wb]:=by
    match Txt.split r bl1,d1 with
    | [a,b,c],_=>exact ⟨a,b,c,rfl⟩
   rw [e3] at ha
   have a0:atI ([wa,wg,wb].map V.str) 0=some (V.str wa):=atI_nat (j:=0) rfl
   have a1:atI ([wa,wg,wb].map V.str) 1=some (V.str wg):=atI_nat (j:=1) rfl
   have a2:atI ([wa,wg,wb].map V.str) 2=some (V.str wb):=atI_nat (j:=2) rfl
   refine iteF ⟨_,rfl,la,_,1,.str wg,rfl,rfl,SqL.of ha,a1,rfl,_,rfl,?_⟩
   by_cases d2:wg=gt1
   case neg =>
    rw [show decide (V.str wg=V.str (Str.ofString ">"))=false from decide_eq_false fun e=>d2 (V.str.inj e)]
    refine iteT (iteT (kN (fun ns ps g e=>d2 ?_) _ sa))
    obtain ⟨p,ep,_⟩:=lf g e
    rw [e3] at ep
    simp at ep
    exact ep.2.1
   rw [show decide (V.str wg=V.str (Str.ofString ">"))=true from decide_eq_true (by rw [d2])]
   refine iteF ⟨_,rfl,la,_,0,.str wa,rfl,rfl,SqL.of ha,a0,_,rfl,l3,_,rfl,.inl (SqL.of h3a),rfl,flat_strs ws,_,rfl,?_⟩
   simp only [if_true]
   rw [inV_str]
   by_cases d3:wa∈ws
   case neg =>
    rw [decide_eq_false d3]
    refine iteT (kN (fun ns ps g e=>d3 ?_) _ sa)
    obtain ⟨p,ep,hp,_⟩:=lf g e
    rw [e3] at ep
    simp at ep
    rw [ep.1];exact hp
   rw [decide_eq_true d3]
   refine iteF ⟨_,rfl,la,_,2,.str wb,rfl,rfl,SqL.of ha,a2,_,rfl,l3,_,rfl,.inl (SqL.of h3a),rfl,flat_strs ws,_,rfl,?_⟩
   simp only [if_true]
   rw [inV_str]
   by_cases d4:wb∈ws
   case neg =>
    rw [decide_eq_false d4]
    refine iteT (kN (fun ns ps g e=>d4 ?_) _ sa)
    obtain ⟨p,ep,_,hp⟩:=lf g e
    rw [e3] at ep
    simp at ep
    rw [ep.2.2];exact hp
   rw [decide_eq_true d4]
   have hrow:r=rowT (wa,wb):=by rw [rowT_join,<- tjoin_split r bl1,e3,d2]
   have lu:us.length=ps.length:=hU.len
   have lp:ps.length<=30:=by
    have:=congrArg List.length et
    rw [List.length_take,List.length_map] at this
    omega
   refine iteF ⟨_,rfl,.inl ⟨rfl,_,SqL.of h4a⟩,_,rfl,la,_,0,_,rfl,rfl,SqL.of ha,a0,_,rfl,la,_,2,_,rfl,rfl,SqL.of ha,a2,by show 2<=_;omega,fun q nq=>?_⟩
   have nq4:l4≠q:=ne_of_none h4a nq
   have sq:=same_upd (o:=.tup [.str wa,.str wb]) nq
   have hq:=upd_same (H:=Ha) (a:=q) (o:=.tup [.str wa,.str wb])
   have s0q:=sa.trans sq
   have hUq:=hUa.same sq
   have h3q:=sq _ _ h3a
   have h4q:=sq _ _ h4a
   have h5q:=sq _ _ h5a
   generalize upd Ha q (.tup [.str wa,.str wb])=Hq at sq s0q hq hUq h3q h4q h5q ⊢
   refine ⟨l4,_,_,rfl,rfl,h4q,?_,?_⟩
   ·rw [List.length_map,lu]
    exact small1000 (by omega)
   have b6:=But.upd Hq l4 (.lst (us.map V.ref++[.ref q]))
   refine ⟨_,_,us++[q],ps++[(wa,wb)],rfl,Same.upd_new s0q n4H,b6 _ _ h5q n54,b6 _ _ h3q n43,by rw [upd_same];simp,TiesAt.snoc (hUq.but b6 (fun xs z=>by rw [h4q] at z;cases z)) (b6 _ _ hq (Ne.symm nq4)),?_,?_⟩
   ·rw [List.take_add_one,er',et,List.map_append]
    show _++[r]=_++[rowT (wa,wb)]
    rw [hrow]
   ·intro p hp
    rcases List.mem_append.mp hp with hp | hp
    ·exact hin p hp
    ·rw [List.mem_singleton.mp hp];exact ⟨d3,d4⟩
  rintro σ H6 ⟨v2,v5,us,ps,rfl,s6,h56,h36,h46,hU,et,hin⟩
  rw [List.length_map,List.take_length] at et
  have lp:ps.length<=30:=by
   have:=congrArg List.length et
   rw [List.length_map] at this
   omega
  obtain ⟨g,ss,e⟩:=row_made (t:=t) (mid:=mid) (ps:=ps) (by rw [er,em]) (by rw [ew,tp]) (fun z hz=>c4 z hz) c1 c2 c5 lp et hin
  refine ⟨_,rfl,_,rfl,by show 2<=_;omega,fun q nq=>?_⟩
  have sq:=same_upd (o:=.tup [.ref l3,.ref l4]) nq
  exact kY ws ps g ss e q l3 l4 us _ (s6.trans sq) upd_same ⟨sq _ _ h36,sq _ _ h46,hU.same sq,g.good,g.ins,g.few⟩
end
abbrev sSpo:Stmt:=top 39 -- _law_spoilt
theorem but_same {p:Addr} {H H1 H2:Hp} (b:But p H H1) (s:Same H1 H2):But p H H2:=fun c o e n=>s c o (b c o e n)
theorem row_same {p:Addr} {H1 H2:Hp} (r:Row H1 p) (s:Same H1 H2):Row H2 p:=let ⟨a,b,e⟩:=r;⟨a,b,s _ _ e⟩
def meas (l:List Str):Nat:=(l.map (·.length)).sum+l.length * 2
theorem meas_app (a b:List Str):meas (a++b)=meas a+meas b:=by
 unfold meas
 rw [List.map_append,List.sum_append,List.length_append]
 omega
theorem meas_td (n:Nat) (l:List Str):meas (l.take n)+meas (l.drop n)=meas l:=by rw [<- meas_app,List.take_append_drop]
theorem meas_split {t:Str}:meas (Txt.split t sm2)=t.length+2:=by
 have h:=split_sum t sm2
 rw [len_sm2] at h
 exact h.symm
theorem join_meas (l:List Str):(l.map (·.length)).sum+l.length * sm2.length=meas l:=by
 rw [len_sm2];rfl
theorem len_meas (l:List Str):l.length<=meas l:=by unfold meas;omega
theorem cutS_take (xs:List Str) (n:Nat):cutV (xs.map V.str) none (some (n:Int))=(xs.take n).map V.str:=by
 unfold cutV
 rw [HT.sIx_none,HT.sIx_nat,List.length_map,List.drop_zero,Nat.sub_zero,<- List.map_take]
 congr 1
 rw [List.take_eq_take_iff]
 omega
theorem cutS_drop (xs:List Str) (n:Nat):cutV (xs.map V.str) (some (n:Int)) none=(xs.drop n).map V.str:=by
 unfold cutV
 rw [HT.sIx_none,HT.sIx_nat,List.length_map,<- List.map_drop,<- List.map_take]
 congr 1
 rcases Nat.le_total n xs.length with h | h
 ·rw [Nat.min_eq_left h]
  exact List.take_of_length_le (by rw [List.length_drop];exact Nat.le_refl _)
 ·rw [Nat.min_eq_right h,List.drop_of_length_le (Nat.le_refl _),List.drop_of_length_le h]
  simp
theorem cutS_one (xs:List Str) (n:Nat):cutV (xs.map V.str) (some (n:Int)) (some ((n+1:Nat):Int))=((xs.drop n).take 1).map V.str:=by
 unfold cutV
 rw [HT.sIx_nat,HT.sIx_nat,List.length_map,<- List.map_drop,<- List.map_take]
 congr 1
 rcases Nat.lt_or_ge n xs.length with h | h
 ·rw [Nat.min_eq_left h,Nat.min_eq_left (Nat.le_of_lt h),show n+1 - n=1 from by omega]
 ·rw [Nat.min_eq_right h,Nat.min_eq_right (by omega),List.drop_of_length_le (Nat.le_refl _),List.drop_of_length_le h]
  simp
section
variable {P:Program} {w:World} {K:PySem.W.Frag} {mg:Str->Option Value} {base:Heap}
def spSpo:Sp:=fun vs H Q _=>∃ (p:Addr) (t:Str),vs=[.ref p,.str t]/\Row H p/\t.length<=5000/\∀ (z:Str) H',z.length<=2 * t.length+4->Row H' p->But p H H'->Q (.str z) H'
abbrev sg12:Str:="abcz >\n_A1-;"
theorem sg12_len:sg12.length=12:=by decide +kernel
abbrev nSo:List Str:=["_law_row","_law_text","_law_at","_law_signs","_law_sign","_law_sort_of","_law_parts"]
theorem scSo:FnScope nSo ["_law_row","_law_text"] (defScope sSpo):=⟨rfl,rfl,rfl,by decide +kernel,rfl,by decide +kernel,by decide +kernel⟩
theorem ok_spo {f fD:Addr} {fd fdD:FuncData} (F:Fun K "_law_spoilt" "_law_spoilt" sSpo f fd) (DD:Df K mg "_law_draw" sDraw ["_law_row","_law_many"] fD fdD) (T:Glb mg):FnOk P w K mg base CX0 2 f fd ["_law_row","_law_text"] spSpo:=by
 have GD:FnOk P w K mg base CX0 1 fD fdD ["_law_row","_law_many"] spDraw:=ok_draw DD.fn T
 refine F.ok scSo (fun vs H Q E h=>?_) (fun cdv A outer s H vs Q E hr h=>?_)
 ·obtain ⟨p,t,rfl,_⟩:=h
  rfl
 ·obtain ⟨p,t,rfl,row,lt,k⟩:=h
  refine ⟨_,pss_cons (ps_set (i:=2) scSo.nd rfl (Or.inl rfl) (pe_call GD hr rfl DD.mgf DD.fn.kp DD.b .nil pass0 (pa_cons (pv 0) (pa_cons (pe_op op_add (pe_callB call_len_str (by rfl) T.len PySem.boot_len (pa_cons (pv 1) pa_nil)) pe_int) pa_nil))))
   (pss_cons (ps_set (i:=3) scSo.nd rfl (Or.inl rfl) pe_str)
   (pss_cons (ps_set (i:=4) scSo.nd rfl (Or.inl rfl) (pe_ix ix_str (pv 3) (pe_call GD hr rfl DD.mgf DD.fn.kp DD.b .nil pass0 (pa_cons (pv 0) (pa_cons (pe_callB call_len_str (by rfl) T.len PySem.boot_len (pa_cons (pv 3) pa_nil)) pa_nil))) (fun _ _=>rfl)))
   (pss_cons (ps_set (i:=5) scSo.nd rfl (Or.inl rfl) (pe_call GD hr rfl DD.mgf DD.fn.kp DD.b .nil pass0 (pa_cons (pv 0) (pa_cons pe_int pa_nil))))
   (pss_cons (ps_if (pt_cmpR op_eq (pv 5) pe_int (nomark _)) (pss_one (ps_ret (pe_op op_add_str (pe_op op_add_str (pe_slice sl_str (pv 1) po_none (po_some (pv 2))) (pv 4)) (pe_slice sl_str (pv 1) (po_some (pv 2)) po_none)))) pss_nil)
   (pss_cons (ps_if (pt_cmpR op_eq (pv 5) pe_int (nomark _)) (pss_one (ps_ret (pe_op op_add_str (pe_op op_add_str (pe_slice sl_str (pv 1) po_none (po_some (pv 2))) (pv 4)) (pe_slice sl_str (pv 1) (po_some (pe_op op_add (pv 2) pe_int)) po_none)))) pss_nil)
   (pss_cons (ps_if (pt_cmpR op_eq (pv 5) pe_int (nomark _)) (pss_one (ps_ret (pe_op op_add_str (pe_slice sl_str (pv 1) po_none (po_some (pv 2))) (pe_slice sl_str (pv 1) (po_some (pe_op op_add (pv 2) pe_int)) po_none)))) pss_nil)
   (pss_cons (ps_set (i:=6) scSo.nd rfl (Or.inl rfl) (pe_bm PySem.F.plainAttrs_str PySem.F.slot_str_split PySem.F.type_str_split mt_split (pv 1) (pa_cons pe_str pa_nil)))
   (pss_cons (ps_set (i:=2) scSo.nd rfl (Or.inl rfl) (pe_call GD hr rfl DD.mgf DD.fn.kp DD.b .nil pass0 (pa_cons (pv 0) (pa_cons (pe_callB call_len_seq (by rfl) T.len PySem.boot_len (pa_cons (pv 6) pa_nil)) pa_nil))))
   (pss_cons (ps_if (pt_cmpR op_eq (pv 5) pe_int (nomark _)) (pss_one (ps_ret (pe_bm PySem.F.plainAttrs_str PySem.F.slot_str_join PySem.F.type_str_join mt_join pe_str (pa_cons (pe_op op_cat (pe_op op_cat (pe_slice sl_list (pv 6) po_none (po_some (pv 2))) (pe_slice sl_list (pv 6) (po_some (pv 2)) (po_some (pe_op op_add (pv 2) pe_int)))) (pe_slice sl_list (pv 6) (po_some (pv 2)) po_none)) pa_nil)))) pss_nil)
   (pss_one (ps_ret (pe_bm PySem.F.plainAttrs_str PySem.F.slot_str_join PySem.F.type_str_join mt_join pe_str (pa_cons (pe_op op_cat (pe_slice sl_list (pv 6) po_none (po_some (pv 2))) (pe_slice sl_list (pv 6) (po_some (pe_op op_add (pv 2) pe_int)) po_none)) pa_nil))))))))))))),?_⟩
  have big:40002<=sizeLine:=by decide
  refine ⟨_,rfl,_,rfl,t,rfl,by omega,_,_,rfl,rfl,p,_,rfl,row,by omega,by omega,fun d1 H1 _ _ row1 b1=>?_⟩
  refine ⟨_,rfl,_,rfl,_,rfl,sg12,rfl,by rw [sg12_len];omega,p,_,rfl,row1,by rw [sg12_len];decide,by rw [sg12_len];decide,fun d2 H2 q1 q2 row2 b2=>?_⟩
  obtain ⟨c,hc⟩:=lit_ix (z:=sg12) q1 q2
  refine ⟨sg12,_,c,rfl,rfl,by rw [sg12_len];omega,hc,?_⟩
  refine ⟨_,rfl,p,_,rfl,row2,by decide,by decide,fun d3 H3 _ _ row3 b3=>?_⟩
  have b03:=b1.trans (b2.trans b3)
  have l1:=Txt.slice_le t none (some d1)
  have l2:=Txt.slice_le t (some d1) none
  have l3:=Txt.slice_le t (some (d1+1)) none
  have lc:(⟨#[c]⟩:Str).length=1:=rfl
  refine ⟨_,rfl,rfl,_,rfl,?_⟩
  refine ite2 (fun _=>?_) (fun _=>?_)
  ·refine ⟨_,rfl,_,rfl,d1,rfl,t,rfl,by omega,_,rfl,_,_,rfl,rfl,by rw [lc];omega,_,rfl,_,rfl,d1,rfl,t,rfl,by omega,_,_,rfl,rfl,by rw [app_len,lc];omega,?_⟩
   exact k _ _ (by rw [app_len,app_len,lc];omega) row3 b03
  refine ⟨_,rfl,rfl,_,rfl,?_⟩
  refine ite2 (fun _=>?_) (fun _=>?_)
  ·refine ⟨_,rfl,_,rfl,d1,rfl,t,rfl,by omega,_,rfl,_,_,rfl,rfl,by rw [lc];omega,_,rfl,_,rfl,_,_,rfl,rfl,d1+1,rfl,t,rfl,by omega,_,_,rfl,rfl,by rw [app_len,lc];omega,?_⟩
   exact k _ _ (by rw [app_len,app_len,lc];omega) row3 b03
  refine ⟨_,rfl,rfl,_,rfl,?_⟩
  refine ite2 (fun _=>?_) (fun _=>?_)
  ·refine ⟨_,rfl,_,rfl,d1,rfl,t,rfl,by omega,_,rfl,_,rfl,_,_,rfl,rfl,d1+1,rfl,t,rfl,by omega,_,_,rfl,rfl,by omega,?_⟩
   exact k _ _ (by rw [app_len];omega) row3 b03
  obtain ⟨bt,wt⟩:=split_bd (x:=t) (y:=sm2) (by decide +kernel) lt
  have mt:meas (Txt.split t sm2)=t.length+2:=meas_split
  have ne:=split_ne t sm2
  refine ⟨_,rfl,rfl,t,sm2,rfl,rfl,rfl,by omega,by omega,fun l1 n1=>?_⟩
  generalize Txt.split t sm2=ls at bt wt mt ne ⊢
  have s4:=same_upd (o:=.lst (ls.map V.str)) n1
  have h4:=upd_same (H:=H3) (a:=l1) (o:=.lst (ls.map V.str))
  have b4:=but_same b03 s4
  have row4:=row_same row3 s4
  have nlp:l1≠p:=fun z=>by
   obtain ⟨a,b,e⟩:=row3
   rw [<- z,n1] at e
   cases e
  change tSeq _ _ _ _ (upd H3 l1 (.lst (ls.map V.str)))
  generalize upd H3 l1 (.lst (ls.map V.str))=H4 at s4 h4 b4 row4 ⊢
  have ll:1<=ls.length:=by
   cases ls with
   | nil=>exact absurd rfl ne
   | cons _ _=>simp
  refine ⟨_,rfl,_,rfl,l1,_,rfl,.inl (SqL.of h4),p,_,rfl,row4,by rw [List.length_map];omega,by rw [List.length_map];omega,fun d4 H5 q3 q4 row5 b5=>?_⟩
  obtain ⟨n,rfl⟩:=Int.eq_ofNat_of_zero_le q3
  have h5:=b5 _ _ h4 nlp
  have b05:=b4.trans b5
  have fin:∀ {z:Str} {H':Hp},z.length<=2 * t.length+4->Same H5 H'->Q (.str z) H':=fun {z H'} lz s'=>k z H' lz (row_same row5 s') (but_same b05 s')
  have mA:=meas_td n ls
  have mB:=meas_td 1 (ls.drop n)
  rw [List.drop_drop] at mB
  have jl:∀ l:List Str,(Txt.join sm2 l).length<=meas l:=fun l=>by rw [<- join_meas];exact join_le sm2 l
  refine ⟨_,rfl,rfl,_,rfl,?_⟩
  refine ite2 (fun _=>?_) (fun _=>?_)
  ·refine ⟨rfl,_,rfl,_,rfl,n,rfl,l1,_,rfl,SqL.of h5,fun a1 m1=>?_⟩
   rw [cutS_take]
   have t1:=same_upd (o:=.lst ((ls.take n).map V.str)) m1
   have e1:=upd_same (H:=H5) (a:=a1) (o:=.lst ((ls.take n).map V.str))
   generalize upd H5 a1 (.lst ((ls.take n).map V.str))=G1 at t1 e1 ⊢
   refine ⟨_,rfl,_,rfl,n,rfl,_,rfl,_,_,rfl,rfl,((n+1:Nat):Int),rfl,l1,_,rfl,SqL.of (t1 _ _ h5),fun a2 m2=>?_⟩
   rw [cutS_one]
   have t2:=same_upd (o:=.lst (((ls.drop n).take 1).map V.str)) m2
   have e2:=upd_same (H:=G1) (a:=a2) (o:=.lst (((ls.drop n).take 1).map V.str))
   generalize upd G1 a2 (.lst (((ls.drop n).take 1).map V.str))=G2 at t2 e2 ⊢
   refine ⟨a1,a2,_,_,rfl,rfl,t2 _ _ e1,e2,?_,fun a3 m3=>?_⟩
   ·rw [List.length_map,List.length_map]
    have:=len_meas (ls.take n)
    have:=len_meas ((ls.drop n).take 1)
    omega
   rw [<- List.map_append]
   have t3:=same_upd (o:=.lst ((ls.take n++(ls.drop n).take 1).map V.str)) m3
   have e3:=upd_same (H:=G2) (a:=a3) (o:=.lst ((ls.take n++(ls.drop n).take 1).map V.str))
   generalize upd G2 a3 (.lst ((ls.take n++(ls.drop n).take 1).map V.str))=G3 at t3 e3 ⊢
   refine ⟨_,rfl,_,rfl,n,rfl,l1,_,rfl,SqL.of (t3 _ _ (t2 _ _ (t1 _ _ h5))),fun a4 m4=>?_⟩
   rw [cutS_drop]
   have t4:=same_upd (o:=.lst ((ls.drop n).map V.str)) m4
   have e4:=upd_same (H:=G3) (a:=a4) (o:=.lst ((ls.drop n).map V.str))
   generalize upd G3 a4 (.lst ((ls.drop n).map V.str))=G4 at t4 e4 ⊢
   have mm:meas (ls.take n++(ls.drop n).take 1++ls.drop n)<=2 * t.length+4:=by rw [meas_app,meas_app];omega
   have ml:=len_meas (ls.take n++(ls.drop n).take 1++ls.drop n)
   refine ⟨a3,a4,_,_,rfl,rfl,t4 _ _ e3,e4,?_,fun a5 m5=>?_⟩
   ·rw [<- List.length_append,<- List.map_append,List.length_map]
    omega
   rw [<- List.map_append]
   have t5:=same_upd (o:=.lst ((ls.take n++(ls.drop n).take 1++ls.drop n).map V.str)) m5
   refine ⟨sm2,a5,_,rfl,rfl,SqL.of upd_same,by rw [join_meas];omega,fin (Nat.le_trans (jl _) mm) (t1.trans (t2.trans (t3.trans (t4.trans t5))))⟩
  ·refine ⟨rfl,_,rfl,_,rfl,n,rfl,l1,_,rfl,SqL.of h5,fun a1 m1=>?_⟩
   rw [cutS_take]
   have t1:=same_upd (o:=.lst ((ls.take n).map V.str)) m1
   have e1:=upd_same (H:=H5) (a:=a1) (o:=.lst ((ls.take n).map V.str))
   generalize upd H5 a1 (.lst ((ls.take n).map V.str))=G1 at t1 e1 ⊢
   refine ⟨_,rfl,_,rfl,_,_,rfl,rfl,((n+1:Nat):Int),rfl,l1,_,rfl,SqL.of (t1 _ _ h5),fun a2 m2=>?_⟩
   rw [cutS_drop]
   have t2:=same_upd (o:=.lst ((ls.drop (n+1)).map V.str)) m2
   have e2:=upd_same (H:=G1) (a:=a2) (o:=.lst ((ls.drop (n+1)).map V.str))
   generalize upd G1 a2 (.lst ((ls.drop (n+1)).map V.str))=G2 at t2 e2 ⊢
   have mm:meas (ls.take n++ls.drop (n+1))<=2 * t.length+4:=by rw [meas_app];omega
   have ml:=len_meas (ls.take n++ls.drop (n+1))
   refine ⟨a1,a2,_,_,rfl,rfl,t2 _ _ e1,e2,?_,fun a5 m5=>?_⟩
   ·rw [<- List.length_append,<- List.map_append,List.length_map]
    omega
   rw [<- List.map_append]
   have t5:=same_upd (o:=.lst ((ls.take n++ls.drop (n+1)).map V.str)) m5
   refine ⟨sm2,a5,_,rfl,rfl,SqL.of upd_same,by rw [join_meas];omega,fin (Nat.le_trans (jl _) mm) (t1.trans (t2.trans t5))⟩
end
abbrev sWhy:Stmt:=top 40 -- _law_refused
abbrev sLRR:Stmt:=top 41 -- _law_read_right
theorem exm_mk {K:PySem.W.Frag} {t c:Value} (h1:PySem.W.subIn K c (.type "BaseException")=some true) (h2:PySem.W.kitOne K t c=some true) (h3:(t == c)=false):PySem.W.exmOne K t c=some true:=by
 unfold PySem.W.exmOne
 unfold PySem.W.kitOne at h2
 rw [h3,if_neg Bool.false_ne_true] at h2
 rw [if_pos (by rw [h1];rfl),h2]
theorem boot_VE:bootBuiltins "ValueError" = some (.type "ValueError"):=by rfl
structure Errs (K:PySem.W.Frag) (mg:Str->Option Value) (E0 E1 E2 E3 E6:Addr):Prop where
 b0:mg "WebError" = some (.ref E0)
 x6:Ex K mg "NoText" E6
 x3:Ex K mg "NoWeb" E3
 b1:mg "NoName" = some (.ref E1)
 b2:mg "NoRow" = some (.ref E2)
 ve:mg "ValueError" = none
 ex:PySem.W.exmOne K (.ref E6) (.ref E0)=some true
 e3:PySem.W.exmOne K (.ref E3) (.ref E3)=some true
 k1:PySem.W.kitOne K (.ref E6) (.ref E6)=some true
 k2:PySem.W.kitOne K (.ref E6) (.type "ValueError")=some true
 k3:PySem.W.kitAny K (.ref E6) [.ref E1,.ref E2,.ref E3]=some false
 xc:ExcCl K E6
def rIsT (K:PySem.W.Frag):List V->Hp->VK->Prop:=fun xs H Q=>∃ (a C tp:Addr) (cs:List V) (cvs:List Value) (b:Bool),xs=[.ref a,.ref tp]/\H tp=some (.tup cs)/\(∀ us,Vals cs us->us=cvs)/\H a=some (excO a (.ref C))/\ExcCl K C/\PySem.W.kitAny K (.ref C) cvs=some b/\Q (.bl b) H
def rIsE (K:PySem.W.Frag):List V->Hp->VK->Prop:=fun xs H Q=>∃ (a C:Addr) (c:V) (cv:Value) (b:Bool),xs=[.ref a,c]/\(∀ u,RelV c u->u=cv)/\H a=some (excO a (.ref C))/\ExcCl K C/\PySem.W.kitOne K (.ref C) cv=some b/\Q (.bl b) H
theorem vals3 {a b c:V} {us:List Value} (r:Vals [a,b,c] us):∃ u v x,us=[u,v,x]/\RelV a u/\RelV b v/\RelV c x:=by
 cases r with
 | cons h r=>cases r with
  | cons h2 r=>cases r with
   | cons h3 r=>cases r with
    | nil=>exact ⟨_,_,_,rfl,h,h2,h3⟩
theorem al_strs {K:PySem.W.Frag} {H:Hp} {p q:Addr} {zs:List Str} {n:Nat} (hp:SqL K H p (zs.map V.str)) (hq:SqL K H q (zs.map V.str)):AlS K H n (.ref p) (.ref q) :=
 ⟨p,q,_,_,rfl,rfl,.inl ⟨hp,hq⟩,rfl,fun i a b ea eb=>by
  rw [ea] at eb
  cases eb
  obtain ⟨z,_,rfl⟩:=List.mem_map.mp (List.mem_of_getElem? ea)
  exact Al.txt⟩
theorem al_pair {K:PySem.W.Frag} {H:Hp} {p q:Addr} {x y:Str} {n:Nat} (hp:H p=some (.tup [.str x,.str y])) (hq:H q=some (.tup [.str x,.str y])):AlS K H n (.ref p) (.ref q) :=
 ⟨p,q,_,_,rfl,rfl,.inr ⟨SqT.of hp,SqT.of hq⟩,rfl,fun i a b ea eb=>by
  rw [ea] at eb
  cases eb
  have m:=List.mem_of_getElem? ea
  simp only [List.mem_cons,List.not_mem_nil,or_false] at m
  rcases m with rfl | rfl<;>exact Al.txt⟩
theorem al_ties {K:PySem.W.Frag} {H:Hp} {p q:Addr} {ts us:List Addr} {ps:List (Str × Str)} {n:Nat} (hp:SqL K H p (ts.map V.ref)) (hq:SqL K H q (us.map V.ref)) (h1:TiesAt H ts ps) (h2:TiesAt H us ps):AlS K H (n+1) (.ref p) (.ref q) :=
 ⟨p,q,_,_,rfl,rfl,.inl ⟨hp,hq⟩,by rw [List.length_map,List.length_map,h1.len,h2.len],fun i a b ea eb=>by
  rw [List.getElem?_map] at ea eb
  obtain ⟨t,et,rfl⟩:=Option.map_eq_some_iff.mp ea
  obtain ⟨u,eu,rfl⟩:=Option.map_eq_some_iff.mp eb
  obtain ⟨p1,e1,ht⟩:=h1.get et
  obtain ⟨p2,e2,hu⟩:=h2.get eu
  rw [e1] at e2
  cases e2
  exact (al_pair ht hu).al⟩
section
variable {P:Program} {w:World} {K:PySem.W.Frag} {mg:Str->Option Value} {base:Heap}
variable {C E0 E1 E2 E3 E6 fRd fP fS fWT fWy:Addr} {fdRd fdP fdS fdWT fdWy:FuncData}
def BadR (K:PySem.W.Frag) (H:Hp) (x:V):Prop:=(∃ t:Str,x=.str t/\t.length<=9000/\NoR t)\/Not K H "str" x
def spRRX (K:PySem.W.Frag) (E6:Addr):Sp:=fun vs H Q R=>∃ x,vs=[x]/\BadR K H x/\∀ H',Same H H'->R (.ref E6) none H'
theorem ok_rrX {f:Addr} {fd:FuncData} (F:Fun K "read_row" "read_row" sRR f fd) (DR:Df K mg "read_web" sRead ["text"] fRd fdRd) (G0:FnOk P w K mg base CX0 7 fRd fdRd ["text"] (spRW C)) (GX:FnOk P w K mg base (CXO P w) 7 fRd fdRd ["text"] (spRWX K E6)) (DW:Df K mg "show_web" sSW ["web"] fWT fdWT) (GW:FnOk P w K mg base CX0 3 fWT fdWT ["web"] (spSW C)) (X6:Ex K mg "NoText" E6) (T:Glb mg):FnOk P w K mg base (CXO P w) 8 f fd ["text"] (spRRX K E6):=by
 have GR:FnOk P w K mg base (CXO P w) 7 fRd fdRd ["text"] (fun vs H Q E=>spRW C vs H Q E\/spRWX K E6 vs H Q E):=or2 (up0 G0) GX
 refine F.okO scRR (fun vs H Q E h=>?_) (fun cdv A outer s H vs Q E hr h=>?_)
 ·obtain ⟨x,rfl,_⟩:=h
  rfl
 ·obtain ⟨x,rfl,hx,k⟩:=h
  obtain ⟨Bn,newId,initId,bm,q,FB⟩:=X6.bm
  have h3:=hr.mono (j:=3) (by decide)
  refine ⟨_,pss_cons (ps_if (pt_not (pt_val (pe_callB (call_isinst (T:="str")) (by rfl) T.isinst boot_isinstance (pa_cons (pv 0) (pa_cons (pe_bltn (v:=.ty "str") rfl T.str PyProof.Rows.boot_str rfl) pa_nil))) (fun _=>rfl))) (pss_one (ps_raise rfl X6.b q FB (pa_cons pe_str pa_nil))) pss_nil)
   (pss_cons (ps_set (i:=1) scRR.nd rfl (Or.inl rfl) (pe_call GR hr rfl DR.mgf DR.fn.kp DR.b .nil passO (pa_cons (pe_op op_add_str (pe_bm PySem.F.plainAttrs_str PySem.F.slot_str_join PySem.F.type_str_join mt_join pe_str (pa_cons (pe_bm PySem.F.plainAttrs_str PySem.F.slot_str_split PySem.F.type_str_split mt_split (pv 0) (pa_cons pe_str pa_nil)) pa_nil)) pe_str) pa_nil)))
   (pss_cons (ps_if (pt_cmpR op_ne (pe_call GW h3 rfl DW.mgf DW.fn.kp DW.b .nil pass0 (pa_cons (pv 1) pa_nil)) (pv 0) (nomark _)) (pss_one (ps_raise rfl X6.b q FB (pa_cons pe_str pa_nil))) pss_nil)
   (pss_one (ps_ret (pv 1))))),?_⟩
  rcases hx with ⟨t,rfl,lt,no⟩ | ⟨t,ty,e⟩
  ·have big:20002<=sizeLine:=by decide
   obtain ⟨bt,wt⟩:=split_bd (x:=t) (y:=sm2) (by decide +kernel) lt
   have sm:=split_sum t sm2
   rw [len_sm2] at sm
   have e1:nl1.length=1:=by decide +kernel
   have jl:=join_le nl1 (Txt.split t sm2)
   rw [e1,Nat.mul_one] at jl
   refine ⟨_,rfl,_,_,true,rfl,.str _,rfl,_,rfl,iteF ?_⟩
   refine ⟨rfl,_,rfl,rfl,t,sm2,rfl,rfl,rfl,by omega,by omega,fun l1 n1=>?_⟩
   have s1:=same_upd (o:=.lst ((Txt.split t sm2).map V.str)) n1
   refine ⟨nl1,l1,_,rfl,rfl,SqL.of upd_same,by rw [e1];omega,_,_,rfl,rfl,by show _+nl1.length<=_;rw [e1];omega,?_⟩
   have lu:(Txt.join nl1 (Txt.split t sm2)++nl1).length<=10000:=by rw [app_len,e1];omega
   rcases web_or (Txt.join nl1 (Txt.split t sm2)++nl1) with ⟨ns,ps,g,ss,e⟩ | nw
   ·refine .inl ⟨ns,ps,by rw [<- e];rfl,g,fun y H2 W2 s2=>?_⟩
    refine ⟨_,rfl,y,srt ns,ps,rfl,W2,g.srt,fun H3 s3=>⟨_,rfl,rfl,_,rfl,?_⟩⟩
    rw [show (decide (V.str (wrow (srt ns) ps)=V.str t))=false from decide_eq_false fun e=>no _ _ g.srt (V.str.inj e).symm]
    exact iteT ⟨by show 1<=_;decide,k _ (s1.trans (s2.trans s3))⟩
   ·exact .inr ⟨_,rfl,.inl ⟨_,rfl,lu,nw⟩,fun H' s'=>k _ (s1.trans s')⟩
  ·refine ⟨_,rfl,_,_,false,rfl,ty,e,_,rfl,iteT ?_⟩
   exact ⟨by show 1<=_;decide,k _ (Same.refl _)⟩
def spWhy (K:PySem.W.Frag):Sp:=fun vs H Q _=>∃ x,vs=[x]/\BadR K H x/\∀ H',Same H H'->Q (.bl true) H'
abbrev nWy:List Str:=["_law_text","_law_good","e"]
theorem scWy:FnScope nWy ["_law_text"] (defScope sWhy):=⟨rfl,rfl,rfl,by decide +kernel,rfl,by decide +kernel,by decide +kernel⟩
theorem ok_why {f:Addr} {fd:FuncData} (F:Fun K "_law_refused" "_law_refused" sWhy f fd) (DR:Df K mg "read_row" sRR ["text"] fRd fdRd) (GR:FnOk P w K mg base (CXO P w) 8 fRd fdRd ["text"] (spRRX K E6)) (X:Errs K mg E0 E1 E2 E3 E6) (T:Glb mg) :
  FnOk P w K mg base CX0 9 f fd ["_law_text"] (spWhy K):=by
 refine F.ok scWy (fun vs H Q E h=>?_) (fun cdv A outer s H vs Q E hr h=>?_)
 ·obtain ⟨x,rfl,_⟩:=h
  rfl
 ·obtain ⟨x,rfl,hx,k⟩:=h
  refine ⟨_,pss_cons (ps_set (i:=1) scWy.nd rfl (Or.inl rfl) pe_bl)
   (pss_cons (ps_try rfl rfl (pex_call GR hr rfl DR.mgf DR.fn.kp DR.b .nil (fun _=>pa_cons (pv 0) pa_nil)) rfl X.b0 scWy.nd (i:=2) rfl rfl (fun _=>pss_one (ps_set (i:=1) scWy.nd rfl (Or.inl rfl)
    (pe_and (pe_callB (r:=rIsE K) call_isinstE (by rfl) T.isinst boot_isinstance (pa_cons (pv 2) (pa_cons (pe_glob (v:=.ref E6) rfl X.x6.b rfl) pa_nil)))
     (pe_and (pe_callB (r:=rIsE K) call_isinstE (by rfl) T.isinst boot_isinstance (pa_cons (pv 2) (pa_cons (pe_bltn (v:=.ty "ValueError") rfl X.ve boot_VE rfl) pa_nil)))
     (pe_one (pe_not (pe_callB (r:=rIsT K) call_isinstT (by rfl) T.isinst boot_isinstance (pa_cons (pv 2) (pa_cons (pe_tup (pa_cons (pe_glob (v:=.ref E1) rfl X.b1 rfl) (pa_cons (pe_glob (v:=.ref E2) rfl X.b2 rfl) (pa_cons (pe_glob (v:=.ref E3) rfl X.x3.b rfl) pa_nil)))) pa_nil))))))))))
   (pss_one (ps_ret (pv 1)))),?_⟩
  refine ⟨_,rfl,x,rfl,hx,fun H1 s1=>⟨X.ex,fun a ha=>?_⟩⟩
  have ha':=upd_same (H:=H1) (a:=a) (o:=excO a (.ref E6))
  refine ⟨_,rfl,a,E6,_,.ref E6,true,rfl,(fun u r=>r),ha',X.xc,X.k1,_,rfl,?_⟩
  refine iteT ⟨_,rfl,a,E6,_,.type "ValueError",true,rfl,(fun u r=>r),ha',X.xc,X.k2,_,rfl,?_⟩
  refine iteT ⟨_,rfl,(by show 3<=sizeLine;decide),fun tp htp=>?_⟩
  refine ⟨a,E6,tp,_,[.ref E1,.ref E2,.ref E3],false,rfl,upd_same,?_,?_,X.xc,X.k3,_,rfl,_,rfl,?_⟩
  ·intro us r
   obtain ⟨u,v,x,rfl,ru,rv,rx⟩:=vals3 r
   cases ru
   cases rv
   cases rx
   rfl
  ·rw [upd_ne (ne_of_none ha' htp)];exact ha'
  ·exact k _ (s1.trans ((same_upd ha).trans (same_upd htp)))
def spLRR (K:PySem.W.Frag):Sp:=fun vs H Q _=>∃ x due,vs=[x,due]/\((due=.non/\BadR K H x)\/∃ ns ps a l1 l2 us,x=.str (wrow ns ps)/\due=.ref a/\H a=some (.tup [.ref l1,.ref l2])/\Lists H l1 l2 (srt ns) ps us/\GoodW ns ps)/\∀ H',Same H H'->Q (.bl true) H'
abbrev nLRR:List Str:=["_law_text","_law_due","_law_web_here"]
theorem scLRR:FnScope nLRR ["_law_text","_law_due"] (defScope sLRR):=⟨rfl,rfl,rfl,by decide +kernel,rfl,by decide +kernel,by decide +kernel⟩
theorem ok_lrr {f:Addr} {fd:FuncData} (F:Fun K "_law_read_right" "_law_read_right" sLRR f fd) (DR:Df K mg "read_row" sRR ["text"] fRd fdRd) (G0:FnOk P w K mg base CX0 8 fRd fdRd ["text"] (spRR C)) (DY:Df K mg "_law_refused" sWhy ["_law_text"] fWy fdWy) (GY:FnOk P w K mg base CX0 9 fWy fdWy ["_law_text"] (spWhy K))
  (DT:Df K mg "show_web" sSW ["web"] fWT fdWT) (GT:FnOk P w K mg base CX0 3 fWT fdWT ["web"] (spSW C)) (M:Mt K mg C fP fS fdP fdS) (T:Glb mg):FnOk P w K mg base CX0 10 f fd ["_law_text","_law_due"] (spLRR K):=by
 have GP:FnOk P w K mg base CX0 1 fP fdP ["self"] (spPl C):=ok_places M.pF M.wc T
 have GS:FnOk P w K mg base CX0 1 fS fdS ["self"] (spTs C):=ok_ties M.sF M.wc T
 refine F.ok scLRR (fun vs H Q E h=>?_) (fun cdv A outer s H vs Q E hr h=>?_)
 ·obtain ⟨x,due,rfl,_⟩:=h
  rfl
 ·obtain ⟨x,due,rfl,h,k⟩:=h
  have hr1:=hr.mono (j:=1) (by decide)
  have hr2:=hr.mono (j:=3) (by decide)
  have hr7:=hr.mono (j:=8) (by decide)
  refine ⟨_,pss_cons (ps_if (pt_cmpR op_isN (pv 1) pe_non (nomark _)) (pss_one (ps_ret (pe_call GY hr rfl DY.mgf DY.fn.kp DY.b .nil pass0 (pa_cons (pv 0) pa_nil)))) pss_nil)
   (pss_cons (ps_set (i:=2) scLRR.nd rfl (Or.inl rfl) (pe_call G0 hr7 rfl DR.mgf DR.fn.kp DR.b .nil pass0 (pa_cons (pv 0) pa_nil)))
   (pss_one (ps_ret (pe_and (pe_cmpR (op_eq_al 0 (low 0 hr)) (pe_meth0 (pv 2) M.wc.cl M.pM GP hr1 M.pB .nil pass0) (pe_ix ix_tup (pv 1) pe_int (fun _ _=>rfl)) (nomark _))
    (pe_and (pe_cmpR (op_eq_al 1 (low 1 hr)) (pe_meth0 (pv 2) M.wc.cl M.sM GS hr1 M.sB .nil pass0) (pe_ix ix_tup (pv 1) pe_int (fun _ _=>rfl)) (nomark _))
    (pe_one (pe_cmpR op_eq (pe_call GT hr2 rfl DT.mgf DT.fn.kp DT.b .nil pass0 (pa_cons (pv 2) pa_nil)) (pv 0) (nomark _)))))))),?_⟩
  rcases h with ⟨rfl,hb⟩ | ⟨ns,ps,a,l1,l2,us,rfl,rfl,ha,L,g⟩
  ·exact ⟨_,rfl,rfl,_,rfl,iteT ⟨_,rfl,x,rfl,hb,k⟩⟩
  ·refine ⟨_,rfl,rfl,_,rfl,iteF ?_⟩
   refine ⟨_,rfl,ns,ps,rfl,g,fun y H1 W1 s1=>?_⟩
   obtain ⟨d1,f1,q1,r1⟩:=W1.meth "places"
   refine ⟨_,rfl,y,d1,f1,rfl,q1,r1,y,srt ns,ps,rfl,W1,fun l3 n3=>?_⟩
   rw [srt_srt]
   have s2:=same_upd (o:=.lst ((srt ns).map V.str)) n3
   have h3:=upd_same (H:=H1) (a:=l3) (o:=.lst ((srt ns).map V.str))
   generalize upd H1 l3 (.lst ((srt ns).map V.str))=H2 at s2 h3 ⊢
   have s02:=s1.trans s2
   have L2:=L.same s02
   have a2:=s02 _ _ ha
   refine ⟨_,rfl,a,_,0,.ref l1,rfl,rfl,SqT.of a2,atI_nat (j:=0) rfl,al_strs (SqL.of h3) (SqL.of L2.ha),_,rfl,iteT ?_⟩
   have W2:=W1.same s2
   obtain ⟨d1,f1,q1,r1⟩:=W2.meth "ties"
   refine ⟨_,rfl,y,d1,f1,rfl,q1,r1,y,srt ns,ps,rfl,W2,fun l4 vs n4 hV=>?_⟩
   have s3:=same_upd (o:=.lst (vs.map V.ref)) n4
   have h4:=upd_same (H:=H2) (a:=l4) (o:=.lst (vs.map V.ref))
   have hV3:=hV.same s3
   generalize upd H2 l4 (.lst (vs.map V.ref))=H3 at s3 h4 hV3 ⊢
   have L3:=L2.same s3
   refine ⟨_,rfl,a,_,1,.ref l2,rfl,rfl,SqT.of (s3 _ _ a2),atI_nat (j:=1) rfl,al_ties (SqL.of h4) (SqL.of L3.hb) hV3 L3.hT,_,rfl,iteT ?_⟩
   refine ⟨_,rfl,y,srt ns,ps,rfl,W2.same s3,g.srt,fun H4 s4=>⟨_,rfl,rfl,?_⟩⟩
   rw [wrow_srt,decide_eq_true rfl]
   exact k _ (s02.trans (s3.trans s4))
end
abbrev sLi:Stmt:=top 42 -- _law_lists_right
theorem nr_head {t h w:Str} {r l:List Str} (e1:Txt.split t sm2=h::r) (e2:Txt.split h bl1=w::l) (c:(decide (w=plc) && (!l.isEmpty && l.all nm))=false):NoR t:=fun ns ps g e=>by
 obtain ⟨a,b⟩:=row_split g e
 rw [e1,List.cons.injEq] at a
 rw [<- a.1,e2,List.cons.injEq] at b
 have o:=g.srt.good.one
 rw [<- b.2] at o
 have n:l.all nm=true:=List.all_eq_true.mpr fun z hz=>g.srt.good.nms z (by rw [<- b.2];exact hz)
 rw [decide_eq_true b.1,n] at c
 cases l with
 | nil=>simp at o
 | cons _ _=>simp at c
theorem nr1:NoR (Str.ofString ""):=nr_head (h:=Str.empty) (r:=[]) (w:=Str.empty) (l:=[]) (by decide +kernel) (by decide +kernel) (by decide +kernel)
theorem nr2:NoR (Str.ofString "places"):=nr_head (h:=plc) (r:=[]) (w:=plc) (l:=[]) (by decide +kernel) (by decide +kernel) (by decide +kernel)
theorem nr3:NoR (Str.ofString "places "):=nr_head (h:="places ") (r:=[]) (w:=plc) (l:=[Str.empty]) (by decide +kernel) (by decide +kernel) (by decide +kernel)
theorem nr4:NoR (Str.ofString "places a; "):=fun ns ps g e=>by
 have a:=(row_split g e).1
 rw [show Txt.split (Str.ofString "places a; ") sm2=[Str.ofString "places a",Str.empty] from by decide +kernel,List.cons.injEq] at a
 cases ps with
 | nil=>simp at a
 | cons p ps =>
  rw [List.map_cons,List.cons.injEq] at a
  have h:=row_sp (g.nmp p (by simp)).1 (g.nmp p (by simp)).2
  rw [<- a.2.1,show Txt.split Str.empty bl1=[Str.empty] from by decide +kernel] at h
  simp at h
theorem nr5:NoR (Str.ofString "places a\n"):=nr_head (h:="places a\n") (r:=[]) (w:=plc) (l:=["a\n"]) (by decide +kernel) (by decide +kernel) (by decide +kernel)
theorem nr6:NoR (Str.ofString "places a;"):=nr_head (h:="places a;") (r:=[]) (w:=plc) (l:=["a;"]) (by decide +kernel) (by decide +kernel) (by decide +kernel)
theorem nr7:NoR (Str.ofString "places a b\na > b"):=nr_head (h:="places a b\na > b") (r:=[]) (w:=plc) (l:=["a","b\na",">","b"]) (by decide +kernel) (by decide +kernel) (by decide +kernel)
theorem nr8:NoR (Str.ofString "places a b;\na > b"):=nr_head (h:="places a b;\na > b") (r:=[]) (w:=plc) (l:=["a","b;\na",">","b"]) (by decide +kernel) (by decide +kernel) (by decide +kernel)
theorem nr9:NoR (Str.ofString "places a b;a > b"):=nr_head (h:="places a b;a > b") (r:=[]) (w:=plc) (l:=["a","b;a",">","b"]) (by decide +kernel) (by decide +kernel) (by decide +kernel)
theorem nr10:NoR (Str.ofString "places a b ; a > b"):=nr_head (h:="places a b ") (r:=["a > b"]) (w:=plc) (l:=["a","b",Str.empty]) (by decide +kernel) (by decide +kernel) (by decide +kernel)
theorem TyOf.but {K:PySem.W.Frag} {H H':Hp} {p:Addr} {y:V} {t:Value} (ty:TyOf K H y t) (s:But p H H') (r:Row H p) (r':Row H' p):TyOf K H' y t:=by
 obtain ⟨a,b,hp⟩:=r
 obtain ⟨a',b',hp'⟩:=r'
 have ne:∀ {c:Addr} {o:HO},H c=some o->(∀ xs,o≠.lst xs)->c≠p:=fun {c o} q n z=>by
  rw [z,hp] at q
  cases q
  exact n _ rfl
 cases ty with
 | non=>exact .non
 | bl x=>exact .bl x
 | int i=>exact .int i
 | str x=>exact .str x
 | flt x=>exact .flt x
 | @lst c xs q =>
  by_cases hc:c=p
  ·subst hc;exact .lst hp'
  ·exact .lst (s _ _ q hc)
 | frz q=>exact .frz (s _ _ q (ne q fun _ z=>nomatch z))
 | tup q=>exact .tup (s _ _ q (ne q fun _ z=>nomatch z))
 | dK q=>exact .dK (s _ _ q (ne q fun _ z=>nomatch z))
 | dT q=>exact .dT (s _ _ q (ne q fun _ z=>nomatch z))
 | ins q c d f g h=>exact .ins (s _ _ q (ne q fun _ z=>nomatch z)) c d f g h
theorem BadR.but {K:PySem.W.Frag} {H H':Hp} {p:Addr} {y:V} (h:BadR K H y) (s:But p H H') (r:Row H p) (r':Row H' p):BadR K H' y:=h.imp id fun ⟨t,ty,e⟩=>⟨t,TyOf.but ty s r r',e⟩
theorem bx_str {K:PySem.W.Frag} {H:Hp} {t:Str} (n:NoR t) (l:t.length<=9000):BadR K H (.str t):=.inl ⟨t,rfl,l,n⟩
section
variable {P:Program} {w:World} {K:PySem.W.Frag} {mg:Str->Option Value} {base:Heap}
def spLaw (K:PySem.W.Frag):Sp:=fun vs H Q _=>∃ (a:Addr) (ns:List Int),vs=[.ref a]/\SqL K H a (ns.map V.int)/\ns.length<=63/\∀ H',Q (.bl true) H'
abbrev nL:List Str:=["_law_script","_law_k","_law_row","_law_names","_law_ties","_law_text","_law_j","_law_odd"]
theorem scL:FnScope nL ["_law_script"] (defScope sLaw):=⟨rfl,rfl,rfl,by decide +kernel,rfl,by decide +kernel,by decide +kernel⟩
def spLi:Sp:=fun vs H Q _=>∃ (p la:Addr) (ns:List Str),vs=[.ref p,.ref la]/\Row H p/\H la=some (.lst (ns.map V.str))/\la≠p/\GoodP ns/\∀ H',Row H' p->But p H H'->Q (.bl true) H'
theorem ok_law {C f fR fD fLN fWb fN fA fT f1 f2 fI fP fS fWT fWR fRd fSW fRo fWr fIN fLR fSo fWy fRR fLi E0 E1 E2 E3 E6:Addr} {fd fdR fdD fdLN fdWb fdN fdA fdT fd1 fd2 fdI fdP fdS fdWT fdWR fdRd fdSW fdRo fdWr fdIN fdLR fdSo fdWy fdRR fdLi:FuncData} (F:Fun K "law" "law" sLaw f fd)
  (DR:Df K mg "_law_row_at" sRow ["_law_script","_law_k"] fR fdR) (DD:Df K mg "_law_draw" sDraw ["_law_row","_law_many"] fD fdD) (DLN:Df K mg "_law_name" sLName ["_law_row","_law_taken"] fLN fdLN) (DWb:Df K mg "_law_web" sWeb ["_law_row","_law_most"] fWb fdWb)
  (DN:Df K mg "is_name" sName ["thing"] fN fdN) (DA:Df K mg "is_among" sAmong ["places","thing"] fA fdA) (DT:Df K mg "is_tie" sTie ["places","thing"] fT fdT) (D1:Df K mg "check_places" sChkP ["places"] f1 fd1) (D2:Df K mg "check_ties" sChkT ["places","ties"] f2 fd2)
  (FI:Fun K "__init__" "Web.__init__" sInit fI fdI) (MkW:Mk K C fI) (bI:Binds K fdI ["self","places","ties"] []) (M:Mt K mg C fP fS fdP fdS) (X:Errs K mg E0 E1 E2 E3 E6)
  (DWT:Df K mg "web_text" sWText ["web"] fWT fdWT) (DWR:Df K mg "web_of_rows" sWRows ["first","others"] fWR fdWR) (DRd:Df K mg "read_web" sRead ["text"] fRd fdRd) (DSW:Df K mg "show_web" sSW ["web"] fSW fdSW) (DRo:Df K mg "read_row" sRR ["text"] fRo fdRo)
  (DWr:Df K mg "_law_written" sWrit ["_law_names","_law_ties"] fWr fdWr) (DIN:Df K mg "_law_is_name" sLNm ["_law_word"] fIN fdIN) (DLR:Df K mg "_law_read" sLRd ["_law_text"] fLR fdLR)
  (DSo:Df K mg "_law_spoilt" sSpo ["_law_row","_law_text"] fSo fdSo) (DWy:Df K mg "_law_refused" sWhy ["_law_text"] fWy fdWy) (DRR:Df K mg "_law_read_right" sLRR ["_law_text","_law_due"] fRR fdRR) (DLi:Df K mg "_law_lists_right" sLi ["_law_row","_law_names"] fLi fdLi) (GLi:FnOk P w K mg base CX0 4 fLi fdLi ["_law_row","_law_names"] spLi) (T:Glb mg) :
  FnOk P w K mg base CX0 11 f fd ["_law_script"] (spLaw K):=by
 have GR:FnOk P w K mg base CX0 1 fR fdR ["_law_script","_law_k"] (spRow (K:=K)):=ok_row DR.fn T
 have GD:FnOk P w K mg base CX0 1 fD fdD ["_law_row","_law_many"] spDraw:=ok_draw DD.fn T
 have GWb:FnOk P w K mg base CX0 3 fWb fdWb ["_law_row","_law_most"] spWeb:=ok_web DWb.fn DD DLN T
 have GI:FnOk P w K mg base CX0 4 fI fdI ["self","places","ties"] (spInit C):=ok_init FI M.wc DN DA DT D1 D2 T
 have GIX:FnOk P w K mg base (CXF P w) 4 fI fdI ["self","places","ties"] (spInitX (K:=K) E3):=ok_initX FI DN DA DT D1 D2 X.x3 T
 have GWT:FnOk P w K mg base CX0 2 fWT fdWT ["web"] (spWT C):=ok_wtext DWT.fn M T
 have GWR:FnOk P w K mg base CX0 6 fWR fdWR ["first","others"] (spWR C):=ok_wrows DWR.fn MkW M.wc.mgC bI GI T
 have GWX:FnOk P w K mg base (CXO P w) 6 fWR fdWR ["first","others"] (spWRX C E6):=ok_wrowsX DWR.fn MkW M.wc.mgC bI GI GIX X.x3 X.x6 X.e3 T
 have GRd:FnOk P w K mg base CX0 7 fRd fdRd ["text"] (spRW C):=ok_read DRd.fn DWT GWT DWR GWR T
 have GRX:FnOk P w K mg base (CXO P w) 7 fRd fdRd ["text"] (spRWX K E6):=ok_readX DRd.fn DWT GWT DWR GWX X.x6 T
 have GWr:FnOk P w K mg base CX0 1 fWr fdWr ["_law_names","_law_ties"] spWrit:=ok_writ DWr.fn T
 have GLR:FnOk P w K mg base CX0 2 fLR fdLR ["_law_text"] spLRd:=ok_lrd DLR.fn DIN T
 have GSW:FnOk P w K mg base CX0 3 fSW fdSW ["web"] (spSW C):=ok_sw DSW.fn DWT GWT
 have GRo:FnOk P w K mg base CX0 8 fRo fdRo ["text"] (spRR C):=ok_rr DRo.fn DRd GRd DSW GSW T
 have GRoX:FnOk P w K mg base (CXO P w) 8 fRo fdRo ["text"] (spRRX K E6):=ok_rrX DRo.fn DRd GRd GRX DSW GSW X.x6 T
 have GSo:FnOk P w K mg base CX0 2 fSo fdSo ["_law_row","_law_text"] spSpo:=ok_spo DSo.fn DD T
 have GWy:FnOk P w K mg base CX0 9 fWy fdWy ["_law_text"] (spWhy K):=ok_why DWy.fn DRo GRoX X T
 have GRR:FnOk P w K mg base CX0 10 fRR fdRR ["_law_text","_law_due"] (spLRR K):=ok_lrr DRR.fn DRo GRo DWy GWy DSW GSW M T
 refine F.ok scL (fun vs H Q E h=>?_) (fun cdv A outer s H vs Q E hr h=>?_)
 ·obtain ⟨a,ns,rfl,_⟩:=h
  rfl
 ·obtain ⟨a,ns,rfl,hS,hlen,k⟩:=h
  have hr1:=hr.mono (j:=1) (by decide)
  have hr2:=hr.mono (j:=2) (by decide)
  have hr3:=hr.mono (j:=3) (by decide)
  have hr5:=hr.mono (j:=5) (by decide)
  have hr4:=hr.mono (j:=4) (by decide)
  have hr9:=hr.mono (j:=9) (by decide)
  refine ⟨_,pss_cons (ps_for PassesOwn.never rfl (pi_range1 rfl T.range (pa_cons (pe_callB (call_max2 rfl) (by rfl) T.max boot_max (pa_cons pe_int (pa_cons (pe_callB (call_min2 rfl) (by rfl) T.min boot_min (pa_cons (pe_callB call_len_seq (by rfl) T.len PySem.boot_len (pa_cons (pv 0) pa_nil)) (pa_cons pe_int pa_nil))) pa_nil))) pa_nil)) (pg_name (i:=1) scL.nd rfl (Or.inl rfl))
    (pss_cons (ps_set (i:=2) scL.nd rfl (Or.inl rfl) (pe_call GR hr1 rfl DR.mgf DR.fn.kp DR.b .nil pass0 (pa_cons (pv 0) (pa_cons (pv 1) pa_nil))))
    (pss_cons (ps_asg (pe_call GWb hr3 rfl DWb.mgf DWb.fn.kp DWb.b .nil pass0 (pa_cons (pv 2) (pa_cons pe_int pa_nil))) (pg_tup rfl (pgs_cons (pg_name (i:=3) scL.nd rfl (Or.inl rfl)) (pgs_cons (pg_name (i:=4) scL.nd rfl (Or.inl rfl)) pgs_nil))))
    (pss_cons (ps_set (i:=5) scL.nd rfl (Or.inl rfl) (pe_call GSW hr3 rfl DSW.mgf DSW.fn.kp DSW.b .nil pass0 (pa_cons (pe_make MkW GI hr5 rfl M.wc.mgC bI .nil pass0 (pa_cons (pv 3) (pa_cons (pv 4) pa_nil))) pa_nil)))
    (pss_cons (ps_if (PW.pt (pw_or (pt_cmpR op_ne (pv 5) (pe_call GWr hr1 rfl DWr.mgf DWr.fn.kp DWr.b .nil pass0 (pa_cons (pv 3) (pa_cons (pv 4) pa_nil))) (nomark _))
      (pw_or1 (pt_not (pt_val (pe_call GRR hr rfl DRR.mgf DRR.fn.kp DRR.b .nil pass0 (pa_cons (pv 5) (pa_cons (pe_tup (pa_cons (pe_callB call_sorted_txt (by rfl) T.sorted boot_sorted (pa_cons (pv 3) pa_nil)) (pa_cons (pv 4) pa_nil))) pa_nil))) (fun _=>rfl)))))) (pss_one (ps_ret pe_bl)) pss_nil)
    (pss_cons (ps_for PassesOwn.never rfl (pi_range1 rfl T.range (pa_cons pe_int pa_nil)) (pg_name (i:=6) scL.nd rfl (Or.inl rfl))
     (pss_cons (ps_set (i:=5) scL.nd rfl (Or.inl rfl) (pe_call GSo hr2 rfl DSo.mgf DSo.fn.kp DSo.b .nil pass0 (pa_cons (pv 2) (pa_cons (pv 5) pa_nil))))
     (pss_one (ps_if (pt_not (pt_val (pe_call GRR hr rfl DRR.mgf DRR.fn.kp DRR.b .nil pass0 (pa_cons (pv 5) (pa_cons (pe_call GLR hr2 rfl DLR.mgf DLR.fn.kp DLR.b .nil pass0 (pa_cons (pv 5) pa_nil)) pa_nil))) (fun _=>rfl))) (pss_one (ps_ret pe_bl)) pss_nil))))
    (pss_cons (ps_set (i:=7) scL.nd rfl (Or.inl rfl) (pe_lst (pa_cons pe_non (pa_cons pe_int (pa_cons pe_bl (pa_cons (pe_lst (pa_cons (pv 5) pa_nil)) (pa_cons (pe_tup (pa_cons (pv 5) pa_nil)) (pa_cons pe_dnewK (pa_cons pe_str (pa_cons pe_str (pa_cons pe_str (pa_cons pe_str (pa_cons pe_str (pa_cons pe_str pa_nil))))))))))))))
    (pss_cons (ps_set (i:=7) scL.nd rfl (Or.inl rfl) (pe_op op_cat (pv 7) (pe_lst (pa_cons pe_str (pa_cons pe_str (pa_cons pe_str (pa_cons pe_str pa_nil)))))))
    (pss_one (ps_if (PW.pt (pw_or (pt_not (pt_val (pe_call GWy hr9 rfl DWy.mgf DWy.fn.kp DWy.b .nil pass0 (pa_cons (pe_ix ix_list (pv 7) (pe_call GD hr1 rfl DD.mgf DD.fn.kp DD.b .nil pass0 (pa_cons (pv 2) (pa_cons (pe_callB call_len_seq (by rfl) T.len PySem.boot_len (pa_cons (pv 7) pa_nil)) pa_nil))) (fun _ _=>rfl)) pa_nil)) (fun _=>rfl)))
      (pw_or1 (pt_not (pt_val (pe_call GLi hr4 rfl DLi.mgf DLi.fn.kp DLi.b .nil pass0 (pa_cons (pv 2) (pa_cons (pv 3) pa_nil))) (fun _=>rfl)))))) (pss_one (ps_ret pe_bl)) pss_nil))))))))))
   (pss_one (ps_ret pe_bl)),?_⟩
  have big:20002<=sizeLine:=by decide
  refine ⟨_,rfl,a,_,rfl,.inl hS,_,_,rfl,_,_,rfl,_,rfl,?_,?_,?_⟩
  ·split<;>(try split)<;>omega
  ·rw [List.length_map]
   split<;>(try split)<;>omega
  refine for_range (fun i σ H2=>∃ v1 v2 v3 v4 v5 v6 v7,σ=[some (V.ref a),v1,v2,v3,v4,v5,v6,v7]/\Same H H2) ⟨_,_,_,_,_,_,_,rfl,Same.refl H⟩ ?_ ?_
  ·rintro i σ H2 hi ⟨v1,v2,v3,v4,v5,v6,v7,rfl,s2⟩
   refine ⟨_,rfl,_,rfl,a,ns,i,(by simp),s2.seq hS,hlen,fun p H3 np row3 same3=>?_⟩
   refine ⟨_,rfl,p,rfl,row3,fun t la lb zs ps ts H4 L4 ht4 na nb nt nab row4 but4=>?_⟩
   have s4:Same H2 H4:=Same.but same3 but4 np
   refine ⟨t,_,rfl,SqT.of ht4,rfl,_,_,rfl,_,_,rfl,rfl,?_⟩
   have g:GoodW zs ps:=⟨L4.good,L4.ins,L4.few⟩
   refine ⟨_,rfl,_,rfl,?_⟩
   intro x dx nx ndx nex
   have sx:Same H4 (upd (upd H4 dx (.own x)) x (.ins C dx [])):=Same.upd_new (same_upd ndx) nx
   refine ⟨x,la,lb,zs,ps,ts,rfl,⟨dx,upd_same⟩,L4.same sx,fun H6 W6 b6=>⟨rfl,?_⟩⟩
   have s46:Same H4 H6:=Same.but sx b6 nx
   refine ⟨x,zs,ps,rfl,W6,g,fun H7 s7=>?_⟩
   have s47:=s46.trans s7
   have L7:=L4.same s47
   have row7:=row_same row4 s47
   have s07:=s2.trans (s4.trans s47)
   have tl:=wrow_len g
   refine ⟨_,rfl,_,rfl,_,rfl,la,lb,zs,ps,ts,rfl,L7,fun H8 s8=>⟨rfl,_,rfl,?_⟩⟩
   rw [decide_eq_true rfl]
   have L8:=L7.same s8
   refine iteF ⟨_,rfl,_,rfl,la,zs,rfl,SqL.of L8.ha,by have:=g.good.few;omega,fun l1 n1=>?_⟩
   have s9:=same_upd (o:=.lst ((srt zs).map V.str)) n1
   have h9:=upd_same (H:=H8) (a:=l1) (o:=.lst ((srt zs).map V.str))
   generalize upd H8 l1 (.lst ((srt zs).map V.str))=H9 at s9 h9 ⊢
   refine ⟨_,rfl,by show 2<=_;omega,fun q nq=>?_⟩
   have s10:=same_upd (o:=.tup [.ref l1,.ref lb]) nq
   have hq:=upd_same (H:=H9) (a:=q) (o:=.tup [.ref l1,.ref lb])
   generalize upd H9 q (.tup [.ref l1,.ref lb])=H10 at s10 hq ⊢
   have L10:=L8.same (s9.trans s10)
   have LS:Lists H10 l1 lb (srt zs) ps ts:=⟨s10 _ _ h9,L10.hb,L10.hT,g.srt.good,g.srt.ins,g.few⟩
   refine ⟨_,_,rfl,.inr ⟨zs,ps,q,l1,lb,ts,rfl,rfl,hq,LS,g⟩,fun H11 s11=>⟨_,rfl,iteF ?_⟩⟩
   have s711:=s8.trans (s9.trans (s10.trans s11))
   have s011:=s07.trans s711
   have row11:=row_same row7 s711
   have np11:H p=none:=by
    cases e:H p with
    | none=>rfl
    | some o=>exact absurd (s2 _ _ e) (by rw [np];exact fun z=>nomatch z)
   have L11a:=(L10.same s11).ha
   have nlap:la≠p:=Ne.symm (ne_of_none row3.lst.choose_spec na)
   refine ⟨3,rfl,by omega,by decide,for_range (fun j σ H12=>∃ (z:Str) (v6:Option V),σ=[some (V.ref a),some (.int (0+i)),some (.ref p),some (.ref la),some (.ref lb),some (.str z),v6,v7]/\z.length<=(if j=0 then 1100 else if j=1 then 2204 else if j=2 then 4412 else 8828)/\Same H H12/\Row H12 p/\H12 la=some (.lst (zs.map V.str))) ⟨_,_,rfl,by simpa using tl,s011,row11,L11a⟩ ?_ ?_⟩
   ·rintro j σ H12 hj ⟨z,v6,rfl,lz,s12,row12,la12⟩
    have lz':z.length<=5000:=by split at lz<;>(try split at lz)<;>(try split at lz)<;>omega
    refine ⟨_,rfl,_,rfl,p,z,rfl,row12,lz',fun z' H13 lz2 row13 b13=>?_⟩
    have lz3:z'.length<=(if j+1=0 then 1100 else if j+1=1 then 2204 else if j+1=2 then 4412 else 8828):=by
     have:j=0\/j=1\/j=2:=by omega
     rcases this with rfl | rfl | rfl<;>simp at lz ⊢<;>omega
    have lz4:z'.length<=9000:=by split at lz3<;>(try split at lz3)<;>(try split at lz3)<;>omega
    have s13:Same H H13:=Same.but s12 b13 np11
    refine ⟨_,rfl,_,rfl,z',rfl,by omega,fun no H14 s14=>?_,fun ms qs g' ss e a1 l1' l2' us H14 s14 ha L'=>?_⟩
    ·exact ⟨_,_,rfl,.inl ⟨rfl,bx_str no lz4⟩,fun H15 s15=>⟨_,rfl,iteF ⟨_,_,rfl,lz3,s13.trans (s14.trans s15),row_same row13 (s14.trans s15),(s14.trans s15) _ _ (b13 _ _ la12 nlap)⟩⟩⟩
    ·exact ⟨_,_,rfl,.inr ⟨ms,qs,a1,l1',l2',us,by rw [e],rfl,ha,by rw [ss];exact L',g'⟩,fun H15 s15=>⟨_,rfl,iteF ⟨_,_,rfl,lz3,s13.trans (s14.trans s15),row_same row13 (s14.trans s15),(s14.trans s15) _ _ (b13 _ _ la12 nlap)⟩⟩⟩
   rintro σ H12 ⟨z,v6,rfl,lz,s12,row12,la12⟩
   refine ⟨_,rfl,(by show 1<=sizeLine;decide),fun o1 ho1=>?_⟩
   have t1:=same_upd (o:=.lst [.str z]) ho1
   refine ⟨_,rfl,(by show 1<=sizeLine;decide),fun o2 ho2=>?_⟩
   have t2:=same_upd (o:=.tup [.str z]) ho2
   intro o3 ho3
   have t3:=same_upd (o:=.dK []) ho3
   refine ⟨(by show 12<=sizeLine;decide),fun oc hoc=>?_⟩
   have t4:=same_upd (o:=.lst [V.non,.int 7,.bl true,.ref o1,.ref o2,.ref o3,.str "",.str "places",.str "places ",.str "places a; ",.str "places a\n",.str "places a;"]) hoc
   have kc:=upd_same (H:=upd (upd (upd H12 o1 (.lst [.str z])) o2 (.tup [.str z])) o3 (.dK [])) (a:=oc) (o:=.lst [V.non,.int 7,.bl true,.ref o1,.ref o2,.ref o3,.str "",.str "places",.str "places ",.str "places a; ",.str "places a\n",.str "places a;"])
   have k1:=(t2.trans (t3.trans t4)) _ _ (upd_same (H:=H12) (a:=o1) (o:=.lst [.str z]))
   have k2:=(t3.trans t4) _ _ upd_same
   have k3:=t4 _ _ upd_same
   have s13a:=t1.trans (t2.trans (t3.trans t4))
   simp only [gName]
   generalize upd (upd (upd (upd H12 o1 (.lst [.str z])) o2 (.tup [.str z])) o3 (.dK [])) oc (.lst [V.non,.int 7,.bl true,.ref o1,.ref o2,.ref o3,.str "",.str "places",.str "places ",.str "places a; ",.str "places a\n",.str "places a;"])=G1 at k1 k2 k3 kc s13a ⊢
   refine ⟨_,rfl,(by show 4<=sizeLine;decide),fun o5 ho5=>?_⟩
   have t5:=same_upd (o:=.lst [.str "places a b\na > b",.str "places a b;\na > b",.str "places a b;a > b",.str "places a b ; a > b"]) ho5
   have k5:=upd_same (H:=G1) (a:=o5) (o:=.lst [.str "places a b\na > b",.str "places a b;\na > b",.str "places a b;a > b",.str "places a b ; a > b"])
   have kc5:=t5 _ _ kc
   have k15:=t5 _ _ k1
   have k25:=t5 _ _ k2
   have k35:=t5 _ _ k3
   have s13b:=s13a.trans t5
   generalize upd G1 o5 (.lst [.str "places a b\na > b",.str "places a b;\na > b",.str "places a b;a > b",.str "places a b ; a > b"])=G2 at k5 kc5 k15 k25 k35 s13b ⊢
   refine ⟨oc,o5,_,_,rfl,rfl,kc5,k5,(by show 16<=sizeLine;decide),fun od hod=>?_⟩
   generalize hys:[V.non,.int 7,.bl true,.ref o1,.ref o2,.ref o3,.str "",.str "places",.str "places ",.str "places a; ",.str "places a\n",.str "places a;"]++[V.str "places a b\na > b",.str "places a b;\na > b",.str "places a b;a > b",.str "places a b ; a > b"]=ys at hod ⊢
   have t6:=same_upd (o:=.lst ys) hod
   have kq:=upd_same (H:=G2) (a:=od) (o:=.lst ys)
   have k16:=t6 _ _ k15
   have k26:=t6 _ _ k25
   have k36:=t6 _ _ k35
   have s13:=s13b.trans t6
   have row13b:=row_same row12 s13b
   have ndp:od≠p:=fun z=>by
    obtain ⟨a,b,e⟩:=row13b
    rw [<- z,hod] at e
    cases e
   simp only [gName]
   generalize upd G2 od (.lst ys)=H13 at kq k16 k26 k36 s13 ⊢
   have la13:=s13 _ _ la12
   have row13:=row_same row12 s13
   have allN:∀ y∈ys,BadR K H13 y:=fun y hy=>by
    rw [<- hys] at hy
    simp only [List.cons_append,List.nil_append,List.mem_cons,List.not_mem_nil,or_false] at hy
    rcases hy with rfl | rfl | rfl | rfl | rfl | rfl | rfl | rfl | rfl | rfl | rfl | rfl | rfl | rfl | rfl | rfl
    ·exact .inr ⟨_,.non,rfl⟩
    ·exact .inr ⟨_,.int _,rfl⟩
    ·exact .inr ⟨_,.bl _,rfl⟩
    ·exact .inr ⟨_,.lst k16,rfl⟩
    ·exact .inr ⟨_,.tup k26,rfl⟩
    ·exact .inr ⟨_,.dK k36,rfl⟩
    ·exact bx_str nr1 (by decide +kernel)
    ·exact bx_str nr2 (by decide +kernel)
    ·exact bx_str nr3 (by decide +kernel)
    ·exact bx_str nr4 (by decide +kernel)
    ·exact bx_str nr5 (by decide +kernel)
    ·exact bx_str nr6 (by decide +kernel)
    ·exact bx_str nr7 (by decide +kernel)
    ·exact bx_str nr8 (by decide +kernel)
    ·exact bx_str nr9 (by decide +kernel)
    ·exact bx_str nr10 (by decide +kernel)
   have ys16:ys.length=16:=by rw [<- hys];rfl
   refine ⟨_,rfl,_,rfl,_,rfl,od,_,rfl,.inl (SqL.of kq),p,_,rfl,row13,by rw [ys16];decide,by rw [ys16];decide,fun d H14 q1 q2 row14 b14=>?_⟩
   obtain ⟨n,rfl⟩:=Int.eq_ofNat_of_zero_le q1
   have hn:n < ys.length:=by omega
   refine ⟨od,ys,n,ys[n],rfl,rfl,SqL.of (b14 _ _ kq ndp),atI_nat (by simp [hn]),_,rfl,(allN _ (List.getElem_mem hn)).but b14 row13 row14,fun H15 s15=>⟨_,rfl,iteF ?_⟩⟩
   refine ⟨_,rfl,_,rfl,p,la,zs,rfl,row_same row14 s15,s15 _ _ (b14 _ _ la13 nlap),nlap,g.good,fun H16 row16 b16=>⟨_,rfl,iteF ?_⟩⟩
   exact ⟨_,_,_,_,_,_,_,rfl,Same.but ((Same.but (s12.trans s13) b14 np11).trans s15) b16 np11⟩
  ·rintro σ H2 ⟨v1,v2,v3,v4,v5,v6,v7,rfl,s2⟩
   exact k H2
end
end K91
namespace L2
open PySem PySem.Spec PyProof.Rows
def Itz (K : PySem.W.Frag) (a b : Addr) : It :=
  ⟨fun i H => ∃ xs x ys y, SqL K H a xs ∧ xs[i]? = some x ∧ SqL K H b ys ∧ ys[i]? = some y, fun i H v H' => ∃ q x y, H q = none ∧ (∀ xs, SqL K H a xs → xs[i]? = some x) ∧ (∀ ys, SqL K H b ys → ys[i]? = some y) ∧ v = .ref q ∧ H' = upd H q (.tup [x, y]),
   fun i H => ∃ xs ys, SqL K H a xs ∧ SqL K H b ys ∧ (xs.length ≤ i ∨ ys.length ≤ i)⟩
theorem turn_zip {P:Program} {w:World} {K:PySem.W.Frag} {elts:List Expr} {x1} {tp:Pos} (a b z TI TO i1 i2:Addr) (D:ZipApart z TI TO i1 i2 a b) :
  Turn P w K (.Tuple elts x1 tp) (Itz K a b) [z,TO,i1,i2,TI] z (fun i h=>IsZip h z TI TO .none/\IsPair h TI (.ref i1) (.ref i2)/\(∃ u v,IsPair h TO u v)/\h.IsListIter i1 a i/\h.IsListIter i2 b i) where
 mem:=by simp
 obj:=fun i h st c hc=>by
  obtain ⟨hz,hTI,⟨u,v,hTO⟩,⟨o1,g1,_,d1⟩,o2,g2,_,d2⟩:=st
  simp only [List.mem_cons,List.not_mem_nil,or_false] at hc
  rcases hc with rfl | rfl | rfl | rfl | rfl
  ·exact ⟨_,hz,fun v z=>nomatch z⟩
  ·exact ⟨_,hTO,fun v z=>nomatch z⟩
  ·exact ⟨o1,g1,fun v z=>by rw [d1] at z;cases z⟩
  ·exact ⟨o2,g2,fun v z=>by rw [d2] at z;cases z⟩
  ·exact ⟨_,hTI,fun v z=>nomatch z⟩
 keep:=fun i h h' st k=>by
  obtain ⟨hz,hTI,⟨u,v,hTO⟩,h1,h2⟩:=st
  exact ⟨k z (by simp) _ hz,k TI (by simp) _ hTI,⟨u,v,k TO (by simp) _ hTO⟩,h1.at fun o q=>k i1 (by simp) o q,h2.at fun o q=>k i2 (by simp) o q⟩
 item:=by
  intro X hP hw hK hc i pins s σ H E I hf st hg
  subst hP hw hK
  obtain ⟨hz,hTI,⟨u0,v0,hTO⟩,h1,h2⟩:=st
  obtain ⟨xs,x,ys,y,hq,hx,hr,hy⟩:=hg
  obtain ⟨its,rv,p,_⟩:=I.list hq
  obtain ⟨its2,rv2,p2,_⟩:=I.list hr
  obtain ⟨u,hu,ru⟩:=rv.get hx
  obtain ⟨v,hv,ru2⟩:=rv2.get hy
  have f1:=hf z (by simp)
  have f2:=hf TO (by simp)
  have f3:=hf i1 (by simp)
  have f4:=hf i2 (by simp)
  have f5:=hf TI (by simp)
  refine wpAny_pyNext_zip_item D hz hTI hTO h1 h2 p.isList p2.isList (x:=u) (y:=v) (by simpa using hu) (by simpa using hv) fun h' a1 a2 a3 a4 a5 a6 k1=>⟨_,rfl,?_⟩
  refine wpAny_letOwnedTupleGo_zip a1 fun h2' e2 sb=>?_
  have nq:∀ {b:Addr} {o:Obj},s.heap.get? b=some o->b≠s.heap.objs.size:=fun {b o} q=>Nat.ne_of_lt (Heap.lt_size q)
  have nz:=nq hz
  have nTO:=nq hTO
  have nTI:=nq hTI
  have n1:i1≠s.heap.objs.size:=let ⟨o,q,_⟩:=h1;nq q
  have n2:i2≠s.heap.objs.size:=let ⟨o,q,_⟩:=h2;nq q
  have hn:H s.heap.objs.size=none:=I.hok.fresh (Nat.le_refl _)
  have kk:∀ c o,c≠z->c≠TO->c≠i1->c≠i2->s.heap.get? c=some o->h2'.get? c=some o:=fun c o c1 c2 c3 c4 q=>sb.extBut _ _ c1 (k1 c o c1 c2 c3 c4 q)
  have tq:h2'.get? s.heap.objs.size=some { cls:=.type "tuple",data:=.seq #[u,v] }:=sb.extBut _ _ (Ne.symm nz) a5
  have hH:∀ c o,H c=some o->c≠z/\c≠TO/\c≠i1/\c≠i2/\c≠s.heap.objs.size:=fun c o q=>⟨ne_of_none q f1.1,ne_of_none q f2.1,ne_of_none q f3.1,ne_of_none q f4.1,ne_of_none q hn⟩
  refine ⟨.ref s.heap.objs.size,upd H s.heap.objs.size (.tup [x,y]),?_,rfl,⟨_,x,y,hn,fun zs hy'=>by rw [I.list_inj hy' hq];exact hx,fun zs hy'=>by rw [I.list_inj hy' hr];exact hy,rfl,rfl⟩,
   ⟨e2,sb.extBut _ _ D.TIz (k1 _ _ D.TIz D.TITO D.TIi1 D.TIi2 hTI),⟨_,_,sb.extBut _ _ D.TOz a2⟩,a3.extBut sb.extBut D.i1z,a4.extBut sb.extBut D.i2z⟩,fun b hb=>?_⟩
  ·refine Inv.call' (ch:=[z,TO,i1,i2]) I (s':={ s with heap:=h2' }) rfl ⟨fun b ob q n hb hx=>?_,fun b ob q n hb hx=>?_,fun b ob q n hx=>?_,fun b ob q hx=>?_,fun b ys q=>?_,fun b ob ys q=>?_,fun b ps q=>⟨#[],?_⟩⟩ ?_ I.bare fun b hb=>?_
   ·exact kk b ob (fun z=>hx (by simp [z])) (fun z=>hx (by simp [z])) (fun z=>hx (by simp [z])) (fun z=>hx (by simp [z])) q
   ·exact ⟨ob.slots,kk b ob (fun z=>hx (by simp [z])) (fun z=>hx (by simp [z])) (fun z=>hx (by simp [z])) (fun z=>hx (by simp [z])) q⟩
   ·rw [upd_ne (nq q)];exact n
   ·exact ⟨ob,kk b ob (fun z=>hx (by simp [z])) (fun z=>hx (by simp [z])) (fun z=>hx (by simp [z])) (fun z=>hx (by simp [z])) q⟩
   ·rw [upd_ne (hH _ _ q).2.2.2.2];exact q
   ·rw [upd_ne (hH _ _ q).2.2.2.2];exact q
   ·rw [upd_ne (hH _ _ q).2.2.2.2,q];simp
   ·intro b ob q
    by_cases hb:b=s.heap.objs.size
    ·subst hb
     rw [upd_same] at q
     cases q
     exact ⟨by show 2<=sizeLine;decide,[u,v],.cons ru (.cons ru2 .nil),⟨_,tq,rfl,0,rfl⟩⟩
    ·rw [upd_ne hb] at q
     refine (I.hok b ob q).stay (fun c v hc g=>?_) (fun c g=>?_) fun c ys g=>?_
     ·have hc':c≠z/\c≠TO/\c≠i1/\c≠i2/\c≠s.heap.objs.size:=by
       rcases hc with z | z
       ·rw [z];exact hH _ _ q
       ·exact hH _ _ z
      exact kk c v hc'.1 hc'.2.1 hc'.2.2.1 hc'.2.2.2.1 g
     ·rw [upd_ne (hH _ _ g).2.2.2.2];exact g
     ·rw [upd_ne (hH _ _ g).2.2.2.2];exact g
   ·have:b∈([z,TO,i1,i2,TI]:List Addr):=by simp only [List.mem_cons,List.not_mem_nil,or_false] at hb ⊢;exact (hb.elim .inl fun h=>.inr (h.elim .inl fun h=>.inr (h.elim .inl fun h=>.inr (.inl h))))
    have f:=hf b this
    exact ⟨f.2.2.2.1,f.2.1,f.2.2.2.2.1,f.2.2.2.2.2⟩
  ·have lt:b≠s.heap.objs.size:=by
    simp only [List.mem_cons,List.not_mem_nil,or_false] at hb
    rcases hb with rfl | rfl | rfl | rfl | rfl
    ·exact nz
    ·exact nTO
    ·exact n1
    ·exact n2
    ·exact nTI
   rw [upd_ne lt];exact (hf b hb).1
 done:=by
  intro X hP hw hK hc i pins s σ H E I hf st hg
  subst hP hw hK
  obtain ⟨hz,hTI,⟨u0,v0,hTO⟩,h1,h2⟩:=st
  obtain ⟨xs,ys,hq,hr,hx⟩:=hg
  obtain ⟨its,rv,p,_⟩:=I.list hq
  obtain ⟨its2,rv2,p2,_⟩:=I.list hr
  have hl:=rv.length
  have hl2:=rv2.length
  refine wpAny_pyNext_zip_end (I.ok.hd hc) D hz hTI hTO h1 h2 p.isList p2.isList (hx.imp (fun h=>by simp;omega) fun h=>by simp;omega) fun h' k=>⟨rfl,?_⟩
  have hH:∀ c o,H c=some o->c≠z/\c≠TO/\c≠i1/\c≠i2:=fun c o q=>⟨ne_of_none q (hf z (by simp)).1,ne_of_none q (hf TO (by simp)).1,ne_of_none q (hf i1 (by simp)).1,ne_of_none q (hf i2 (by simp)).1⟩
  refine Inv.call' (ch:=[z,TO,i1,i2]) I (s':={ s with heap:=h' }) rfl ⟨fun b ob q n hb hx=>?_,fun b ob q n hb hx=>?_,fun b ob q n hx=>n,fun b ob q hx=>?_,fun b ys q=>q,fun b ob ys q=>q,fun b ps q=>⟨#[],?_⟩⟩ ?_ I.bare fun b hb=>?_
  ·exact k b ob (fun z=>hx (by simp [z])) (fun z=>hx (by simp [z])) (fun z=>hx (by simp [z])) (fun z=>hx (by simp [z])) q
  ·exact ⟨ob.slots,k b ob (fun z=>hx (by simp [z])) (fun z=>hx (by simp [z])) (fun z=>hx (by simp [z])) (fun z=>hx (by simp [z])) q⟩
  ·exact ⟨ob,k b ob (fun z=>hx (by simp [z])) (fun z=>hx (by simp [z])) (fun z=>hx (by simp [z])) (fun z=>hx (by simp [z])) q⟩
  ·rw [q];simp
  ·intro b ob q
   refine (I.hok b ob q).stay (fun c v hc g=>?_) (fun c g=>g) fun c ys g=>g
   have hc':c≠z/\c≠TO/\c≠i1/\c≠i2:=by
    rcases hc with z | z
    ·rw [z];exact hH _ _ q
    ·exact hH _ _ z
   exact k c v hc'.1 hc'.2.1 hc'.2.2.1 hc'.2.2.2 g
  ·have:b∈([z,TO,i1,i2,TI]:List Addr):=by simp only [List.mem_cons,List.not_mem_nil,or_false] at hb ⊢;exact (hb.elim .inl fun h=>.inr (h.elim .inl fun h=>.inr (h.elim .inl fun h=>.inr (.inl h))))
   have f:=hf b this
   exact ⟨f.2.2.2.1,f.2.1,f.2.2.2.2.1,f.2.2.2.2.2⟩
 self:=fun _ _ _ _ _ st h=>wpAny_pyIter_zip st.1 h
def iZip (K:PySem.W.Frag) (ta:TA):TI:=fun σ H R=>ta σ H fun vs H1=>∃ a b,vs=[.ref a,.ref b]/\(∃ xs,SqL K H1 a xs)/\(∃ ys,SqL K H1 b ys)/\R (Itz K a b) H1
section
variable {X:Cx}
theorem pi_zip {elts:List Expr} {x1} {tp:Pos} {l m:Expr} {ta:TA} {p pos:Pos} (hg:Gl X "zip") (hm:X.mg "zip" = none) (ha:PA X [l,m] ta) (hs:starEach [l,m] X.env=(false,eval l X.env)::starEach [m] X.env:=by rfl) (hp:(backTo pos (starEach [m] X.env)).any (·.1)=false:=by rfl):PI X (.Tuple elts x1 tp) (.Call (.Name "zip" p) [l,m] [] pos) (iZip X.K ta):=by
 intro pins s σ H R I h
 refine wpAny_Call_Name_kw (ld_blt I hg hm boot_zip ?_)
 refine PyProof.Rows.callWith_type1 (thn (ha pos pins s σ H _ I h) fun us s1 ⟨vs,H1,I1,r1,q1⟩=>?_) hs hp
 obtain ⟨a,b,rfl,⟨xs,hq⟩,⟨ys,hr⟩,q⟩:=q1
 obtain ⟨u,v,rfl,ru,rv⟩:=vals2 r1
 cases ru
 cases rv
 obtain ⟨its,_,pl,_⟩:=I1.list hq
 obtain ⟨its2,_,pl2,_⟩:=I1.list hr
 refine call_zip_2 pl.isList pl2.isList fun h' e1 e2 e3 i1 i2 z1 k1=>?_
 refine wpAny_pyIter_zip e1 ?_
 have la:@LT.lt Nat _ a s1.heap.objs.size:=let ⟨o,g,_⟩:=pl.isList;Heap.lt_size g
 have lb:@LT.lt Nat _ b s1.heap.objs.size:=let ⟨o,g,_⟩:=pl2.isList;Heap.lt_size g
 refine ⟨s1.heap.objs.size+4,[s1.heap.objs.size+4,s1.heap.objs.size+3,s1.heap.objs.size,s1.heap.objs.size+1,s1.heap.objs.size+2],_,_,H1,rfl,I1.kept (t':=s1.toks) k1,turn_zip a b _ _ _ _ _ (zipApart_new la lb),⟨e1,e2,⟨_,_,e3⟩,i1,i2⟩,fun c hc=>?_,q⟩
 have le:@LE.le Nat _ s1.heap.objs.size c:=by
  simp only [List.mem_cons,List.not_mem_nil,or_false] at hc
  rcases hc with z | z | z | z | z<;>rw [z]
  ·exact Nat.le_add_right _ 4
  ·exact Nat.le_add_right _ 3
  ·exact Nat.le_refl _
  ·exact Nat.le_add_right _ 1
  ·exact Nat.le_add_right _ 2
 exact I1.fpOk le (I1.hok.fresh le)
end
theorem lc_zip {K:PySem.W.Frag} {a b:Addr} {xs zs:List V} {own:List Str} {fr:List Nat} {g:TG} {tt:TT} {te:TE} {σ:St} {Q:VK} {H:Hp} (le:xs.length=zs.length) (Pv:Nat->List V->Hp->Prop) (h0:Pv 0 [] H) (hlen:∀ i ys H,i<=xs.length->Pv i ys H->ys.length<=sizeLine)
  (hl:∀ i ys H,i<=xs.length->Pv i ys H->SqL K H a xs/\SqL K H b zs)
  (hs:∀ i x z ys H q (R:List V->Hp->Prop),xs[i]?=some x->zs[i]?=some z->Pv i ys H->H q=none->(∀ ys' H',Pv (i+1) ys' H'->R ys' H')->g (.ref q) (cSt own fr σ) (upd H q (.tup [x,z])) fun σ4 H4=>tt σ4 H4 fun b H5=>if b=true then te σ4 H5 fun y H6=>R (ys++[y]) H6 else R ys H5)
  (hd:∀ ys H,Pv xs.length ys H->∀ D,H D=none->Q (.ref D) (upd H D (.lst ys))):lcLoop own fr g tt te σ Q (Itz K a b) H:=by
 refine ⟨fun i m ys H=>m=xs.length - i/\i<=xs.length/\Pv i ys H,⟨xs.length,rfl,Nat.zero_le _,h0⟩,?_⟩
 rintro i m ys H2 ⟨rfl,hi,p⟩
 refine ⟨hlen i ys H2 hi p,?_⟩
 obtain ⟨q,q2⟩:=hl i ys H2 hi p
 by_cases h:i < xs.length
 ·refine .inr ⟨⟨xs,xs[i],zs,zs[i]'(by omega),q,by simp [h],q2,by simp⟩,fun x H3 ⟨r,y1,y2,hr,h1,h2,e1,e2⟩=>?_⟩
  subst e1 e2
  exact hs i y1 y2 ys _ r (fun ys' H'=>∃ m',m' < xs.length - i/\(m'=xs.length - (i+1)/\i+1<=xs.length/\Pv (i+1) ys' H')) (h1 xs q) (h2 zs q2) p hr fun ys' H' q=>⟨xs.length - (i+1),by omega,rfl,h,q⟩
 ·have e:i=xs.length:=by omega
  subst e
  exact .inl ⟨⟨xs,zs,q,q2,.inl (Nat.le_refl _)⟩,hd ys H2 p⟩
section
variable {X:Cx}
end
end L2
namespace K91
open PySem PySem.Spec PyProof.Rows L2 L8
section
variable {P:Program} {w:World} {K:PySem.W.Frag} {mg:Str->Option Value} {base:Heap}
variable {fIR fSt fSC fSE fSCs fD:Addr} {fdIR fdSt fdSC fdSE fdSCs fdD:FuncData}
structure CuE (H:Hp) (q:Addr × Addr × List Str × Int):Prop where
 u:H q.1=some (.tup [.ref q.2.1,.int q.2.2.2])
 c:H q.2.1=some (.tup (q.2.2.1.map V.str))
 ne:q.2.2.1≠[]
 le:∀ z∈q.2.2.1,z.length<=8
 few:q.2.2.1.length<=11
 lo:0<=q.2.2.2
 hi:q.2.2.2 < 10 ^ 13
def TK (H H':Hp):Prop:=∀ c xs,H c=some (.tup xs)->H' c=some (.tup xs)
theorem CuE.keep {H H':Hp} {q:Addr × Addr × List Str × Int} (h:CuE H q) (k:TK H H'):CuE H' q:=⟨k _ _ h.u,k _ _ h.c,h.ne,h.le,h.few,h.lo,h.hi⟩
theorem TK.same {H H':Hp} (s:Same H H'):TK H H':=fun c xs e=>s _ _ e
theorem TK.but {H H':Hp} {p:Addr} (b:But p H H') (r:Row H p):TK H H':=fun c xs e=>b _ _ e fun z=>by
 obtain ⟨x,y,q⟩:=r
 rw [z,q] at e
 cases e
theorem TK.trans {H H1 H2:Hp} (a:TK H H1) (b:TK H1 H2):TK H H2:=fun c xs e=>b _ _ (a _ _ e)
theorem TK.upd {H:Hp} {l:Addr} {ys zs:List V} (h:H l=some (.lst ys)):TK H (upd H l (.lst zs)):=fun c xs e=>by
 rw [L2.upd_ne (fun z=>by rw [z,h] at e;cases e)]
 exact e
abbrev rJoT (K:PySem.W.Frag):V->List V->Hp->VK->Prop:=fun x vs H Q=>∃ (sep:Str) (p:Addr) (ys:List Str),x=.str sep/\vs=[.ref p]/\SqT K H p (ys.map V.str)/\(ys.map (·.length)).sum+ys.length * sep.length<=16777216/\Q (.str (Txt.join sep ys)) H
theorem app_empty (x:Str):x++Str.empty=x:=str_of_cs (by rw [cs_app];simp;rfl)
theorem row_eq {zs:List Str} {xs:List V} (h:zs=[] ↔ xs=[]):inRow zs=Txt.join bl1 zs++Txt.slice mn1 none (some (if decide (xs=[])=true then 1 else 0)):=by
 unfold inRow
 by_cases e:zs=[]
 ·rw [if_pos e,decide_eq_true (h.mp e),if_pos rfl,e]
  decide +kernel
 ·rw [if_neg e,decide_eq_false (fun z=>e (h.mpr z)),if_neg (by decide),show Txt.slice mn1 none (some 0)=Str.empty from by decide +kernel,app_empty]
abbrev nLi:List Str:=["_law_row","_law_names","_law_ties","_law_due","_law_cuts","_law_k","_law_at","_law_some","_law_words","_law_often"]
theorem scLi:FnScope nLi ["_law_row","_law_names"] (defScope sLi):=⟨rfl,rfl,rfl,by decide +kernel,rfl,by decide +kernel,by decide +kernel⟩
theorem ok_li {f:Addr} {fd:FuncData} (F:Fun K "_law_lists_right" "_law_lists_right" sLi f fd) (DD:Df K mg "_law_draw" sDraw ["_law_row","_law_many"] fD fdD) (DIR:Df K mg "in_a_row" sIR ["words"] fIR fdIR) (DSt:Df K mg "show_ties" sSTi ["ties"] fSt fdSt) (DSC:Df K mg "show_cut" sSC ["cut"] fSC fdSC) (DSE:Df K mg "show_entry" sSE ["thing"] fSE fdSE) (DSCs:Df K mg "show_cuts" sSCs ["cuts"] fSCs fdSCs) (hz:mg "zip" = none) (T:Glb mg):FnOk P w K mg base CX0 4 f fd ["_law_row","_law_names"] spLi:=by
 have GD:FnOk P w K mg base CX0 1 fD fdD ["_law_row","_law_many"] spDraw:=ok_draw DD.fn T
 have GSt:FnOk P w K mg base CX0 2 fSt fdSt ["ties"] (spSTi (K:=K)):=ok_sti DSt.fn DIR T
 have GSC:FnOk P w K mg base CX0 1 fSC fdSC ["cut"] (spSC (K:=K)):=ok_sc DSC.fn
 have GSCs:FnOk P w K mg base CX0 3 fSCs fdSCs ["cuts"] (spSCs (K:=K)):=ok_scs DSCs.fn DIR DSE DSC T
 refine F.ok scLi (fun vs H Q E h=>?_) (fun cdv A outer s H vs Q E hr h=>?_)
 ·obtain ⟨p,la,ns,rfl,_⟩:=h
  rfl
 ·obtain ⟨p,la,ns,rfl,row,hla,nlap,g,k⟩:=h
  have hr1:=hr.mono (j:=1) (by decide)
  have hr2:=hr.mono (j:=2) (by decide)
  refine ⟨_,pss_cons (ps_setL (i:=2) ["_law_k"] [0] scLi.nd rfl rfl rfl (compSc (osc:=(defScope sLi).names) (N:=nLi) rfl rfl (by decide +kernel)) (gk_name (by decide)) (pi_range1 rfl T.range (pa_cons pe_int pa_nil))
    (fun _ _ _=>pg_name (i:=0) (show (["_law_k","_law_row"]:List Str).Nodup by decide +kernel) rfl (Or.inl rfl)) (fun _ _ _=>pifs_one (pt_cmpR op_eq (pe_call GD hr1 rfl DD.mgf DD.fn.kp DD.b .nil pass0 (pa_cons (pv 1) (pa_cons pe_int pa_nil))) pe_int (nomark _))) (fun _ _ _=>pv 0))
   (pss_cons (ps_set (i:=3) scLi.nd rfl (Or.inl rfl) (pe_bm PySem.F.plainAttrs_str PySem.F.slot_str_join PySem.F.type_str_join mt_join pe_str (pa_cons
    (pe_lc ["_law_k"] [] rfl (compSc (osc:=(defScope sLi).names) (N:=nLi) rfl rfl (by decide +kernel)) (gk_name (by decide)) (pi_list (pv 2)) (fun _ _ _=>pg_name (i:=0) (show (["_law_k"]:List Str).Nodup by decide +kernel) rfl (Or.inl rfl)) (fun _ _ _=>pifs_nil)
     (fun _ _ _=>pe_callTy (r:=rStrI) call_str_int (by rfl) T.str PyProof.Rows.boot_str (pa_cons (pv 0) pa_nil))) pa_nil)))
   (pss_cons (ps_if (pt_cmpR op_ne (pe_call GSt hr2 rfl DSt.mgf DSt.fn.kp DSt.b .nil pass0 (pa_cons (pv 2) pa_nil)) (pe_op op_add_str (pv 3) (pe_slice sl_str pe_str po_none (po_some (pe_callTy call_int1 (by rfl) T.int PyProof.Rows.boot_int (pa_cons (pe_cmpR (op_eq_nil (low 0 hr)) (pv 2) (pe_lst pa_nil) (nomark _)) pa_nil))))) (nomark _)) (pss_one (ps_ret pe_bl)) pss_nil)
   (pss_cons (ps_set (i:=4) scLi.nd rfl (Or.inl rfl) (pe_lst pa_nil))
   (pss_cons (ps_for PassesOwn.never rfl (pi_range1 rfl T.range (pa_cons (pe_call GD hr1 rfl DD.mgf DD.fn.kp DD.b .nil pass0 (pa_cons (pv 0) (pa_cons pe_int pa_nil))) pa_nil)) (pg_name (i:=5) scLi.nd rfl (Or.inl rfl))
    (pss_cons (ps_set (i:=6) scLi.nd rfl (Or.inr rfl) (pe_call GD hr1 rfl DD.mgf DD.fn.kp DD.b .nil pass0 (pa_cons (pv 0) (pa_cons (pe_callB call_len_seq (by rfl) T.len PySem.boot_len (pa_cons (pv 1) pa_nil)) pa_nil))))
    (pss_cons (ps_setL (i:=7) ["_law_name_here"] [1,6,0] scLi.nd rfl rfl rfl (compSc (osc:=(defScope sLi).names) (N:=nLi) rfl rfl (by decide +kernel)) (gk_name (by decide)) (pi_list (pv 1))
     (fun _ _ _=>pg_name (i:=0) (show (["_law_name_here","_law_names","_law_at","_law_row"]:List Str).Nodup by decide +kernel) rfl (Or.inl rfl)) (fun _ _ _=>pifs_one (PW.pt (pw_or (pt_cmpR op_eq (pv 0) (pe_ix (r:=rIxL K) ix_list (pv 1) (pv 2) (fun _ _=>rfl)) (nomark _)) (pw_or1 (pt_cmpR op_eq (pe_call GD hr1 rfl DD.mgf DD.fn.kp DD.b .nil pass0 (pa_cons (pv 3) (pa_cons pe_int pa_nil))) pe_int (nomark _)))))) (fun _ _ _=>pv 0))
    (pss_one (ps_expr (pe_bm PySem.F.plainAttrs_list PySem.F.slot_list_append PySem.F.type_list_append mt_append (pv 4) (pa_cons (pe_tup (pa_cons (pe_callTy call_tuple_of (by rfl) T.tuple PyProof.Rows.boot_tuple (pa_cons (pe_slice sl_list (pe_callB call_sorted_txt (by rfl) T.sorted boot_sorted (pa_cons (pv 7) pa_nil)) po_none (po_some pe_int)) pa_nil))
     (pa_cons (pe_op op_add pe_int (pe_call GD hr1 rfl DD.mgf DD.fn.kp DD.b .nil pass0 (pa_cons (pv 0) (pa_cons (pe_op op_sub (pe_op op_pow pe_int pe_int) pe_int) pa_nil)))) pa_nil))) pa_nil)))))))
   (pss_cons (ps_setL (i:=8) ["_law_cut","_law_times"] [] scLi.nd rfl rfl rfl (compSc (osc:=(defScope sLi).names) (N:=nLi) rfl rfl (by decide +kernel)) (gk_two (K:=K) (k:=2) (by decide) (by decide)) (pi_list (pv 4))
    (fun _ _ _=>pg_tup rfl (pgs_cons (pg_name (i:=0) (show (["_law_cut","_law_times"]:List Str).Nodup by decide +kernel) rfl (Or.inl rfl)) (pgs_cons (pg_name (i:=1) (show (["_law_cut","_law_times"]:List Str).Nodup by decide +kernel) rfl (Or.inl rfl)) pgs_nil))) (fun _ _ _=>pifs_nil)
    (fun _ _ _=>pe_bmK (K:=K) (r:=rJoT K) rfl PySem.F.plainAttrs_str PySem.F.slot_str_join PySem.F.type_str_join mt_joinT pe_str (pa_cons (pv 0) pa_nil)))
   (pss_cons (ps_if (pt_cmpR (op_ne_al 0 (low 0 hr)) (pe_lc ["_law_cut","_law_times"] [] rfl (compSc (osc:=(defScope sLi).names) (N:=nLi) rfl rfl (by decide +kernel)) (gk_two (K:=K) (k:=2) (by decide) (by decide)) (pi_list (pv 4))
    (fun _ _ _=>pg_tup rfl (pgs_cons (pg_name (i:=0) (show (["_law_cut","_law_times"]:List Str).Nodup by decide +kernel) rfl (Or.inl rfl)) (pgs_cons (pg_name (i:=1) (show (["_law_cut","_law_times"]:List Str).Nodup by decide +kernel) rfl (Or.inl rfl)) pgs_nil))) (fun _ _ _=>pifs_nil)
    (fun _ _ _=>pe_call GSC hr1 rfl DSC.mgf DSC.fn.kp DSC.b .nil pass0 (pa_cons (pv 0) pa_nil))) (pv 8) (nomark _)) (pss_one (ps_ret pe_bl)) pss_nil)
   (pss_cons (ps_if (pt_cmpR (op_eq_nil (low 0 hr)) (pv 4) (pe_lst pa_nil) (nomark _)) (pss_one (ps_ret (pe_cmpR op_eq (pe_call GSCs hr rfl DSCs.mgf DSCs.fn.kp DSCs.b .nil pass0 (pa_cons (pv 4) pa_nil)) pe_str (nomark _)))) pss_nil)
   (pss_cons (ps_set (i:=9) scLi.nd rfl (Or.inl rfl) (pe_bm PySem.F.plainAttrs_str PySem.F.slot_str_join PySem.F.type_str_join mt_join pe_str (pa_cons
    (pe_lc ["_law_word","_law_one"] [] rfl (compSc (osc:=(defScope sLi).names) (N:=nLi) rfl rfl (by decide +kernel)) (gk_two (K:=K) (k:=2) (by decide) (by decide)) (pi_zip rfl hz (pa_cons (pv 8) (pa_cons (pv 4) pa_nil)))
     (fun _ _ _=>pg_tup rfl (pgs_cons (pg_name (i:=0) (show (["_law_word","_law_one"]:List Str).Nodup by decide +kernel) rfl (Or.inl rfl)) (pgs_cons (pg_name (i:=1) (show (["_law_word","_law_one"]:List Str).Nodup by decide +kernel) rfl (Or.inl rfl)) pgs_nil))) (fun _ _ _=>pifs_nil)
     (fun _ _ _=>pe_op op_add_str (pe_op op_add_str (pv 0) pe_str) (pe_callTy (r:=rStrI) call_str_int (by rfl) T.str PyProof.Rows.boot_str (pa_cons (pe_ix (r:=rIxT K) ix_tup (pv 1) pe_int (fun _ _=>rfl)) pa_nil)))) pa_nil)))
   (pss_one (ps_ret (pe_and (pe_cmpR op_eq (pe_call GSCs hr rfl DSCs.mgf DSCs.fn.kp DSCs.b .nil pass0 (pa_cons
     (pe_lc ["_law_cut","_law_times"] [] rfl (compSc (osc:=(defScope sLi).names) (N:=nLi) rfl rfl (by decide +kernel)) (gk_two (K:=K) (k:=2) (by decide) (by decide)) (pi_list (pv 4))
      (fun _ _ _=>pg_tup rfl (pgs_cons (pg_name (i:=0) (show (["_law_cut","_law_times"]:List Str).Nodup by decide +kernel) rfl (Or.inl rfl)) (pgs_cons (pg_name (i:=1) (show (["_law_cut","_law_times"]:List Str).Nodup by decide +kernel) rfl (Or.inl rfl)) pgs_nil))) (fun _ _ _=>pifs_nil)
      (fun _ _ _=>pv 0)) pa_nil)) (pe_bm PySem.F.plainAttrs_str PySem.F.slot_str_join PySem.F.type_str_join mt_join pe_str (pa_cons (pv 8) pa_nil)) (nomark _))
    (pe_one (pe_cmpR op_eq (pe_call GSCs hr rfl DSCs.mgf DSCs.fn.kp DSCs.b .nil pass0 (pa_cons (pv 4) pa_nil)) (pv 9) (nomark _)))))))))))))),?_⟩
  have big:20002<=sizeLine:=by decide
  refine ⟨30,rfl,by omega,by decide,lc_range (fun i ys H2=>∃ ks:List Int,ys=ks.map V.int/\ks.length<=i/\(∀ x∈ks,0<=x/\x < 10 ^ 13)/\Row H2 p/\But p H H2) ⟨[],rfl,Nat.le_refl _,(fun _ h=>nomatch h),row,But.refl p H⟩ ?_ ?_ ?_⟩
  ·rintro i ys H2 hi ⟨ks,rfl,lk,_⟩
   rw [List.length_map]
   have:i<=30:=by simpa using hi
   omega
  ·rintro i ys H2 R hi ⟨ks,rfl,lk,bk,row2,b2⟩ kR
   have hi':i < 30:=by simpa using hi
   simp only [gName]
   refine ⟨_,rfl,p,_,rfl,row2,by decide,by decide,fun d H3 _ _ row3 b3=>⟨rfl,_,rfl,?_⟩⟩
   refine ite2 (fun _=>⟨_,rfl,kR _ _ ⟨ks++[(0+i:Int)],by simp,by simp;omega,fun x hx=>?_,row3,b2.trans b3⟩⟩) (fun _=>kR _ _ ⟨ks,rfl,by omega,bk,row3,b2.trans b3⟩)
   rcases List.mem_append.mp hx with h | h
   ·exact bk x h
   ·rw [List.mem_singleton.mp h];omega
  rintro ys H2 ⟨ks,rfl,lk,bk,row2,b2⟩ D hD
  have lk':ks.length<=30:=by simpa using lk
  have s3:=same_upd (o:=.lst (ks.map V.int)) hD
  have hD3:=upd_same (H:=H2) (a:=D) (o:=.lst (ks.map V.int))
  have row3:=row_same row2 s3
  have b3:=but_same b2 s3
  generalize upd H2 D (.lst (ks.map V.int))=H3 at s3 hD3 row3 b3 ⊢
  refine ⟨rfl,_,rfl,D,rfl,⟨_,SqL.of hD3⟩,lc_list (K:=K) (xs:=ks.map V.int) (fun i ys H4=>H4=H3/\ys=((ks.take i).map txt).map V.str) ⟨rfl,rfl⟩ ?_ ?_ ?_ ?_⟩
  ·rintro i ys H4 _ ⟨_,rfl⟩
   rw [List.length_map,List.length_map,List.length_take]
   omega
  ·rintro i ys H4 _ ⟨rfl,_⟩
   exact SqL.of hD3
  ·rintro i v ys H4 R hv ⟨rfl,rfl⟩ kR
   rw [List.getElem?_map] at hv
   obtain ⟨j,ej,rfl⟩:=Option.map_eq_some_iff.mp hv
   have hj:=bk j (List.mem_of_getElem? ej)
   simp only [tYes,gName,if_true]
   refine ⟨_,rfl,j,rfl,log_small hj.1 hj.2,kR _ _ ⟨rfl,?_⟩⟩
   rw [List.take_add_one,ej]
   simp
   rfl
  rintro ys H4 ⟨rfl,rfl⟩ D2 hD2
  rw [List.length_map,List.take_of_length_le (Nat.le_refl _)]
  have ft:=fits_ints bk (show ks.length<=100 by omega)
  have s4:=same_upd (o:=.lst ((ks.map txt).map V.str)) hD2
  have h42:=upd_same (H:=H4) (a:=D2) (o:=.lst ((ks.map txt).map V.str))
  have hD4:=s4 _ _ hD3
  have row4:=row_same row3 s4
  have b4:=but_same b3 s4
  generalize upd H4 D2 (.lst ((ks.map txt).map V.str))=H5 at s4 h42 hD4 row4 b4 ⊢
  have e1:bl1.length=1:=by decide +kernel
  have ft':=ft
  unfold Fits at ft'
  have jl:=join_le bl1 (ks.map txt)
  rw [e1,Nat.mul_one] at jl
  have big2:200000<=sizeLine:=by decide
  refine ⟨bl1,D2,ks.map txt,rfl,rfl,SqL.of h42,by rw [e1];omega,?_⟩
  refine ⟨_,rfl,D,ks,rfl,SqL.of hD4,bk,by omega,fun H6 s6=>?_⟩
  refine ⟨_,rfl,_,rfl,by show 0<=_;omega,fun n0 hn0=>?_⟩
  have s7:=same_upd (o:=.lst []) hn0
  refine ⟨D,n0,_,rfl,rfl,SqL.of (s7 _ _ (s6 _ _ hD4)),SqL.of upd_same,.inr ⟨_,rfl,_,rfl,mn1,rfl,by decide,_,_,rfl,rfl,?_,rfl,_,rfl,?_⟩⟩
  ·have:=Txt.slice_le mn1 none (some (if (if false=true then !decide (ks.map V.int=[]) else decide (ks.map V.int=[]))=true then 1 else 0))
   have e2:mn1.length=1:=by decide +kernel
   omega
  simp only [Bool.false_eq_true,if_false]
  rw [row_eq (zs:=ks.map txt) (xs:=ks.map V.int) (by cases ks<;>simp),decide_eq_true rfl]
  have s57:=s6.trans s7
  have row7:=row_same row4 s57
  have b7:=but_same b4 s57
  generalize upd H6 n0 (.lst [])=H7 at s7 s57 row7 b7 ⊢
  refine iteF ?_
  refine ⟨by show 0<=_;omega,fun lc nlc=>?_⟩
  have s8:=same_upd (o:=.lst []) nlc
  have hc8:=upd_same (H:=H7) (a:=lc) (o:=.lst [])
  have row8:=row_same row7 s8
  have b8:=but_same b7 s8
  have nlcp:lc≠p:=fun z=>by
   obtain ⟨a,b,e⟩:=row7
   rw [<- z,nlc] at e
   cases e
  have apart:∀ c o,H c=some o->c≠p->c≠lc:=fun c o e n=>ne_of_none (b7 _ _ e n) nlc
  change tSeq _ _ _ _ (upd H7 lc (.lst []))
  generalize upd H7 lc (.lst [])=H8 at s8 hc8 row8 b8 ⊢
  refine ⟨_,rfl,p,_,rfl,row8,by decide,by decide,fun d H9 d0 d1 row9 b9=>?_⟩
  have hc9:=b9 _ _ hc8 nlcp
  refine ⟨d,rfl,by omega,by omega,for_range (fun j σ H10=>∃ v5 v6 v7 v8 v9 qs,σ=[some (.ref p),some (.ref la),some (.ref D),some (.str (Txt.join bl1 (ks.map txt))),some (.ref lc),v5,v6,v7,v8,v9]/\Row H10 p/\But p H H10/\H10 lc=some (.lst (qs.map fun q:Addr × Addr × List Str × Int=>V.ref q.1))/\(∀ q∈qs,CuE H10 q)/\qs.length<=j) ⟨_,_,_,_,_,[],rfl,row9,b8.trans b9,hc9,(fun _ h=>nomatch h),Nat.le_refl _⟩ ?_ ?_⟩
  ·rintro j σ H10 hj ⟨v5,v6,v7,v8,v9,qs,rfl,row10,b10,hc10,hq10,lq⟩
   have hla10:=b10 _ _ hla nlap
   refine ⟨_,rfl,_,rfl,la,_,rfl,.inl (SqL.of hla10),p,_,rfl,row10,by rw [List.length_map];have:=g.one;omega,by rw [List.length_map];have:=g.few;omega,fun a1 H11 q1 q2 row11 b11=>?_⟩
   obtain ⟨m,rfl⟩:=Int.eq_ofNat_of_zero_le q1
   rw [List.length_map] at q2
   have hm:m < ns.length:=by omega
   have hla11:=b11 _ _ hla10 nlap
   have hc11:=b11 _ _ hc10 nlcp
   have tk11:=TK.but b11 row10
   refine ⟨_,rfl,la,rfl,⟨_,SqL.of hla11⟩,lc_list (K:=K) (xs:=ns.map V.str) (fun i ys H12=>∃ zs:List Str,ys=zs.map V.str/\(∀ z∈zs,z∈ns)/\zs.length<=i/\(m < i->zs≠[])/\Row H12 p/\But p H11 H12/\TK H11 H12) ⟨[],rfl,(fun _ h=>nomatch h),Nat.le_refl _,(fun h=>absurd h (Nat.not_lt_zero _)),row11,But.refl p _,TK.same (Same.refl _)⟩ ?_ ?_ ?_ ?_⟩
   ·rintro i ys H12 hi ⟨zs,rfl,_,lz,_⟩
    rw [List.length_map] at hi ⊢
    have:=g.few
    omega
   ·rintro i ys H12 _ ⟨zs,rfl,_,_,_,_,b12,_⟩
    exact SqL.of (b12 _ _ hla11 nlap)
   ·rintro i v ys H12 R hv ⟨zs,rfl,iz,lz,nz,row12,b12,tk12⟩ kR
    rw [List.getElem?_map] at hv
    obtain ⟨z,ez,rfl⟩:=Option.map_eq_some_iff.mp hv
    have hz:=List.mem_of_getElem? ez
    have hla12:=b12 _ _ hla11 nlap
    have fin:∀ {H'},Row H' p->But p H11 H'->TK H11 H'->R (zs.map V.str++[.str z]) H':=fun r b tk=>kR _ _ ⟨zs++[z],by simp,(fun x hx=>(List.mem_append.mp hx).elim (iz x) fun h=>by rw [List.mem_singleton.mp h];exact hz),by simp;omega,(fun _=>by simp),r,b,tk⟩
    simp only [gName]
    refine ⟨_,rfl,_,rfl,_,rfl,la,_,m,.str ns[m],rfl,rfl,SqL.of hla12,atI_nat (by simp [hm]),rfl,_,rfl,?_⟩
    by_cases e:z=ns[m]
    ·rw [show decide (V.str z=V.str ns[m])=true from decide_eq_true (by rw [e])]
     exact iteT (iteT ⟨_,rfl,fin row12 b12 tk12⟩)
    ·rw [show decide (V.str z=V.str ns[m])=false from decide_eq_false fun h=>e (V.str.inj h)]
     refine iteF ⟨_,rfl,p,_,rfl,row12,by decide,by decide,fun d2 H13 _ _ row13 b13=>⟨rfl,_,rfl,?_⟩⟩
     have tk13:=tk12.trans (TK.but b13 row12)
     refine ite2 (fun _=>⟨_,rfl,fin row13 (b12.trans b13) tk13⟩) (fun _=>kR _ _ ⟨zs,rfl,iz,by omega,fun h=>nz ?_,row13,b12.trans b13,tk13⟩)
     rcases Nat.lt_or_ge m i with q | q
     ·exact q
     ·exfalso
      have:m=i:=by omega
      subst this
      rw [List.getElem?_eq_getElem hm] at ez
      exact e (Option.some.inj ez).symm
   rintro ys H12 ⟨zs,rfl,iz,lz,nz,row12,b12,tk12⟩ lS hlS
   rw [List.length_map] at lz nz
   have nz:=nz hm
   have few:=g.few
   have s13:=same_upd (o:=.lst (zs.map V.str)) hlS
   have hS13:=upd_same (H:=H12) (a:=lS) (o:=.lst (zs.map V.str))
   have row13:=row_same row12 s13
   have b13:=but_same b12 s13
   have tk13:=tk12.trans (TK.same s13)
   generalize upd H12 lS (.lst (zs.map V.str))=H13 at s13 hS13 row13 b13 tk13 ⊢
   have hc13:=b13 _ _ hc11 nlcp
   refine ⟨_,rfl,.inl ⟨rfl,_,SqL.of hc13⟩,_,rfl,lS,zs,rfl,SqL.of hS13,by omega,fun l1 n1=>?_⟩
   have t1:=same_upd (o:=.lst ((srt zs).map V.str)) n1
   refine ⟨11,rfl,l1,_,rfl,SqL.of upd_same,fun l2 n2=>?_⟩
   rw [show (some (11:Int))=some ((11:Nat):Int) from rfl,cutS_take]
   have t2:=same_upd (o:=.lst (((srt zs).take 11).map V.str)) n2
   refine ⟨l2,_,rfl,.inl ⟨SqL.of upd_same,fun ct nct=>?_⟩⟩
   have t3:=same_upd (o:=.tup (((srt zs).take 11).map V.str)) nct
   have hct:=upd_same (H:=upd (upd H13 l1 (.lst ((srt zs).map V.str))) l2 (.lst (((srt zs).take 11).map V.str))) (a:=ct) (o:=.tup (((srt zs).take 11).map V.str))
   have t13:=t1.trans (t2.trans t3)
   generalize upd (upd (upd H13 l1 (.lst ((srt zs).map V.str))) l2 (.lst (((srt zs).take 11).map V.str))) ct (.tup (((srt zs).take 11).map V.str))=H14 at t13 hct ⊢
   have row14:=row_same row13 t13
   refine ⟨_,rfl,_,_,rfl,rfl,⟨by decide,by decide,by decide⟩,_,_,rfl,rfl,p,_,rfl,row14,by decide,by decide,fun d2 H15 e0 e1 row15 b15=>?_⟩
   have e1':d2 < 10 ^ 12:=Int.lt_of_lt_of_le e1 (by decide)
   have tk15:=tk13.trans ((TK.same t13).trans (TK.but b15 row14))
   have hct15:=TK.but b15 row14 _ _ hct
   have hc15:=b15 _ _ (t13 _ _ hc13) nlcp
   refine ⟨_,_,rfl,rfl,by show 2<=_;omega,fun ut nut=>?_⟩
   have t16:=same_upd (o:=.tup [.ref ct,.int (1+d2)]) nut
   have hut:=upd_same (H:=H15) (a:=ut) (o:=.tup [.ref ct,.int (1+d2)])
   have hct16:=t16 _ _ hct15
   have hc16:=t16 _ _ hc15
   have row16:=row_same row15 t16
   have tk16:=tk15.trans (TK.same t16)
   have b16:But p H _:=b10.trans (b11.trans (b13.trans (but_same (but_same (But.refl p _) t13) (Same.refl _) |>.trans (but_same b15 t16))))
   generalize upd H15 ut (.tup [.ref ct,.int (1+d2)])=H16 at t16 hut hct16 hc16 row16 tk16 b16 ⊢
   refine ⟨lc,_,_,rfl,rfl,hc16,by rw [List.length_map];exact small1000 (by omega),?_⟩
   have tk17:TK H16 (upd H16 lc (.lst ((qs.map fun q:Addr × Addr × List Str × Int=>V.ref q.1)++[.ref ut]))):=TK.upd hc16
   refine ⟨_,_,_,_,_,qs++[(ut,ct,(srt zs).take 11,1+d2)],rfl,?_,fun c o e n=>?_,by rw [upd_same];simp,fun q hq=>?_,by simp;omega⟩
   ·obtain ⟨x,y,e⟩:=row16
    exact ⟨x,y,by rw [upd_ne (Ne.symm nlcp)];exact e⟩
   ·rw [upd_ne (apart c o e n)]
    exact b16 c o e n
   ·rcases List.mem_append.mp hq with h | h
    ·exact ((hq10 q h).keep (tk11.trans tk16)).keep tk17
    ·rw [List.mem_singleton.mp h]
     refine ⟨tk17 _ _ hut,tk17 _ _ hct16,?_,fun z hz=>?_,?_,by show 0<=1+d2;omega,by show 1+d2 < 10 ^ 13;omega⟩
     ·intro e
      have e':(srt zs).take 11=[]:=e
      have:((srt zs).take 11).length=0:=by rw [e'];rfl
      rw [List.length_take,srt_len] at this
      have:zs.length=0:=by omega
      exact nz (List.eq_nil_of_length_eq_zero this)
     ·have hz':z∈(srt zs).take 11:=hz
      exact nm_len (g.nms z (iz z (srt_mem.mp (List.mem_of_mem_take hz'))))
     ·show ((srt zs).take 11).length<=11
      rw [List.length_take]
      omega
  rintro σ H10 ⟨v5,v6,v7,v8,v9,qs,rfl,row10,b10,hc10,hq10,lq⟩
  have lq':qs.length<=7:=by omega
  have sums:∀ q∈qs,(q.2.2.1.map (·.length)).sum+q.2.2.1.length<=99:=fun q hq=>by
   have h:=hq10 q hq
   have:=sum_le (b:=8) (l:=q.2.2.1) h.le
   have:=h.few
   omega
  have ep:pl1.length=1:=by decide +kernel
  refine ⟨_,rfl,lc,rfl,⟨_,SqL.of hc10⟩,lc_list (K:=K) (xs:=qs.map fun q:Addr × Addr × List Str × Int=>V.ref q.1) (fun i ys H11=>H11=H10/\ys=((qs.take i).map fun q=>Txt.join pl1 q.2.2.1).map V.str) ⟨rfl,rfl⟩ ?_ ?_ ?_ ?_⟩
  ·rintro i ys H11 _ ⟨_,rfl⟩
   rw [List.length_map,List.length_map,List.length_take]
   omega
  ·rintro i ys H11 _ ⟨rfl,_⟩
   exact SqL.of hc10
  ·rintro i v ys H11 R hv ⟨rfl,rfl⟩ kR
   rw [List.getElem?_map] at hv
   obtain ⟨q,eq,rfl⟩:=Option.map_eq_some_iff.mp hv
   have hq:=hq10 q (List.mem_of_getElem? eq)
   have hs:=sums q (List.mem_of_getElem? eq)
   refine ⟨q.1,_,rfl,SqT.of hq.u,rfl,_,_,rfl,_,_,rfl,rfl,?_⟩
   simp only [tYes,if_true]
   refine ⟨rfl,_,rfl,pl1,q.2.1,q.2.2.1,rfl,rfl,SqT.of hq.c,by rw [ep];omega,kR _ _ ⟨rfl,?_⟩⟩
   rw [List.take_add_one,eq]
   simp
  rintro ys H11 ⟨rfl,rfl⟩ lw nlw
  rw [List.length_map,List.take_of_length_le (Nat.le_refl _)]
  have s12:=same_upd (o:=.lst ((qs.map fun q=>Txt.join pl1 q.2.2.1).map V.str)) nlw
  have hw12:=upd_same (H:=H11) (a:=lw) (o:=.lst ((qs.map fun q=>Txt.join pl1 q.2.2.1).map V.str))
  have hc12:=s12 _ _ hc10
  have row12:=row_same row10 s12
  have b12:=but_same b10 s12
  have hq12:∀ q∈qs,CuE _ q:=fun q hq=>(hq10 q hq).keep (TK.same s12)
  generalize upd H11 lw (.lst ((qs.map fun q=>Txt.join pl1 q.2.2.1).map V.str))=H12 at s12 hw12 hc12 row12 b12 hq12 ⊢
  refine ⟨_,rfl,lc,rfl,⟨_,SqL.of hc12⟩,lc_list (K:=K) (xs:=qs.map fun q:Addr × Addr × List Str × Int=>V.ref q.1) (fun i ys H13=>H13=H12/\ys=((qs.take i).map fun q=>Txt.join pl1 q.2.2.1).map V.str) ⟨rfl,rfl⟩ ?_ ?_ ?_ ?_⟩
  ·rintro i ys H13 _ ⟨_,rfl⟩
   rw [List.length_map,List.length_map,List.length_take]
   omega
  ·rintro i ys H13 _ ⟨rfl,_⟩
   exact SqL.of hc12
  ·rintro i v ys H13 R hv ⟨rfl,rfl⟩ kR
   rw [List.getElem?_map] at hv
   obtain ⟨q,eq,rfl⟩:=Option.map_eq_some_iff.mp hv
   have hq:=hq12 q (List.mem_of_getElem? eq)
   have hs:=sums q (List.mem_of_getElem? eq)
   refine ⟨q.1,_,rfl,SqT.of hq.u,rfl,_,_,rfl,_,_,rfl,rfl,?_⟩
   simp only [tYes,if_true]
   refine ⟨_,rfl,q.2.1,q.2.2.1,rfl,SqT.of hq.c,by unfold Fits;omega,kR _ _ ⟨rfl,?_⟩⟩
   rw [List.take_add_one,eq]
   simp
  rintro ys H13 ⟨rfl,rfl⟩ l2 n2
  rw [List.length_map,List.take_of_length_le (Nat.le_refl _)]
  have s14:=same_upd (o:=.lst ((qs.map fun q=>Txt.join pl1 q.2.2.1).map V.str)) n2
  refine ⟨_,rfl,al_strs (SqL.of upd_same) (SqL.of (s14 _ _ hw12)),_,rfl,iteF ?_⟩
  have hw14:=s14 _ _ hw12
  have hc14:=s14 _ _ hc12
  have row14:=row_same row12 s14
  have b14:=but_same b12 s14
  have hq14:∀ q∈qs,CuE _ q:=fun q hq=>(hq12 q hq).keep (TK.same s14)
  generalize upd H13 l2 (.lst ((qs.map fun q=>Txt.join pl1 q.2.2.1).map V.str))=H14 at s14 hw14 hc14 row14 b14 hq14 ⊢
  refine ⟨_,rfl,by show 0<=_;omega,fun n3 hn3=>?_⟩
  have s15:=same_upd (o:=.lst []) hn3
  refine ⟨lc,n3,_,rfl,rfl,SqL.of (s15 _ _ hc14),SqL.of upd_same,_,rfl,?_⟩
  simp only [Bool.false_eq_true,if_false]
  have hw15:=s15 _ _ hw14
  have hc15:=s15 _ _ hc14
  have row15:=row_same row14 s15
  have b15:=but_same b14 s15
  have hq15:∀ q∈qs,CuE _ q:=fun q hq=>(hq14 q hq).keep (TK.same s15)
  generalize upd H14 n3 (.lst [])=H15 at s15 hw15 hc15 row15 b15 hq15 ⊢
  by_cases e0:qs=[]
  ·subst e0
   rw [decide_eq_true (by rfl)]
   refine iteT ⟨_,rfl,lc,[],rfl,hc15,(fun _ h=>nomatch h),by simp,by unfold Fits;simp,fun H16 s16=>⟨rfl,?_⟩⟩
   rw [show decide (V.str (inRow (([]:List (Addr × Str)).map (·.2)))=V.str (Str.ofString "-"))=true from decide_eq_true rfl]
   exact k _ (row_same row15 s16) (but_same b15 s16)
  rw [decide_eq_false (by simpa using e0)]
  refine iteF ?_
  have tl:∀ q∈qs,(txt q.2.2.2).length<=100:=fun q hq=>Nat.le_trans (txt_len (hq15 q hq).lo (hq15 q hq).hi) (by decide)
  have wl:∀ q∈qs,(Txt.join pl1 q.2.2.1).length<=99:=fun q hq=>by
   have:=join_le pl1 q.2.2.1
   rw [ep,Nat.mul_one] at this
   exact Nat.le_trans this (sums q hq)
  have es:st1.length=1:=by decide +kernel
  refine ⟨rfl,_,rfl,_,rfl,lw,lc,rfl,⟨_,SqL.of hw15⟩,⟨_,SqL.of hc15⟩,lc_zip (K:=K) (xs:=(qs.map fun q=>Txt.join pl1 q.2.2.1).map V.str) (zs:=qs.map fun q:Addr × Addr × List Str × Int=>V.ref q.1) (by simp) (fun i ys H16=>Same H15 H16/\ys=((qs.take i).map fun q=>Txt.join pl1 q.2.2.1++st1++txt q.2.2.2).map V.str) ⟨Same.refl _,rfl⟩ ?_ ?_ ?_ ?_⟩
  ·rintro i ys H16 _ ⟨_,rfl⟩
   rw [List.length_map,List.length_map,List.length_take]
   omega
  ·rintro i ys H16 _ ⟨s16,_⟩
   exact ⟨SqL.of (s16 _ _ hw15),SqL.of (s16 _ _ hc15)⟩
  ·rintro i x y ys H16 q2 R hx hy ⟨s16,rfl⟩ nq2 kR
   rw [List.getElem?_map,List.getElem?_map] at hx
   rw [List.getElem?_map] at hy
   obtain ⟨q,eq,rfl⟩:=Option.map_eq_some_iff.mp hy
   rw [eq] at hx
   cases hx
   have hm:=List.mem_of_getElem? eq
   have hq:=hq15 q hm
   have a1:=tl q hm
   have a2:=wl q hm
   have sq2:=same_upd (o:=.tup [.str (Txt.join pl1 q.2.2.1),.ref q.1]) nq2
   refine ⟨q2,_,rfl,SqT.of upd_same,rfl,_,_,rfl,_,_,rfl,rfl,?_⟩
   simp only [tYes,if_true]
   refine ⟨_,rfl,_,_,rfl,rfl,by show _+st1.length<=_;omega,_,rfl,q.1,_,1,.int q.2.2.2,rfl,rfl,SqT.of (sq2 _ _ (s16 _ _ hq.u)),atI_nat (j:=1) rfl,q.2.2.2,rfl,log_small hq.lo hq.hi,_,_,rfl,rfl,by rw [app_len];show _+st1.length+(txt q.2.2.2).length<=_;omega,kR _ _ ⟨s16.trans sq2,?_⟩⟩
   rw [List.take_add_one,eq]
   simp
   rfl
  rintro ys H16 ⟨s16,rfl⟩ lo nlo
  rw [List.length_map,List.length_map,List.take_of_length_le (Nat.le_refl _)]
  have s17:=s16.trans (same_upd (o:=.lst ((qs.map fun q=>Txt.join pl1 q.2.2.1++st1++txt q.2.2.2).map V.str)) nlo)
  have ho17:=upd_same (H:=H16) (a:=lo) (o:=.lst ((qs.map fun q=>Txt.join pl1 q.2.2.1++st1++txt q.2.2.2).map V.str))
  have hw17:=s17 _ _ hw15
  have hc17:=s17 _ _ hc15
  have row17:=row_same row15 s17
  have b17:=but_same b15 s17
  have hq17:∀ q∈qs,CuE _ q:=fun q hq=>(hq15 q hq).keep (TK.same s17)
  generalize upd H16 lo (.lst ((qs.map fun q=>Txt.join pl1 q.2.2.1++st1++txt q.2.2.2).map V.str))=H17 at s17 ho17 hw17 hc17 row17 b17 hq17 ⊢
  have so:=sum_le (b:=200) (l:=qs.map fun q=>Txt.join pl1 q.2.2.1++st1++txt q.2.2.2) fun x hx=>by
   obtain ⟨q,hq,rfl⟩:=List.mem_map.mp hx
   rw [app_len,app_len,es]
   have:=tl q hq
   have:=wl q hq
   omega
  have sw:=sum_le (b:=99) (l:=qs.map fun q=>Txt.join pl1 q.2.2.1) fun x hx=>by
   obtain ⟨q,hq,rfl⟩:=List.mem_map.mp hx
   exact wl q hq
  rw [List.length_map] at so sw
  refine ⟨bl1,lo,_,rfl,rfl,SqL.of ho17,by rw [e1,List.length_map];omega,?_⟩
  refine ⟨_,rfl,lc,rfl,⟨_,SqL.of hc17⟩,lc_list (K:=K) (xs:=qs.map fun q:Addr × Addr × List Str × Int=>V.ref q.1) (fun i ys H18=>H18=H17/\ys=(qs.take i).map fun q=>V.ref q.2.1) ⟨rfl,rfl⟩ ?_ ?_ ?_ ?_⟩
  ·rintro i ys H18 _ ⟨_,rfl⟩
   rw [List.length_map,List.length_take]
   omega
  ·rintro i ys H18 _ ⟨rfl,_⟩
   exact SqL.of hc17
  ·rintro i v ys H18 R hv ⟨rfl,rfl⟩ kR
   rw [List.getElem?_map] at hv
   obtain ⟨q,eq,rfl⟩:=Option.map_eq_some_iff.mp hv
   have hq:=hq17 q (List.mem_of_getElem? eq)
   refine ⟨q.1,_,rfl,SqT.of hq.u,rfl,_,_,rfl,_,_,rfl,rfl,?_⟩
   simp only [tYes,if_true]
   refine ⟨_,rfl,kR _ _ ⟨rfl,?_⟩⟩
   rw [List.take_add_one,eq]
   simp
  rintro ys H18 ⟨rfl,rfl⟩ l5 n5
  rw [List.length_map,List.take_of_length_le (Nat.le_refl _)]
  have s19:=same_upd (o:=.lst (qs.map fun q=>V.ref q.2.1)) n5
  have h19:=upd_same (H:=H18) (a:=l5) (o:=.lst (qs.map fun q=>V.ref q.2.1))
  have ms1:(qs.map fun q=>(q.2.1,Txt.join pl1 q.2.2.1)).map (·.2)=qs.map fun q=>Txt.join pl1 q.2.2.1:=by rw [List.map_map];rfl
  have ms2:(qs.map fun q=>(q.1,Txt.join pl1 q.2.2.1++st1++txt q.2.2.2)).map (·.2)=qs.map fun q=>Txt.join pl1 q.2.2.1++st1++txt q.2.2.2:=by rw [List.map_map];rfl
  refine ⟨l5,qs.map fun q=>(q.2.1,Txt.join pl1 q.2.2.1),rfl,by rw [h19,List.map_map];rfl,fun x hx=>?_,by rw [List.length_map];omega,by rw [ms1];unfold Fits;rw [List.length_map];omega,fun H20 s20=>?_⟩
  ·obtain ⟨q,hq,rfl⟩:=List.mem_map.mp hx
   have h:=(hq17 q hq).keep (TK.same s19)
   have:=sums q hq
   exact .inl ⟨q.2.2.1,h.ne,SqT.of h.c,by unfold Fits;omega,rfl⟩
  rw [ms1]
  have s1920:=s19.trans s20
  refine ⟨rfl,_,rfl,bl1,lw,_,rfl,rfl,SqL.of (s1920 _ _ hw17),by rw [e1,List.length_map];omega,rfl,_,rfl,?_⟩
  have r1:∀ l:List Str,l≠[]->inRow l=Txt.join bl1 l:=fun l h=>by unfold inRow;rw [if_neg h]
  rw [r1 _ (by simpa using e0),decide_eq_true rfl]
  refine iteT ⟨_,rfl,lc,qs.map fun q=>(q.1,Txt.join pl1 q.2.2.1++st1++txt q.2.2.2),rfl,by rw [s1920 _ _ hc17,List.map_map];rfl,fun x hx=>?_,by rw [List.length_map];omega,by rw [ms2];unfold Fits;rw [List.length_map];omega,fun H21 s21=>?_⟩
  ·obtain ⟨q,hq,rfl⟩:=List.mem_map.mp hx
   have h:=(hq17 q hq).keep (TK.same s1920)
   have:=sums q hq
   exact .inr ⟨q.2.1,q.2.2.1,q.2.2.2,SqT.of h.u,h.c,by unfold Fits;omega,h.lo,h.hi,rfl⟩
  refine ⟨_,rfl,rfl,?_⟩
  rw [ms2,r1 _ (by simpa using e0),decide_eq_true rfl]
  exact k _ (row_same row17 (s1920.trans s21)) (but_same b17 (s1920.trans s21))
end
theorem all_mk {l:PySem.W.OpenLaw} {w:World} {K:PySem.W.Frag} {h:Heap} {mg:Str->Option Value} {fa:Addr} {C:Addr} {f1:Addr} {od1 an1:Option Addr} {sl1:Array (Option Value)} {oc1 kV1 dc1 pm1 cd1 ct1:Value} {f2:Addr} {od2 an2:Option Addr} {sl2:Array (Option Value)} {oc2 kV2 dc2 pm2 cd2 ct2:Value} {f3:Addr} {od3 an3:Option Addr} {sl3:Array (Option Value)} {oc3 kV3 dc3 pm3 cd3 ct3:Value} {f4:Addr} {od4 an4:Option Addr} {sl4:Array (Option Value)} {oc4 kV4 dc4 pm4 cd4 ct4:Value} {f5:Addr} {od5 an5:Option Addr} {sl5:Array (Option Value)} {oc5 kV5 dc5 pm5 cd5 ct5:Value} {f6:Addr} {od6 an6:Option Addr} {sl6:Array (Option Value)} {oc6 kV6 dc6 pm6 cd6 ct6:Value} {f7:Addr} {od7 an7:Option Addr} {sl7:Array (Option Value)} {oc7 kV7 dc7 pm7 cd7 ct7:Value} {f8:Addr} {od8 an8:Option Addr} {sl8:Array (Option Value)} {oc8 kV8 dc8 pm8 cd8 ct8:Value} {f9:Addr} {od9 an9:Option Addr} {sl9:Array (Option Value)} {oc9 kV9 dc9 pm9 cd9 ct9:Value} {f10:Addr} {od10 an10:Option Addr} {sl10:Array (Option Value)} {oc10 kV10 dc10 pm10 cd10 ct10:Value} {f11:Addr} {od11 an11:Option Addr} {sl11:Array (Option Value)} {oc11 kV11 dc11 pm11 cd11 ct11:Value} {f12:Addr} {od12 an12:Option Addr} {sl12:Array (Option Value)} {oc12 kV12 dc12 pm12 cd12 ct12:Value} {f13:Addr} {od13 an13:Option Addr} {sl13:Array (Option Value)} {oc13 kV13 dc13 pm13 cd13 ct13:Value} {f14:Addr} {od14 an14:Option Addr} {sl14:Array (Option Value)} {oc14 kV14 dc14 pm14 cd14 ct14:Value} {f15:Addr} {od15 an15:Option Addr} {sl15:Array (Option Value)} {oc15 kV15 dc15 pm15 cd15 ct15:Value} {f16:Addr} {od16 an16:Option Addr} {sl16:Array (Option Value)} {oc16 kV16 dc16 pm16 cd16 ct16:Value} {f17:Addr} {od17 an17:Option Addr} {sl17:Array (Option Value)} {oc17 kV17 dc17 pm17 cd17 ct17:Value} {f18:Addr} {od18 an18:Option Addr} {sl18:Array (Option Value)} {oc18 kV18 dc18 pm18 cd18 ct18:Value} {f19:Addr} {od19 an19:Option Addr} {sl19:Array (Option Value)} {oc19 kV19 dc19 pm19 cd19 ct19:Value} {f20:Addr} {od20 an20:Option Addr} {sl20:Array (Option Value)} {oc20 kV20 dc20 pm20 cd20 ct20:Value} {f21:Addr} {od21 an21:Option Addr} {sl21:Array (Option Value)} {oc21 kV21 dc21 pm21 cd21 ct21:Value} {f22:Addr} {od22 an22:Option Addr} {sl22:Array (Option Value)} {oc22 kV22 dc22 pm22 cd22 ct22:Value} {f23:Addr} {od23 an23:Option Addr} {sl23:Array (Option Value)} {oc23 kV23 dc23 pm23 cd23 ct23:Value} {f24:Addr} {od24 an24:Option Addr} {sl24:Array (Option Value)} {oc24 kV24 dc24 pm24 cd24 ct24:Value} {f25:Addr} {od25 an25:Option Addr} {sl25:Array (Option Value)} {oc25 kV25 dc25 pm25 cd25 ct25:Value} {f26:Addr} {od26 an26:Option Addr} {sl26:Array (Option Value)} {oc26 kV26 dc26 pm26 cd26 ct26:Value} {f27:Addr} {od27 an27:Option Addr} {sl27:Array (Option Value)} {oc27 kV27 dc27 pm27 cd27 ct27:Value} {f28:Addr} {od28 an28:Option Addr} {sl28:Array (Option Value)} {oc28 kV28 dc28 pm28 cd28 ct28:Value} {f29:Addr} {od29 an29:Option Addr} {sl29:Array (Option Value)} {oc29 kV29 dc29 pm29 cd29 ct29:Value} {f30:Addr} {od30 an30:Option Addr} {sl30:Array (Option Value)} {oc30 kV30 dc30 pm30 cd30 ct30:Value} {E0:Addr} {E1:Addr} {E2:Addr} {E3:Addr} {E6:Addr} {t_LONGEST:Tok} {t_MOST_PLACES:Tok} {t_MOST_TIES:Tok} (X:K.In h) (G:h.Ns mainGlobals mg) (hfa:mg "law" = some (.ref fa))
  (aC:W.nsIn K mainGlobals "Web" = some (some (.ref C)))
  (a1:W.findIn K (.ref C) "__init__" = some (some (.ref f1)))
  (i1:W.isFn K (.ref f1)=true)
  (l1:K.lookup f1=some ⟨oc1,od1,.func (PySem.W.fnOf "__init__" "Web.__init__" (defArgs sInit) (defBody sInit) (defScope sInit) .none kV1 dc1 pm1 an1 cd1 ct1),sl1⟩)
  (c1:W.codeIn K cd1 "Web.__init__" = true)
  (k1:W.keepIn K (.ref f1)=true)
  (a2:W.findIn K (.ref C) "places" = some (some (.ref f2)))
  (i2:W.isFn K (.ref f2)=true)
  (l2:K.lookup f2=some ⟨oc2,od2,.func (PySem.W.fnOf "places" "Web.places" (defArgs sPlaces) (defBody sPlaces) (defScope sPlaces) .none kV2 dc2 pm2 an2 cd2 ct2),sl2⟩)
  (c2:W.codeIn K cd2 "Web.places" = true)
  (k2:W.keepIn K (.ref f2)=true)
  (a3:W.findIn K (.ref C) "ties" = some (some (.ref f3)))
  (i3:W.isFn K (.ref f3)=true)
  (l3:K.lookup f3=some ⟨oc3,od3,.func (PySem.W.fnOf "ties" "Web.ties" (defArgs sTies) (defBody sTies) (defScope sTies) .none kV3 dc3 pm3 an3 cd3 ct3),sl3⟩)
  (c3:W.codeIn K cd3 "Web.ties" = true)
  (k3:W.keepIn K (.ref f3)=true)
  (pgC:W.plainGet K C Str.empty=true)
  (hdC:W.hasDictIn K C=true)
  (poC:W.plainOver K C=true)
  (saC:W.findIn K (.ref C) "__setattr__" = some (some (.builtin "object.__setattr__")))
  (mkC:W.makesIn K C=true)
  (kcC:W.keepIn K (.ref C)=true)
  (nAC0:W.findIn K (.ref C) "kept_places" = some none)
  (nAC1:W.findIn K (.ref C) "kept_ties" = some none)
  (a4:W.nsIn K mainGlobals "is_name" = some (some (.ref f4)))
  (l4:K.lookup f4=some ⟨oc4,od4,.func (PySem.W.fnOf "is_name" "is_name" (defArgs sName) (defBody sName) (defScope sName) .none kV4 dc4 pm4 an4 cd4 ct4),sl4⟩)
  (c4:W.codeIn K cd4 "is_name" = true)
  (k4:W.keepIn K (.ref f4)=true)
  (a5:W.nsIn K mainGlobals "check_places" = some (some (.ref f5)))
  (l5:K.lookup f5=some ⟨oc5,od5,.func (PySem.W.fnOf "check_places" "check_places" (defArgs sChkP) (defBody sChkP) (defScope sChkP) .none kV5 dc5 pm5 an5 cd5 ct5),sl5⟩)
  (c5:W.codeIn K cd5 "check_places" = true)
  (k5:W.keepIn K (.ref f5)=true)
  (a6:W.nsIn K mainGlobals "is_among" = some (some (.ref f6)))
  (l6:K.lookup f6=some ⟨oc6,od6,.func (PySem.W.fnOf "is_among" "is_among" (defArgs sAmong) (defBody sAmong) (defScope sAmong) .none kV6 dc6 pm6 an6 cd6 ct6),sl6⟩)
  (c6:W.codeIn K cd6 "is_among" = true)
  (k6:W.keepIn K (.ref f6)=true)
  (a7:W.nsIn K mainGlobals "is_tie" = some (some (.ref f7)))
  (l7:K.lookup f7=some ⟨oc7,od7,.func (PySem.W.fnOf "is_tie" "is_tie" (defArgs sTie) (defBody sTie) (defScope sTie) .none kV7 dc7 pm7 an7 cd7 ct7),sl7⟩)
  (c7:W.codeIn K cd7 "is_tie" = true)
  (k7:W.keepIn K (.ref f7)=true)
  (a8:W.nsIn K mainGlobals "check_ties" = some (some (.ref f8)))
  (l8:K.lookup f8=some ⟨oc8,od8,.func (PySem.W.fnOf "check_ties" "check_ties" (defArgs sChkT) (defBody sChkT) (defScope sChkT) .none kV8 dc8 pm8 an8 cd8 ct8),sl8⟩)
  (c8:W.codeIn K cd8 "check_ties" = true)
  (k8:W.keepIn K (.ref f8)=true)
  (a9:W.nsIn K mainGlobals "web_text" = some (some (.ref f9)))
  (l9:K.lookup f9=some ⟨oc9,od9,.func (PySem.W.fnOf "web_text" "web_text" (defArgs sWText) (defBody sWText) (defScope sWText) .none kV9 dc9 pm9 an9 cd9 ct9),sl9⟩)
  (c9:W.codeIn K cd9 "web_text" = true)
  (k9:W.keepIn K (.ref f9)=true)
  (a10:W.nsIn K mainGlobals "web_of_rows" = some (some (.ref f10)))
  (l10:K.lookup f10=some ⟨oc10,od10,.func (PySem.W.fnOf "web_of_rows" "web_of_rows" (defArgs sWRows) (defBody sWRows) (defScope sWRows) .none kV10 dc10 pm10 an10 cd10 ct10),sl10⟩)
  (c10:W.codeIn K cd10 "web_of_rows" = true)
  (k10:W.keepIn K (.ref f10)=true)
  (a11:W.nsIn K mainGlobals "read_web" = some (some (.ref f11)))
  (l11:K.lookup f11=some ⟨oc11,od11,.func (PySem.W.fnOf "read_web" "read_web" (defArgs sRead) (defBody sRead) (defScope sRead) .none kV11 dc11 pm11 an11 cd11 ct11),sl11⟩)
  (c11:W.codeIn K cd11 "read_web" = true)
  (k11:W.keepIn K (.ref f11)=true)
  (a12:W.nsIn K mainGlobals "in_a_row" = some (some (.ref f12)))
  (l12:K.lookup f12=some ⟨oc12,od12,.func (PySem.W.fnOf "in_a_row" "in_a_row" (defArgs sIR) (defBody sIR) (defScope sIR) .none kV12 dc12 pm12 an12 cd12 ct12),sl12⟩)
  (c12:W.codeIn K cd12 "in_a_row" = true)
  (k12:W.keepIn K (.ref f12)=true)
  (a13:W.nsIn K mainGlobals "show_ties" = some (some (.ref f13)))
  (l13:K.lookup f13=some ⟨oc13,od13,.func (PySem.W.fnOf "show_ties" "show_ties" (defArgs sSTi) (defBody sSTi) (defScope sSTi) .none kV13 dc13 pm13 an13 cd13 ct13),sl13⟩)
  (c13:W.codeIn K cd13 "show_ties" = true)
  (k13:W.keepIn K (.ref f13)=true)
  (a14:W.nsIn K mainGlobals "show_cut" = some (some (.ref f14)))
  (l14:K.lookup f14=some ⟨oc14,od14,.func (PySem.W.fnOf "show_cut" "show_cut" (defArgs sSC) (defBody sSC) (defScope sSC) .none kV14 dc14 pm14 an14 cd14 ct14),sl14⟩)
  (c14:W.codeIn K cd14 "show_cut" = true)
  (k14:W.keepIn K (.ref f14)=true)
  (a15:W.nsIn K mainGlobals "show_entry" = some (some (.ref f15)))
  (l15:K.lookup f15=some ⟨oc15,od15,.func (PySem.W.fnOf "show_entry" "show_entry" (defArgs sSE) (defBody sSE) (defScope sSE) .none kV15 dc15 pm15 an15 cd15 ct15),sl15⟩)
  (c15:W.codeIn K cd15 "show_entry" = true)
  (k15:W.keepIn K (.ref f15)=true)
  (a16:W.nsIn K mainGlobals "show_cuts" = some (some (.ref f16)))
  (l16:K.lookup f16=some ⟨oc16,od16,.func (PySem.W.fnOf "show_cuts" "show_cuts" (defArgs sSCs) (defBody sSCs) (defScope sSCs) .none kV16 dc16 pm16 an16 cd16 ct16),sl16⟩)
  (c16:W.codeIn K cd16 "show_cuts" = true)
  (k16:W.keepIn K (.ref f16)=true)
  (a17:W.nsIn K mainGlobals "show_web" = some (some (.ref f17)))
  (l17:K.lookup f17=some ⟨oc17,od17,.func (PySem.W.fnOf "show_web" "show_web" (defArgs sSW) (defBody sSW) (defScope sSW) .none kV17 dc17 pm17 an17 cd17 ct17),sl17⟩)
  (c17:W.codeIn K cd17 "show_web" = true)
  (k17:W.keepIn K (.ref f17)=true)
  (a18:W.nsIn K mainGlobals "read_row" = some (some (.ref f18)))
  (l18:K.lookup f18=some ⟨oc18,od18,.func (PySem.W.fnOf "read_row" "read_row" (defArgs sRR) (defBody sRR) (defScope sRR) .none kV18 dc18 pm18 an18 cd18 ct18),sl18⟩)
  (c18:W.codeIn K cd18 "read_row" = true)
  (k18:W.keepIn K (.ref f18)=true)
  (a19:W.nsIn K mainGlobals "_law_row_at" = some (some (.ref f19)))
  (l19:K.lookup f19=some ⟨oc19,od19,.func (PySem.W.fnOf "_law_row_at" "_law_row_at" (defArgs sRow) (defBody sRow) (defScope sRow) .none kV19 dc19 pm19 an19 cd19 ct19),sl19⟩)
  (c19:W.codeIn K cd19 "_law_row_at" = true)
  (k19:W.keepIn K (.ref f19)=true)
  (a20:W.nsIn K mainGlobals "_law_draw" = some (some (.ref f20)))
  (l20:K.lookup f20=some ⟨oc20,od20,.func (PySem.W.fnOf "_law_draw" "_law_draw" (defArgs sDraw) (defBody sDraw) (defScope sDraw) .none kV20 dc20 pm20 an20 cd20 ct20),sl20⟩)
  (c20:W.codeIn K cd20 "_law_draw" = true)
  (k20:W.keepIn K (.ref f20)=true)
  (a21:W.nsIn K mainGlobals "_law_name" = some (some (.ref f21)))
  (l21:K.lookup f21=some ⟨oc21,od21,.func (PySem.W.fnOf "_law_name" "_law_name" (defArgs sLName) (defBody sLName) (defScope sLName) .none kV21 dc21 pm21 an21 cd21 ct21),sl21⟩)
  (c21:W.codeIn K cd21 "_law_name" = true)
  (k21:W.keepIn K (.ref f21)=true)
  (a22:W.nsIn K mainGlobals "_law_web" = some (some (.ref f22)))
  (l22:K.lookup f22=some ⟨oc22,od22,.func (PySem.W.fnOf "_law_web" "_law_web" (defArgs sWeb) (defBody sWeb) (defScope sWeb) .none kV22 dc22 pm22 an22 cd22 ct22),sl22⟩)
  (c22:W.codeIn K cd22 "_law_web" = true)
  (k22:W.keepIn K (.ref f22)=true)
  (a23:W.nsIn K mainGlobals "_law_written" = some (some (.ref f23)))
  (l23:K.lookup f23=some ⟨oc23,od23,.func (PySem.W.fnOf "_law_written" "_law_written" (defArgs sWrit) (defBody sWrit) (defScope sWrit) .none kV23 dc23 pm23 an23 cd23 ct23),sl23⟩)
  (c23:W.codeIn K cd23 "_law_written" = true)
  (k23:W.keepIn K (.ref f23)=true)
  (a24:W.nsIn K mainGlobals "_law_is_name" = some (some (.ref f24)))
  (l24:K.lookup f24=some ⟨oc24,od24,.func (PySem.W.fnOf "_law_is_name" "_law_is_name" (defArgs sLNm) (defBody sLNm) (defScope sLNm) .none kV24 dc24 pm24 an24 cd24 ct24),sl24⟩)
  (c24:W.codeIn K cd24 "_law_is_name" = true)
  (k24:W.keepIn K (.ref f24)=true)
  (a25:W.nsIn K mainGlobals "_law_read" = some (some (.ref f25)))
  (l25:K.lookup f25=some ⟨oc25,od25,.func (PySem.W.fnOf "_law_read" "_law_read" (defArgs sLRd) (defBody sLRd) (defScope sLRd) .none kV25 dc25 pm25 an25 cd25 ct25),sl25⟩)
  (c25:W.codeIn K cd25 "_law_read" = true)
  (k25:W.keepIn K (.ref f25)=true)
  (a26:W.nsIn K mainGlobals "_law_spoilt" = some (some (.ref f26)))
  (l26:K.lookup f26=some ⟨oc26,od26,.func (PySem.W.fnOf "_law_spoilt" "_law_spoilt" (defArgs sSpo) (defBody sSpo) (defScope sSpo) .none kV26 dc26 pm26 an26 cd26 ct26),sl26⟩)
  (c26:W.codeIn K cd26 "_law_spoilt" = true)
  (k26:W.keepIn K (.ref f26)=true)
  (a27:W.nsIn K mainGlobals "_law_refused" = some (some (.ref f27)))
  (l27:K.lookup f27=some ⟨oc27,od27,.func (PySem.W.fnOf "_law_refused" "_law_refused" (defArgs sWhy) (defBody sWhy) (defScope sWhy) .none kV27 dc27 pm27 an27 cd27 ct27),sl27⟩)
  (c27:W.codeIn K cd27 "_law_refused" = true)
  (k27:W.keepIn K (.ref f27)=true)
  (a28:W.nsIn K mainGlobals "_law_read_right" = some (some (.ref f28)))
  (l28:K.lookup f28=some ⟨oc28,od28,.func (PySem.W.fnOf "_law_read_right" "_law_read_right" (defArgs sLRR) (defBody sLRR) (defScope sLRR) .none kV28 dc28 pm28 an28 cd28 ct28),sl28⟩)
  (c28:W.codeIn K cd28 "_law_read_right" = true)
  (k28:W.keepIn K (.ref f28)=true)
  (a29:W.nsIn K mainGlobals "_law_lists_right" = some (some (.ref f29)))
  (l29:K.lookup f29=some ⟨oc29,od29,.func (PySem.W.fnOf "_law_lists_right" "_law_lists_right" (defArgs sLi) (defBody sLi) (defScope sLi) .none kV29 dc29 pm29 an29 cd29 ct29),sl29⟩)
  (c29:W.codeIn K cd29 "_law_lists_right" = true)
  (k29:W.keepIn K (.ref f29)=true)
  (a30:W.nsIn K mainGlobals "law" = some (some (.ref f30)))
  (l30:K.lookup f30=some ⟨oc30,od30,.func (PySem.W.fnOf "law" "law" (defArgs sLaw) (defBody sLaw) (defScope sLaw) .none kV30 dc30 pm30 an30 cd30 ct30),sl30⟩)
  (c30:W.codeIn K cd30 "law" = true)
  (k30:W.keepIn K (.ref f30)=true)
  (xE0:W.nsIn K mainGlobals "WebError" = some (some (.ref E0)))
  (xE1:W.nsIn K mainGlobals "NoName" = some (some (.ref E1)))
  (xE2:W.nsIn K mainGlobals "NoRow" = some (some (.ref E2)))
  (xE3:W.nsIn K mainGlobals "NoWeb" = some (some (.ref E3)))
  (yE3:W.excIn K E3 [.type "ValueError",.type "Exception",.type "BaseException",.type "object"] "ValueError.__new__" = true)
  (zE3_0:W.isClsIn K E3=true)
  (zE3_1:W.mroIn K E3 (.type "object")=some true)
  (zE3_2:W.mroIn K E3 (.type "BaseException")=some true)
  (zE3_3:W.findIn K (.ref E3) "__getattribute__" = some (some (.builtin "BaseException.__getattribute__")))
  (zE3_4:W.findIn K (.ref E3) "__getattr__" = some none)
  (zE3_5:W.findIn K (.ref E3) "__class__" = some (some (.builtin "object.__class__")))
  (xE6:W.nsIn K mainGlobals "NoText" = some (some (.ref E6)))
  (yE6:W.excIn K E6 [.type "ValueError",.type "Exception",.type "BaseException",.type "object"] "ValueError.__new__" = true)
  (zE6_0:W.isClsIn K E6=true)
  (zE6_1:W.mroIn K E6 (.type "object")=some true)
  (zE6_2:W.mroIn K E6 (.type "BaseException")=some true)
  (zE6_3:W.findIn K (.ref E6) "__getattribute__" = some (some (.builtin "BaseException.__getattribute__")))
  (zE6_4:W.findIn K (.ref E6) "__getattr__" = some none)
  (zE6_5:W.findIn K (.ref E6) "__class__" = some (some (.builtin "object.__class__")))
  (g_divmod:W.nsIn K mainGlobals "divmod" = some none)
  (g_len:W.nsIn K mainGlobals "len" = some none)
  (g_all:W.nsIn K mainGlobals "all" = some none)
  (g_isinstance:W.nsIn K mainGlobals "isinstance" = some none)
  (g_str:W.nsIn K mainGlobals "str" = some none)
  (g_range:W.nsIn K mainGlobals "range" = some none)
  (g_max:W.nsIn K mainGlobals "max" = some none)
  (g_min:W.nsIn K mainGlobals "min" = some none)
  (g_bool:W.nsIn K mainGlobals "bool" = some none)
  (g_list:W.nsIn K mainGlobals "list" = some none)
  (g_int:W.nsIn K mainGlobals "int" = some none)
  (g_tuple:W.nsIn K mainGlobals "tuple" = some none)
  (g_set:W.nsIn K mainGlobals "set" = some none)
  (g_sorted:W.nsIn K mainGlobals "sorted" = some none)
  (g_ValueError:W.nsIn K mainGlobals "ValueError" = some none)
  (g_zip:W.nsIn K mainGlobals "zip" = some none)
  (g_LONGEST:W.nsIn K mainGlobals "LONGEST" = some (some (.int 8 t_LONGEST)))
  (g_MOST_PLACES:W.nsIn K mainGlobals "MOST_PLACES" = some (some (.int 12 t_MOST_PLACES)))
  (g_MOST_TIES:W.nsIn K mainGlobals "MOST_TIES" = some (some (.int 30 t_MOST_TIES)))
  (q1a:W.subIn K (.ref E0) (.type "BaseException")=some true)
  (q1b:W.kitOne K (.ref E6) (.ref E0)=some true)
  (q1c:(Value.ref E6 == Value.ref E0)=false)
  (q2:W.kitOne K (.ref E6) (.ref E6)=some true)
  (q3:W.kitOne K (.ref E6) (.type "ValueError")=some true)
  (q4:W.kitAny K (.ref E6) [.ref E1,.ref E2,.ref E3]=some false)
  (q5:W.exmOne K (.ref E3) (.ref E3)=some true)
  : ∃ fd:FuncData,(∀ (s:Shared) (v:Value),BindsTo s fd ⟨[v],[]⟩ [("_law_script",v)])/\∀ base:Heap,K.In base->base.Ns mainGlobals mg->FnOk l.prog w K mg base CX0 11 fa fd ["_law_script"] (spLaw K):=by
 have e:=hfa.symm.trans (PySem.W.mg_of X G a30)
 cases e
 have F_init:=fun_mk (st:=sInit) l1 c1 k1
 have B_init:=F_init.binds (ps:=["self","places","ties"]) fun _ _ _ _ _ _ us hl=>match us,hl with | [_,_,_],_=>rfl
 have Mm_init:Meth K C "__init__" f1:=⟨a1,i1,k1⟩
 have F_places:=fun_mk (st:=sPlaces) l2 c2 k2
 have B_places:=F_places.binds (ps:=["self"]) fun _ _ _ _ _ _ us hl=>match us,hl with | [_],_=>rfl
 have Mm_places:Meth K C "places" f2:=⟨a2,i2,k2⟩
 have F_ties:=fun_mk (st:=sTies) l3 c3 k3
 have B_ties:=F_ties.binds (ps:=["self"]) fun _ _ _ _ _ _ us hl=>match us,hl with | [_],_=>rfl
 have Mm_ties:Meth K C "ties" f3:=⟨a3,i3,k3⟩
 have W:WC K mg C:=⟨⟨pgC,hdC,poC,saC⟩,nAC0,nAC1,PySem.W.mg_of X G aC⟩
 have MkC:Mk K C f1:=⟨mkC,a1,i1,kcC⟩
 have F_name:=fun_mk (st:=sName) l4 c4 k4
 have B_name:=F_name.binds (ps:=["thing"]) fun _ _ _ _ _ _ us hl=>match us,hl with | [_],_=>rfl
 have D_name:Df K mg "is_name" sName ["thing"] f4 _:=⟨F_name,PySem.W.mg_of X G a4,B_name⟩
 have F_chkP:=fun_mk (st:=sChkP) l5 c5 k5
 have B_chkP:=F_chkP.binds (ps:=["places"]) fun _ _ _ _ _ _ us hl=>match us,hl with | [_],_=>rfl
 have D_chkP:Df K mg "check_places" sChkP ["places"] f5 _:=⟨F_chkP,PySem.W.mg_of X G a5,B_chkP⟩
 have F_among:=fun_mk (st:=sAmong) l6 c6 k6
 have B_among:=F_among.binds (ps:=["places","thing"]) fun _ _ _ _ _ _ us hl=>match us,hl with | [_,_],_=>rfl
 have D_among:Df K mg "is_among" sAmong ["places","thing"] f6 _:=⟨F_among,PySem.W.mg_of X G a6,B_among⟩
 have F_tie:=fun_mk (st:=sTie) l7 c7 k7
 have B_tie:=F_tie.binds (ps:=["places","thing"]) fun _ _ _ _ _ _ us hl=>match us,hl with | [_,_],_=>rfl
 have D_tie:Df K mg "is_tie" sTie ["places","thing"] f7 _:=⟨F_tie,PySem.W.mg_of X G a7,B_tie⟩
 have F_chkT:=fun_mk (st:=sChkT) l8 c8 k8
 have B_chkT:=F_chkT.binds (ps:=["places","ties"]) fun _ _ _ _ _ _ us hl=>match us,hl with | [_,_],_=>rfl
 have D_chkT:Df K mg "check_ties" sChkT ["places","ties"] f8 _:=⟨F_chkT,PySem.W.mg_of X G a8,B_chkT⟩
 have F_wtext:=fun_mk (st:=sWText) l9 c9 k9
 have B_wtext:=F_wtext.binds (ps:=["web"]) fun _ _ _ _ _ _ us hl=>match us,hl with | [_],_=>rfl
 have D_wtext:Df K mg "web_text" sWText ["web"] f9 _:=⟨F_wtext,PySem.W.mg_of X G a9,B_wtext⟩
 have F_wrows:=fun_mk (st:=sWRows) l10 c10 k10
 have B_wrows:=F_wrows.binds (ps:=["first","others"]) fun _ _ _ _ _ _ us hl=>match us,hl with | [_,_],_=>rfl
 have D_wrows:Df K mg "web_of_rows" sWRows ["first","others"] f10 _:=⟨F_wrows,PySem.W.mg_of X G a10,B_wrows⟩
 have F_read:=fun_mk (st:=sRead) l11 c11 k11
 have B_read:=F_read.binds (ps:=["text"]) fun _ _ _ _ _ _ us hl=>match us,hl with | [_],_=>rfl
 have D_read:Df K mg "read_web" sRead ["text"] f11 _:=⟨F_read,PySem.W.mg_of X G a11,B_read⟩
 have F_ir:=fun_mk (st:=sIR) l12 c12 k12
 have B_ir:=F_ir.binds (ps:=["words"]) fun _ _ _ _ _ _ us hl=>match us,hl with | [_],_=>rfl
 have D_ir:Df K mg "in_a_row" sIR ["words"] f12 _:=⟨F_ir,PySem.W.mg_of X G a12,B_ir⟩
 have F_sti:=fun_mk (st:=sSTi) l13 c13 k13
 have B_sti:=F_sti.binds (ps:=["ties"]) fun _ _ _ _ _ _ us hl=>match us,hl with | [_],_=>rfl
 have D_sti:Df K mg "show_ties" sSTi ["ties"] f13 _:=⟨F_sti,PySem.W.mg_of X G a13,B_sti⟩
 have F_sc:=fun_mk (st:=sSC) l14 c14 k14
 have B_sc:=F_sc.binds (ps:=["cut"]) fun _ _ _ _ _ _ us hl=>match us,hl with | [_],_=>rfl
 have D_sc:Df K mg "show_cut" sSC ["cut"] f14 _:=⟨F_sc,PySem.W.mg_of X G a14,B_sc⟩
 have F_se:=fun_mk (st:=sSE) l15 c15 k15
 have B_se:=F_se.binds (ps:=["thing"]) fun _ _ _ _ _ _ us hl=>match us,hl with | [_],_=>rfl
 have D_se:Df K mg "show_entry" sSE ["thing"] f15 _:=⟨F_se,PySem.W.mg_of X G a15,B_se⟩
 have F_scs:=fun_mk (st:=sSCs) l16 c16 k16
 have B_scs:=F_scs.binds (ps:=["cuts"]) fun _ _ _ _ _ _ us hl=>match us,hl with | [_],_=>rfl
 have D_scs:Df K mg "show_cuts" sSCs ["cuts"] f16 _:=⟨F_scs,PySem.W.mg_of X G a16,B_scs⟩
 have F_sw:=fun_mk (st:=sSW) l17 c17 k17
 have B_sw:=F_sw.binds (ps:=["web"]) fun _ _ _ _ _ _ us hl=>match us,hl with | [_],_=>rfl
 have D_sw:Df K mg "show_web" sSW ["web"] f17 _:=⟨F_sw,PySem.W.mg_of X G a17,B_sw⟩
 have F_ro:=fun_mk (st:=sRR) l18 c18 k18
 have B_ro:=F_ro.binds (ps:=["text"]) fun _ _ _ _ _ _ us hl=>match us,hl with | [_],_=>rfl
 have D_ro:Df K mg "read_row" sRR ["text"] f18 _:=⟨F_ro,PySem.W.mg_of X G a18,B_ro⟩
 have F_row:=fun_mk (st:=sRow) l19 c19 k19
 have B_row:=F_row.binds (ps:=["_law_script","_law_k"]) fun _ _ _ _ _ _ us hl=>match us,hl with | [_,_],_=>rfl
 have D_row:Df K mg "_law_row_at" sRow ["_law_script","_law_k"] f19 _:=⟨F_row,PySem.W.mg_of X G a19,B_row⟩
 have F_draw:=fun_mk (st:=sDraw) l20 c20 k20
 have B_draw:=F_draw.binds (ps:=["_law_row","_law_many"]) fun _ _ _ _ _ _ us hl=>match us,hl with | [_,_],_=>rfl
 have D_draw:Df K mg "_law_draw" sDraw ["_law_row","_law_many"] f20 _:=⟨F_draw,PySem.W.mg_of X G a20,B_draw⟩
 have F_lname:=fun_mk (st:=sLName) l21 c21 k21
 have B_lname:=F_lname.binds (ps:=["_law_row","_law_taken"]) fun _ _ _ _ _ _ us hl=>match us,hl with | [_,_],_=>rfl
 have D_lname:Df K mg "_law_name" sLName ["_law_row","_law_taken"] f21 _:=⟨F_lname,PySem.W.mg_of X G a21,B_lname⟩
 have F_web:=fun_mk (st:=sWeb) l22 c22 k22
 have B_web:=F_web.binds (ps:=["_law_row","_law_most"]) fun _ _ _ _ _ _ us hl=>match us,hl with | [_,_],_=>rfl
 have D_web:Df K mg "_law_web" sWeb ["_law_row","_law_most"] f22 _:=⟨F_web,PySem.W.mg_of X G a22,B_web⟩
 have F_writ:=fun_mk (st:=sWrit) l23 c23 k23
 have B_writ:=F_writ.binds (ps:=["_law_names","_law_ties"]) fun _ _ _ _ _ _ us hl=>match us,hl with | [_,_],_=>rfl
 have D_writ:Df K mg "_law_written" sWrit ["_law_names","_law_ties"] f23 _:=⟨F_writ,PySem.W.mg_of X G a23,B_writ⟩
 have F_lnm:=fun_mk (st:=sLNm) l24 c24 k24
 have B_lnm:=F_lnm.binds (ps:=["_law_word"]) fun _ _ _ _ _ _ us hl=>match us,hl with | [_],_=>rfl
 have D_lnm:Df K mg "_law_is_name" sLNm ["_law_word"] f24 _:=⟨F_lnm,PySem.W.mg_of X G a24,B_lnm⟩
 have F_lrd:=fun_mk (st:=sLRd) l25 c25 k25
 have B_lrd:=F_lrd.binds (ps:=["_law_text"]) fun _ _ _ _ _ _ us hl=>match us,hl with | [_],_=>rfl
 have D_lrd:Df K mg "_law_read" sLRd ["_law_text"] f25 _:=⟨F_lrd,PySem.W.mg_of X G a25,B_lrd⟩
 have F_spo:=fun_mk (st:=sSpo) l26 c26 k26
 have B_spo:=F_spo.binds (ps:=["_law_row","_law_text"]) fun _ _ _ _ _ _ us hl=>match us,hl with | [_,_],_=>rfl
 have D_spo:Df K mg "_law_spoilt" sSpo ["_law_row","_law_text"] f26 _:=⟨F_spo,PySem.W.mg_of X G a26,B_spo⟩
 have F_why:=fun_mk (st:=sWhy) l27 c27 k27
 have B_why:=F_why.binds (ps:=["_law_text"]) fun _ _ _ _ _ _ us hl=>match us,hl with | [_],_=>rfl
 have D_why:Df K mg "_law_refused" sWhy ["_law_text"] f27 _:=⟨F_why,PySem.W.mg_of X G a27,B_why⟩
 have F_rr:=fun_mk (st:=sLRR) l28 c28 k28
 have B_rr:=F_rr.binds (ps:=["_law_text","_law_due"]) fun _ _ _ _ _ _ us hl=>match us,hl with | [_,_],_=>rfl
 have D_rr:Df K mg "_law_read_right" sLRR ["_law_text","_law_due"] f28 _:=⟨F_rr,PySem.W.mg_of X G a28,B_rr⟩
 have F_li:=fun_mk (st:=sLi) l29 c29 k29
 have B_li:=F_li.binds (ps:=["_law_row","_law_names"]) fun _ _ _ _ _ _ us hl=>match us,hl with | [_,_],_=>rfl
 have D_li:Df K mg "_law_lists_right" sLi ["_law_row","_law_names"] f29 _:=⟨F_li,PySem.W.mg_of X G a29,B_li⟩
 have F_law:=fun_mk (st:=sLaw) l30 c30 k30
 have mg_E0:=PySem.W.mg_of X G xE0
 have mg_E1:=PySem.W.mg_of X G xE1
 have mg_E2:=PySem.W.mg_of X G xE2
 have mg_E3:=PySem.W.mg_of X G xE3
 have Ex_E3:Ex K mg "NoWeb" E3:=⟨mg_E3,_,_,_,_,yE3,PySem.F.excBase_ValueError⟩
 have Xc_E3:ExcCl K E3:=⟨zE3_0,zE3_1,zE3_2,zE3_3,zE3_4,zE3_5⟩
 have mg_E6:=PySem.W.mg_of X G xE6
 have Ex_E6:Ex K mg "NoText" E6:=⟨mg_E6,_,_,_,_,yE6,PySem.F.excBase_ValueError⟩
 have Xc_E6:ExcCl K E6:=⟨zE6_0,zE6_1,zE6_2,zE6_3,zE6_4,zE6_5⟩
 have m_divmod:=PySem.W.mg_none_of X G g_divmod
 have m_len:=PySem.W.mg_none_of X G g_len
 have m_all:=PySem.W.mg_none_of X G g_all
 have m_isinstance:=PySem.W.mg_none_of X G g_isinstance
 have m_str:=PySem.W.mg_none_of X G g_str
 have m_range:=PySem.W.mg_none_of X G g_range
 have m_max:=PySem.W.mg_none_of X G g_max
 have m_min:=PySem.W.mg_none_of X G g_min
 have m_bool:=PySem.W.mg_none_of X G g_bool
 have m_list:=PySem.W.mg_none_of X G g_list
 have m_int:=PySem.W.mg_none_of X G g_int
 have m_tuple:=PySem.W.mg_none_of X G g_tuple
 have m_set:=PySem.W.mg_none_of X G g_set
 have m_sorted:=PySem.W.mg_none_of X G g_sorted
 have m_ValueError:=PySem.W.mg_none_of X G g_ValueError
 have m_zip:=PySem.W.mg_none_of X G g_zip
 have m_LONGEST:=PySem.W.mg_of X G g_LONGEST
 have m_MOST_PLACES:=PySem.W.mg_of X G g_MOST_PLACES
 have m_MOST_TIES:=PySem.W.mg_of X G g_MOST_TIES
 have T:Glb mg:=⟨m_divmod,m_len,m_all,m_isinstance,m_str,m_range,m_max,m_min,m_bool,m_list,m_int,m_tuple,m_set,m_sorted,⟨_,m_LONGEST⟩,⟨_,m_MOST_PLACES⟩,⟨_,m_MOST_TIES⟩⟩
 have M:=Mt.mk W F_places Mm_places B_places F_ties Mm_ties B_ties
 have XX:Errs K mg E0 E1 E2 E3 E6:=⟨mg_E0,Ex_E6,Ex_E3,mg_E1,mg_E2,m_ValueError,exm_mk q1a q1b q1c,q5,q2,q3,q4,Xc_E6⟩
 exact ⟨PySem.W.fnOf "law" "law" (defArgs sLaw) (defBody sLaw) (defScope sLaw) .none kV30 dc30 pm30 an30 cd30 ct30,fun s v=>.of_eq rfl,fun base _ _=>ok_law F_law D_row D_draw D_lname D_web D_name D_among D_tie D_chkP D_chkT F_init MkC B_init M XX D_wtext D_wrows D_read D_sw D_ro D_writ D_lnm D_lrd D_spo D_why D_rr D_li (ok_li F_li D_draw D_ir D_sti D_sc D_se D_scs m_zip T) T⟩
theorem walk {l:PySem.W.OpenLaw} {q:Program} {loose:List Str} {XP:(Str->Option Value)->Heap->Prop} {YP:World->Heap->Prop} {d:DefRec} {K:Params->PySem.W.Frag} (hn:l.most=some 63) (hdf:d.params.defaults=[])
  (hY:∀ (w:World) (h:Heap),YP w h->(K w.params).In h)
  (F:∀ (w:World) (mg:Str->Option Value) (fa:Addr) (h:Heap),(K w.params).In h->h.Ns mainGlobals mg->mg d.name=some (.ref fa) ->
   ∃ fd:FuncData,(∀ (s:Shared) (u:Value),BindsTo s fd ⟨[u],[]⟩ [("_law_script",u)])/\∀ base:Heap,(K w.params).In base->base.Ns mainGlobals mg->FnOk l.prog w (K w.params) mg base CX0 11 fa fd ["_law_script"] (spLaw (K w.params))) :
  PySem.W.WalkO q loose XP YP l.row.toRowW d [] (fun f vs=>PySem.call f vs) :=
 L2.walk_of (n:=63) (k:=11) (x:="_law_script") (CX:=fun _=>CX0) (sp:=fun w=>spLaw (K w.params)) hn (by decide) hdf ⟨rfl,by decide,by decide,rfl⟩ hY F (fun _ _ a ns hl _ hS=>⟨a,ns,rfl,hS,hl,fun _=>rfl⟩) fun _ _ _ _ _ z=>z
end K91
def PySem.W.Fast.tw7801137384581215865:Unit:=()
def PySem.W.Fast.tw18281169114831579283:Unit:=()
def PySem.W.Fast.tw18166684963537479596:Unit:=()
def PySem.W.Fast.tw15113994896625031150:Unit:=()
def PySem.W.Fast.tw4967784632118913563:Unit:=()
def PySem.W.Fast.tw5352483455166041333:Unit:=()
def PySem.W.Fast.tw15142156173919335221:Unit:=()
def PySem.W.Fast.tw9250256707081839955:Unit:=()
def PySem.W.Fast.tw5120445252837637172:Unit:=()
def PySem.W.Fast.tw3024686750913425948:Unit:=()
def PySem.W.Fast.tw13461424978767599759:Unit:=()
def PySem.W.Fast.tw10366191485190639902:Unit:=()
def PySem.W.Fast.tw6685587259272047614:Unit:=()
def PySem.W.Fast.tw8922411356903725326:Unit:=()
def PySem.W.Fast.tw8094323793166634861:Unit:=()
def PySem.W.Fast.tw12750623861011991184:Unit:=()
def PySem.W.Fast.tw3199523115686386007:Unit:=()
def PySem.W.Fast.tw11319726848859559017:Unit:=()
def PySem.W.Fast.tw337503211176840607:Unit:=()
def PySem.W.Fast.tw12367091610057992715:Unit:=()
def PySem.W.Fast.tw6535924785613789973:Unit:=()
def PySem.W.Fast.tw11886701413893208956:Unit:=()
def PySem.W.Fast.tw9182557061339589360:Unit:=()
def PySem.W.Fast.tw632992578429286902:Unit:=()
def PySem.W.Fast.tw3206984142180288471:Unit:=()
def PySem.W.Fast.tw1957257659151614803:Unit:=()
def PySem.W.Fast.tw7275354022574499841:Unit:=()
def PySem.W.Fast.tw194046553034236578:Unit:=()
def PySem.W.Fast.tw8727972331593042451:Unit:=()
def PySem.W.Fast.tw4120727613022200826:Unit:=()
def PySem.W.Fast.tw14040789552195655573:Unit:=()
def PySem.W.Fast.tw9886314853015862118:Unit:=()
def PySem.W.Fast.tw13938024448749424698:Unit:=()
def PySem.W.Fast.tw12604014114246785510:Unit:=()
def PySem.W.Fast.tw13414121588434252676:Unit:=()
def PySem.W.Fast.tw3023154000308974603:Unit:=()
def PySem.W.Fast.tw4112277604488444807:Unit:=()
def PySem.W.Fast.tw1302229316075540196:Unit:=()
def PySem.W.Fast.tw13785821865191310604:Unit:=()
def PySem.W.Fast.tw18376672631938988841:Unit:=()
def PySem.W.Fast.tw14032274037615397363:Unit:=()
def PySem.W.Fast.tw7642348964779151274:Unit:=()
def PySem.W.Fast.tw15146729871541610474:Unit:=()
def PySem.W.Fast.tw13147048302621762767:Unit:=()
def PySem.W.Fast.tw5827938084884318800:Unit:=()
def PySem.W.Fast.tw12011699242909278815:Unit:=()
def PySem.W.Fast.tw10015382638483786255:Unit:=()
def PySem.W.Fast.tw9253446545942980748:Unit:=()
def PySem.W.Fast.tw15978553628107802846:Unit:=()
def PySem.W.Fast.tw10558324031686996483:Unit:=()
def PySem.W.Fast.tw3628505527931985463:Unit:=()
def PySem.W.Fast.tw16894588854016156176:Unit:=()
def PySem.W.Fast.tw18358888135869001382:Unit:=()
def PySem.W.Fast.tw13394145743311232716:Unit:=()
def PySem.W.Fast.tw15804406697510169997:Unit:=()
def PySem.W.Fast.tw15761343448935594079:Unit:=()
def PySem.W.Fast.tw10041961666176738628:Unit:=()
def PySem.W.Fast.tw1880660328234676262:Unit:=()
def PySem.W.Fast.tw9981273740619634433:Unit:=()
def PySem.W.Fast.tw3720953332835563279:Unit:=()
def PySem.W.Fast.tw4232450842077233717:Unit:=()
def PySem.W.Fast.tw3708845551650304528:Unit:=()
def PySem.W.Fast.tw9059800851063384396:Unit:=()
def PySem.W.Fast.tw3882181899767647376:Unit:=()
def PySem.W.Fast.tw8604414690905799225:Unit:=()
def PySem.W.Fast.tw17206717796715906608:Unit:=()
def PySem.W.Fast.tw12671651376226557592:Unit:=()
def PySem.W.Fast.tw12606298380441775623:Unit:=()
def PySem.W.Fast.tw9815774957624114247:Unit:=()
def PySem.W.Fast.tw4554549333623912552:Unit:=()
def PySem.W.Fast.tw7524206163667759326:Unit:=()
def PySem.W.Fast.tw7967357674243635215:Unit:=()
def PySem.W.Fast.tw17972696649849177748:Unit:=()
def PySem.W.Fast.tw10651296322075848155:Unit:=()
def PySem.W.Fast.tw9630616966369887406:Unit:=()
def PySem.W.Fast.tw18314267712260693482:Unit:=()
def PySem.W.Fast.tw5599653597503354986:Unit:=()
def PySem.W.Fast.tw12994956505890504964:Unit:=()
def PySem.W.Fast.tw12122078949673021176:Unit:=()
def PySem.W.Fast.tw12862891095104432714:Unit:=()
def PySem.W.Fast.tw12840910420900922883:Unit:=()
def PySem.W.Fast.tw3059684087556177184:Unit:=()
def PySem.W.Fast.tw9332324290883498343:Unit:=()
open PySem PySem.W PyProof.Rows
set_option maxRecDepth 100000 in
set_option maxHeartbeats 0 in
theorem PySem.Challenge.cw_cutmeet_k91_writings_holds : PySem.Challenge.rw_cutmeet_k91_writings.Holds := by
  w_on; o_law; k_head; (case hw => w_witness2)
  k_fill
  refine K91.walk (l := PySem.Challenge.rw_cutmeet_k91_writings) rfl rfl (fun w h Y => PySem.W.kIn_of Y) ?F
  case F =>
    intro w mg fa h KX G hmg
    refine' K91.all_mk KX G hmg ?aC ?a1 ?i1 ?l1 ?c1 ?k1 ?a2 ?i2 ?l2 ?c2 ?k2 ?a3 ?i3 ?l3 ?c3 ?k3 ?pgC ?hdC ?poC ?saC ?mkC ?kcC ?nAC0 ?nAC1 ?a4 ?l4 ?c4 ?k4 ?a5 ?l5 ?c5 ?k5 ?a6 ?l6 ?c6 ?k6 ?a7 ?l7 ?c7 ?k7 ?a8 ?l8 ?c8 ?k8 ?a9 ?l9 ?c9 ?k9 ?a10 ?l10 ?c10 ?k10 ?a11 ?l11 ?c11 ?k11 ?a12 ?l12 ?c12 ?k12 ?a13 ?l13 ?c13 ?k13 ?a14 ?l14 ?c14 ?k14 ?a15 ?l15 ?c15 ?k15 ?a16 ?l16 ?c16 ?k16 ?a17 ?l17 ?c17 ?k17 ?a18 ?l18 ?c18 ?k18 ?a19 ?l19 ?c19 ?k19 ?a20 ?l20 ?c20 ?k20 ?a21 ?l21 ?c21 ?k21 ?a22 ?l22 ?c22 ?k22 ?a23 ?l23 ?c23 ?k23 ?a24 ?l24 ?c24 ?k24 ?a25 ?l25 ?c25 ?k25 ?a26 ?l26 ?c26 ?k26 ?a27 ?l27 ?c27 ?k27 ?a28 ?l28 ?c28 ?k28 ?a29 ?l29 ?c29 ?k29 ?a30 ?l30 ?c30 ?k30 ?xE0 ?xE1 ?xE2 ?xE3 ?yE3 ?zE3_0 ?zE3_1 ?zE3_2 ?zE3_3 ?zE3_4 ?zE3_5 ?xE6 ?yE6 ?zE6_0 ?zE6_1 ?zE6_2 ?zE6_3 ?zE6_4 ?zE6_5 ?g_divmod ?g_len ?g_all ?g_isinstance ?g_str ?g_range ?g_max ?g_min ?g_bool ?g_list ?g_int ?g_tuple ?g_set ?g_sorted ?g_ValueError ?g_zip ?g_LONGEST ?g_MOST_PLACES ?g_MOST_TIES ?q1a ?q1b ?q1c ?q2 ?q3 ?q4 ?q5
    (case aC => k_is)
    (case a1 => k_is)
    (case i1 => k_is)
    (case l1 => k_is)
    (case c1 => k_is)
    (case k1 => k_is)
    (case a2 => k_is)
    (case i2 => k_is)
    (case l2 => k_is)
    (case c2 => k_is)
    (case k2 => k_is)
    (case a3 => k_is)
    (case i3 => k_is)
    (case l3 => k_is)
    (case c3 => k_is)
    (case k3 => k_is)
    (case pgC => k_is)
    (case hdC => k_is)
    (case poC => k_is)
    (case saC => k_is)
    (case mkC => k_is)
    (case kcC => k_is)
    (case nAC0 => k_is)
    (case nAC1 => k_is)
    (case a4 => k_is)
    (case l4 => k_is)
    (case c4 => k_is)
    (case k4 => k_is)
    (case a5 => k_is)
    (case l5 => k_is)
    (case c5 => k_is)
    (case k5 => k_is)
    (case a6 => k_is)
    (case l6 => k_is)
    (case c6 => k_is)
    (case k6 => k_is)
    (case a7 => k_is)
    (case l7 => k_is)
    (case c7 => k_is)
    (case k7 => k_is)
    (case a8 => k_is)
    (case l8 => k_is)
    (case c8 => k_is)
    (case k8 => k_is)
    (case a9 => k_is)
    (case l9 => k_is)
    (case c9 => k_is)
    (case k9 => k_is)
    (case a10 => k_is)
    (case l10 => k_is)
    (case c10 => k_is)
    (case k10 => k_is)
    (case a11 => k_is)
    (case l11 => k_is)
    (case c11 => k_is)
    (case k11 => k_is)
    (case a12 => k_is)
    (case l12 => k_is)
    (case c12 => k_is)
    (case k12 => k_is)
    (case a13 => k_is)
    (case l13 => k_is)
    (case c13 => k_is)
    (case k13 => k_is)
    (case a14 => k_is)
    (case l14 => k_is)
    (case c14 => k_is)
    (case k14 => k_is)
    (case a15 => k_is)
    (case l15 => k_is)
    (case c15 => k_is)
    (case k15 => k_is)
    (case a16 => k_is)
    (case l16 => k_is)
    (case c16 => k_is)
    (case k16 => k_is)
    (case a17 => k_is)
    (case l17 => k_is)
    (case c17 => k_is)
    (case k17 => k_is)
    (case a18 => k_is)
    (case l18 => k_is)
    (case c18 => k_is)
    (case k18 => k_is)
    (case a19 => k_is)
    (case l19 => k_is)
    (case c19 => k_is)
    (case k19 => k_is)
    (case a20 => k_is)
    (case l20 => k_is)
    (case c20 => k_is)
    (case k20 => k_is)
    (case a21 => k_is)
    (case l21 => k_is)
    (case c21 => k_is)
    (case k21 => k_is)
    (case a22 => k_is)
    (case l22 => k_is)
    (case c22 => k_is)
    (case k22 => k_is)
    (case a23 => k_is)
    (case l23 => k_is)
    (case c23 => k_is)
    (case k23 => k_is)
    (case a24 => k_is)
    (case l24 => k_is)
    (case c24 => k_is)
    (case k24 => k_is)
    (case a25 => k_is)
    (case l25 => k_is)
    (case c25 => k_is)
    (case k25 => k_is)
    (case a26 => k_is)
    (case l26 => k_is)
    (case c26 => k_is)
    (case k26 => k_is)
    (case a27 => k_is)
    (case l27 => k_is)
    (case c27 => k_is)
    (case k27 => k_is)
    (case a28 => k_is)
    (case l28 => k_is)
    (case c28 => k_is)
    (case k28 => k_is)
    (case a29 => k_is)
    (case l29 => k_is)
    (case c29 => k_is)
    (case k29 => k_is)
    (case a30 => k_is)
    (case l30 => k_is)
    (case c30 => k_is)
    (case k30 => k_is)
    (case xE0 => k_is)
    (case xE1 => k_is)
    (case xE2 => k_is)
    (case xE3 => k_is)
    (case yE3 => k_exc)
    (case zE3_0 => k_is)
    (case zE3_1 => k_is)
    (case zE3_2 => k_is)
    (case zE3_3 => k_is)
    (case zE3_4 => k_is)
    (case zE3_5 => k_is)
    (case xE6 => k_is)
    (case yE6 => k_exc)
    (case zE6_0 => k_is)
    (case zE6_1 => k_is)
    (case zE6_2 => k_is)
    (case zE6_3 => k_is)
    (case zE6_4 => k_is)
    (case zE6_5 => k_is)
    (case g_divmod => k_is)
    (case g_len => k_is)
    (case g_all => k_is)
    (case g_isinstance => k_is)
    (case g_str => k_is)
    (case g_range => k_is)
    (case g_max => k_is)
    (case g_min => k_is)
    (case g_bool => k_is)
    (case g_list => k_is)
    (case g_int => k_is)
    (case g_tuple => k_is)
    (case g_set => k_is)
    (case g_sorted => k_is)
    (case g_ValueError => k_is)
    (case g_zip => k_is)
    (case g_LONGEST => k_is)
    (case g_MOST_PLACES => k_is)
    (case g_MOST_TIES => k_is)
    (case q1a => k_is)
    (case q1b => kit_is)
    (case q1c => rfl)
    (case q2 => kit_is)
    (case q3 => kit_is)
    (case q4 => kit_is)
    (case q5 => kernel_rfl)

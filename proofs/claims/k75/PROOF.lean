import PyProof.Rows.All
import Wide.All
import OpenK.AllK
import Wide.FinOn
import Lean
import PyProof.EqAt
import PyProof.EqKinds
import PyProof.TupleCall
import PyProof.NeKinds
import PyProof.Rows.FactsN_abs
import KE.KDictSum
import PyProof.DictCompW
import PyProof.DictIter
import PyProof.EnumFor
import PyProof.EnumMake
import PyProof.EnumStmt
import PyProof.Rows.SortShellK
import PyProof.Rows.SortStr
import PyProof.DictKinds
import PyProof.Rows.SortShell
import Wide.Seal
import PyProof.FString5
import PyProof.TupleKey
import PySem.Challenge.RW_cutmeet_k75_many_rings
set_option Elab.async false
set_option linter.all false
set_option maxRecDepth 100000
namespace L2
open PySem PySem.Spec PyProof.Rows
abbrev Key:=Sum Int Str
def keyIs:Key->Value->Bool
 | .inl k,v=>Value.isInt k v
 | .inr x,v=>Value.isStrOf x v
def keyH (w:World):Key->Int
 | .inl k=>hashInt k
 | .inr x=>hashStr w x
theorem keyIs_shape:∀ {k:Key} {v:Value},keyIs k v=true->(∃ i t,k=Sum.inl i/\v=Value.int i t)\/(∃ x t,k=Sum.inr x/\v=Value.str x t)
 | .inl i,v,h=>by
  obtain ⟨t,e⟩:=Value.isInt_shape (k:=i) (v:=v) h
  exact .inl ⟨i,t,rfl,e⟩
 | .inr x,v,h=>by
  obtain ⟨t,e⟩:=Value.isStrOf_shape (x:=x) (v:=v) h
  exact .inr ⟨x,t,rfl,e⟩
theorem keyIs_int (i:Int) (t:Tok):keyIs (.inl i) (.int i t)=true:=by simp [keyIs,Value.isInt]
theorem keyIs_str (x:Str) (t:Tok):keyIs (.inr x) (.str x t)=true:=by simp [keyIs,Value.isStrOf]
theorem key_ll (a b:Int):decide ((Sum.inl a:Key)=Sum.inl b)=(a == b):=by
 by_cases e:a=b
 ·subst e;simp
 ·have h:¬ (Sum.inl a:Key)=Sum.inl b:=fun q=>e (Sum.inl.inj q)
  rw [decide_eq_false h]
  exact (beq_eq_false_iff_ne.mpr e).symm
theorem key_rr (a b:Str):decide ((Sum.inr a:Key)=Sum.inr b)=decide (a=b):=by
 by_cases e:a=b
 ·subst e;simp
 ·have h:¬ (Sum.inr a:Key)=Sum.inr b:=fun q=>e (Sum.inr.inj q)
  rw [decide_eq_false h,decide_eq_false e]
theorem key_lr (a:Int) (b:Str):decide ((Sum.inl a:Key)=Sum.inr b)=false:=decide_eq_false (fun q=>nomatch q)
theorem key_rl (a:Str) (b:Int):decide ((Sum.inr a:Key)=Sum.inl b)=false:=decide_eq_false (fun q=>nomatch q)
def mixKind (prog:Program) (w:World):PySem.KeyKind prog w Key where
 is:=keyIs
 hash:=keyH w
 inj:=fun v a b ha hb=>by
  rcases keyIs_shape ha with ⟨i,t,rfl,rfl⟩ | ⟨x,t,rfl,rfl⟩
  ·rcases keyIs_shape hb with ⟨j,u,rfl,e⟩ | ⟨y,u,rfl,e⟩
   ·injection e with e1 _;rw [e1]
   ·exact nomatch e
  ·rcases keyIs_shape hb with ⟨j,u,rfl,e⟩ | ⟨y,u,rfl,e⟩
   ·exact nomatch e
   ·injection e with e1 _;rw [e1]
 byValue:=fun k v h=>by
  rcases keyIs_shape h with ⟨i,t,rfl,rfl⟩ | ⟨x,t,rfl,rfl⟩<;>rfl
 pyHash:=fun hv h=>by
  rcases keyIs_shape hv with ⟨i,t,rfl,rfl⟩ | ⟨x,t,rfl,rfl⟩
  ·exact wpAny_pyHash_int h
  ·exact wpAny_pyHash_str h
 eqBool:=fun hu hv h=>by
  rcases keyIs_shape hu with ⟨i,t,rfl,rfl⟩ | ⟨x,t,rfl,rfl⟩
  ·rcases keyIs_shape hv with ⟨j,u,rfl,rfl⟩ | ⟨y,u,rfl,rfl⟩
   ·rw [key_ll] at h;exact wpAny_eqBool_int h
   ·rw [key_lr] at h;exact SeqAt.EqAt.int_str i t y u _ _ _ _ h
  ·rcases keyIs_shape hv with ⟨j,u,rfl,rfl⟩ | ⟨y,u,rfl,rfl⟩
   ·rw [key_rl] at h;exact SeqAt.EqAt.str_int x t j u _ _ _ _ h
   ·rw [key_rr] at h;exact wpAny_eqBool_str h
 «strs»:=fun k x t v h=>by
  rcases keyIs_shape h with ⟨i,u,rfl,e⟩ | ⟨y,u,rfl,e⟩
  ·exact nomatch e
  ·injection e with e1 _
   subst e1
   cases v<;>rfl
theorem mixKind_int (prog:Program) (w:World) (i:Int) (t:Tok):(mixKind prog w).is (.inl i) (.int i t)=true:=keyIs_int i t
theorem mixKind_str (prog:Program) (w:World) (x:Str) (t:Tok):(mixKind prog w).is (.inr x) (.str x t)=true:=keyIs_str x t
inductive V where
 | non | bl (b:Bool) | int (i:Int) | str (x:Str) | byt (b:Array UInt8) | flt (b:UInt64) | ref (a:Addr) | ty (n:String)
 deriving DecidableEq
def RelV:V->Value->Prop
 | .non,u=>u=Value.none
 | .bl b,u=>u=Value.bool b
 | .int i,u=>∃ t,u=Value.int i t
 | .str x,u=>∃ t,u=Value.str x t
 | .byt b,u=>∃ t,u=Value.bytes b t
 | .flt b,u=>∃ t,u=Value.float b t
 | .ref a,u=>u=Value.ref a
 | .ty n,u=>u=Value.type n
abbrev Vals:List V->List Value->Prop:=Paired RelV
theorem Vals.length {xs:List V} {us:List Value} (r:Vals xs us):xs.length=us.length:=Paired.length r
theorem Vals.get:∀ {xs:List V} {us:List Value} {i:Nat} {x:V},Vals xs us->xs[i]?=some x->∃ u,us[i]?=some u/\RelV x u
 | _,_,_,_,.nil,e=>by simp at e
 | _,_,0,_,.cons r _,e=>by simp at e;subst e;exact ⟨_,rfl,r⟩
 | _,_,i+1,x,.cons _ t,e=>by
  obtain ⟨u,h1,h2⟩:=Vals.get (i:=i) (x:=x) t (by simpa using e)
  exact ⟨u,by simpa using h1,h2⟩
theorem Vals.set {x:V} {u:Value} (r:RelV x u):∀ {xs:List V} {us:List Value} (i:Nat),Vals xs us->Vals (xs.set i x) (us.set i u)
 | _,_,_,.nil=>.nil
 | _,_,0,.cons _ t=>.cons r t
 | _,_,i+1,.cons q t=>.cons q (Vals.set r i t)
theorem Vals.append:∀ {xs ys:List V} {us ws:List Value},Vals xs us->Vals ys ws->Vals (xs++ys) (us++ws)
 | _,_,_,_,.nil,s=>s
 | _,_,_,_,.cons r t,s=>.cons r (Vals.append t s)
theorem Vals.take:∀ {xs:List V} {us:List Value} (n:Nat),Vals xs us->Vals (xs.take n) (us.take n)
 | _,_,0,_=>.nil
 | _,_,_+1,.nil=>.nil
 | _,_,n+1,.cons r t=>.cons r (Vals.take n t)
theorem Vals.drop:∀ {xs:List V} {us:List Value} (n:Nat),Vals xs us->Vals (xs.drop n) (us.drop n)
 | _,_,0,r=>r
 | _,_,_+1,.nil=>.nil
 | _,_,n+1,.cons _ t=>Vals.drop n t
def RelO:Option V->Option Value->Prop
 | some v,some u=>RelV v u
 | none,none=>True
 | _,_=>False
def KV {κ:Type}:List (κ × V)->List (κ × Value)->Prop:=Paired fun (p:κ × V) (q:κ × Value)=>p.1=q.1/\RelV p.2 q.2
def kV:Key->V
 | .inl i=>.int i
 | .inr x=>.str x
inductive HO where
  | lst (xs:List V)
  | tup (xs:List V)
  | dK (kvs:List (Key × V)) | dT (kvs:List (List Key × V))
  | set (S:Int->Bool) (n:Nat)
  | ins (C dx:Addr) (fs:List (Str × V))
  | own (x:Addr)
  | xd (fs:List (Str × V))
  | met (f x:Addr)
  | rng (lo hi:Int)
  | frz (o:Obj) (u:HO)
  | tbl (ps:Array Value)
  | ext (φ:Heap->Prop)
abbrev Hp:=Addr->Option HO
def upd (H:Hp) (a:Addr) (o:HO):Hp:=fun b=>if b=a then some o else H b
theorem upd_same {H:Hp} {a:Addr} {o:HO}:upd H a o a=some o:=by unfold upd;rw [if_pos rfl]
theorem upd_ne {H:Hp} {a b:Addr} {o:HO} (h:b≠a):upd H a o b=H b:=by unfold upd;rw [if_neg h]
theorem upd_upd {H:Hp} {a:Addr} {o u:HO}:upd (upd H a o) a u=upd H a u:=by
 funext b;unfold upd;split<;>rfl
theorem ne_of {H:Hp} {a b:Addr} {o u:HO} (h:H a=some o) (h':H b=some u) (d:o≠u):a≠b:=by
 intro e;subst e;rw [h] at h';exact d (Option.some.inj h')
theorem ne_of_none {H:Hp} {a b:Addr} {o:HO} (h:H a=some o) (h':H b=none):a≠b:=by
 intro e;subst e;rw [h] at h';cases h'
section
variable (P:Program) (w:World)
def ObjOk (H:Hp) (h:Heap) (a:Addr):HO->Prop
 | .lst xs=>xs.length<=sizeLine/\∃ (its:List Value) (n:Nat),Vals xs its/\h.get? a=some { cls:=.type "list",data:=.seq its.toArray n }
 | .tup xs=>xs.length<=sizeLine/\∃ its:List Value,Vals xs its/\IsTup h a its.toArray
 | .dK kvs=>kvs.length<=sizeLine/\(a == sysModules)=false/\∃ vs,KV kvs vs/\h.DictOf (mixKind P w) a vs
 | .dT kvs=>kvs.length<=sizeLine/\(a == sysModules)=false/\∃ xs:List (List Key × Addr × Value),
   Paired (fun (p:List Key × V) (q:List Key × Addr × Value)=>p.1=q.1/\H q.2.1=some (.tup (p.1.map kV))/\RelV p.2 q.2.2) kvs xs /\
   ∃ o es ep,h.get? a=some o/\o.ExactDict/\o.data=.dict es ep/\es.toList=xs.map (entryOfKey (tupleKind (mixKind P w)))/\(xs.map (·.1)).Nodup
 | .set S n=>h.SetOf (intKind P w) a S n
 | .ins C dx fs=>H dx=some (.own a)/\fs.length<=1000/\dx≠a/\h.get? a=some (PySem.W.instObj C dx) /\
   ∃ mA,h.Ns1 dx mA/\(∀ f,RelO (fs.lookup f) (mA f))/\PySem.Within mA (fs.map (·.1))
 | .own _=>∃ o,h.get? a=some o
 | .xd fs=>∃ mA,h.Ns1 a mA/\∀ f,RelO (fs.lookup f) (mA f)
 | .rng lo hi=>∃ t u v,h.get? a=some { cls:=.type "range",data:=.fields #[.int lo t,.int hi u,.int 1 v] }
 | .frz o u=>h.get? a=some o/\ObjOk H h a u
 | .tbl ps=>h.get? a=some { cls:=.none,data:=.fields ps }
 | .met f x=>h.get? a=some (PySem.W.methodObj (.ref f) (.ref x))
 | .ext φ=>φ h/\(∃ o,h.get? a=some o)/\∀ h1 h2:Heap,φ h1->(∀ o,h1.get? a=some o->h2.get? a=some o)->φ h2
def HOk (H:Hp) (h:Heap):Prop:=∀ a o,H a=some o->ObjOk P w H h a o
end
section
variable {P:Program} {w:World} {H H':Hp} {h h':Heap} {a:Addr} {o:HO}
theorem ObjOk.lt (x:ObjOk P w H h a o):a < h.objs.size:=by
 cases o with
 | lst xs=>obtain ⟨_,_,_,_,e⟩:=x;exact Heap.lt_size e
 | tup xs=>obtain ⟨_,_,_,p⟩:=x;exact p.lt
 | dK kvs=>obtain ⟨_,_,_,_,o,_,_,e,_⟩:=x;exact Heap.lt_size e
 | dT kvs=>obtain ⟨_,_,_,_,o,_,_,e,_⟩:=x;exact Heap.lt_size e
 | set S n=>obtain ⟨o,_,_,_,e,_⟩:=x;exact Heap.lt_size e
 | ins C dx fs=>obtain ⟨_,_,_,e,_⟩:=x;exact Heap.lt_size e
 | own y=>obtain ⟨_,e⟩:=x;exact Heap.lt_size e
 | xd fs=>obtain ⟨_,⟨_,_,_,e,_⟩,_⟩:=x;exact Heap.lt_size e
 | rng lo hi=>obtain ⟨_,_,_,e⟩:=x;exact Heap.lt_size e
 | frz ob u=>obtain ⟨e,_⟩:=x;exact Heap.lt_size e
 | tbl ps=>exact Heap.lt_size (show h.get? a=some _ from x)
 | met f y=>exact Heap.lt_size (show h.get? a=some _ from x)
 | ext φ=>obtain ⟨_,⟨_,e⟩,_⟩:=x;exact Heap.lt_size e
theorem Paired.mapP {α β:Type} {F G:α->β->Prop}:∀ {l₁:List α} {l₂:List β},Paired F l₁ l₂->(∀ a b,F a b->G a b)->Paired G l₁ l₂
 | _,_,.nil,_=>.nil
 | _,_,.cons r t,f=>.cons (f _ _ r) (Paired.mapP t f)
theorem ObjOk.stay (x:ObjOk P w H h a o) (k:∀ b u,(b=a\/H b=some (.own a))->h.get? b=some u->h'.get? b=some u)
  (ho:∀ b,H b=some (.own a)->H' b=some (.own a)) (ht:∀ b xs,H b=some (.tup xs)->H' b=some (.tup xs)):ObjOk P w H' h' a o:=by
 induction o with
 | lst xs=>obtain ⟨z,its,n,r,e⟩:=x;exact ⟨z,its,n,r,k _ _ (.inl rfl) e⟩
 | tup xs=>obtain ⟨z,its,r,ob,e,c⟩:=x;exact ⟨z,its,r,ob,k _ _ (.inl rfl) e,c⟩
 | dK kvs=>obtain ⟨z,y,vs,r,ob,es,ep,e,c⟩:=x;exact ⟨z,y,vs,r,ob,es,ep,k _ _ (.inl rfl) e,c⟩
 | dT kvs =>
  obtain ⟨z,y,xs,r,ob,es,ep,e,c⟩:=x
  exact ⟨z,y,xs,Paired.mapP r fun p q z=>⟨z.1,ht _ _ z.2.1,z.2.2⟩,ob,es,ep,k _ _ (.inl rfl) e,c⟩
 | set S n=>obtain ⟨ob,es,ep,t,e,c⟩:=x;exact ⟨ob,es,ep,t,k _ _ (.inl rfl) e,c⟩
 | ins C dx fs =>
  obtain ⟨d,z,ne,e,mA,⟨od,es,ep,e2,c⟩,r⟩:=x
  exact ⟨ho _ d,z,ne,k _ _ (.inl rfl) e,mA,⟨od,es,ep,k _ _ (.inr d) e2,c⟩,r⟩
 | own y=>obtain ⟨ob,e⟩:=x;exact ⟨ob,k _ _ (.inl rfl) e⟩
 | xd fs=>obtain ⟨mA,⟨od,es,ep,e,c⟩,r⟩:=x;exact ⟨mA,⟨od,es,ep,k _ _ (.inl rfl) e,c⟩,r⟩
 | rng lo hi=>obtain ⟨t,u,v,e⟩:=x;exact ⟨t,u,v,k _ _ (.inl rfl) e⟩
 | frz ob u ih=>obtain ⟨e,q⟩:=x;exact ⟨k _ _ (.inl rfl) e,ih q⟩
 | tbl ps =>
  have e:h.get? a=some { cls:=.none,data:=.fields ps }:=x
  show h'.get? a=some { cls:=.none,data:=.fields ps }
  exact k a _ (.inl rfl) e
 | met f y =>
  have e:h.get? a=some (PySem.W.methodObj (.ref f) (.ref y)):=x
  show h'.get? a=some (PySem.W.methodObj (.ref f) (.ref y))
  exact k a _ (.inl rfl) e
 | ext φ=>obtain ⟨p,⟨o,e⟩,st⟩:=x;exact ⟨st _ _ p fun o q=>k _ _ (.inl rfl) q,⟨o,k _ _ (.inl rfl) e⟩,st⟩
theorem HOk.lt (x:HOk P w H h) (e:H a=some o):a < h.objs.size:=(x a o e).lt
theorem HOk.fresh (x:HOk P w H h) (e:h.objs.size<=a):H a=none:=by
 cases q:H a with
 | none=>rfl
 | some u=>exact absurd (Nat.lt_of_lt_of_le (x.lt q) e) (Nat.lt_irrefl _)
theorem HOk.kept (x:HOk P w H h) (k:∀ b u,h.get? b=some u->h'.get? b=some u):HOk P w H h':=fun a o e =>
 (x a o e).stay (fun b u _ q=>k b u q) (fun _ q=>q) fun _ _ q=>q
theorem HOk.laid (x:HOk P w H h) (k:∀ b u,h.get? b=some u->h'.get? b=some u) (hp:h.objs.size<=a) (new:ObjOk P w (upd H a o) h' a o):HOk P w (upd H a o) h':=fun b u e=>by
 have hn:=x.fresh hp
 by_cases hb:b=a
 ·subst hb;rw [upd_same] at e;cases e;exact new
 ·rw [upd_ne hb] at e
  exact (x b u e).stay (fun c v _ q=>k c v q) (fun c q=>by rw [upd_ne (ne_of_none q hn)];exact q) fun c xs q=>by rw [upd_ne (ne_of_none q hn)];exact q
end
def Rd (H:Hp) (a:Addr) (u:HO):Prop:=H a=some u\/∃ o,H a=some (.frz o u)
theorem Rd.ok {P:Program} {w:World} {H:Hp} {h:Heap} {a:Addr} {u:HO} (r:Rd H a u) (x:HOk P w H h):ObjOk P w H h a u:=by
 rcases r with r | ⟨o,r⟩
 ·exact x a u r
 ·obtain ⟨_,q⟩:=x a _ r
  exact q
def Mut:Option HO->Prop
 | some (.lst _)=>True
 | some (.dK _)=>True
 | some (.dT _)=>True
 | some (.set _ _)=>True
 | some (.ins _ _ _)=>True
 | some (.ext _)=>True
 | _=>False
section
variable {P:Program} {w:World} {H:Hp} {h h':Heap} {x e:Addr} {o':HO}
theorem HOk.write (ok:HOk P w H h) (mu:Mut (H x)) (he:e=x\/H e=some (.own x)) (k:∀ b u,b≠e->h.get? b=some u->h'.get? b=some u) (heo:∃ u,h'.get? e=some u)
  (new:ObjOk P w (upd H x o') h' x o'):HOk P w (upd H x o') h':=fun b u q=>by
 have nown:∀ c y,H c=some (.own y)->c≠x:=fun c y r z=>by subst z;rw [r] at mu;exact mu
 have ntup:∀ c xs,H c=some (.tup xs)->c≠x:=fun c xs r z=>by subst z;rw [r] at mu;exact mu
 by_cases hb:b=x
 ·subst hb;rw [upd_same] at q;cases q;exact new
 ·rw [upd_ne hb] at q
  by_cases hbe:b=e
  ·have q':H b=some (.own x):=by
    rcases he with z | z
    ·exact absurd (hbe.trans z) hb
    ·rw [hbe];exact z
   rw [q] at q';cases q'
   obtain ⟨v,hv⟩:=heo
   exact ⟨v,by rw [hbe];exact hv⟩
  ·refine (ok b u q).stay (fun c v hc r=>k c v ?_ r) (fun c r=>by rw [upd_ne (nown c b r)];exact r) fun c xs r=>by rw [upd_ne (ntup c xs r)];exact r
   rcases hc with rfl | hc
   ·exact hbe
   ·rintro rfl
    rcases he with z | z
    ·exact nown c b hc z
    ·rw [hc] at z;cases z;exact hb rfl
end
structure Un (fs ex:List Addr) (H H':Hp) (h h':Heap):Prop where
 keep:∀ b o,h.get? b=some o->H b=none->b ∉ fs->b ∉ ex->h'.get? b=some o
 slot:∀ b o,h.get? b=some o->H b=none->b∈fs->b ∉ ex->∃ sl,h'.get? b=some { o with slots:=sl }
 free:∀ b o,h.get? b=some o->H b=none->b ∉ ex->H' b=none
 there:∀ b o,h.get? b=some o->b ∉ ex->∃ o',h'.get? b=some o'
 tups:∀ b xs,H b=some (.tup xs)->H' b=some (.tup xs)
 frzs:∀ b o u,H b=some (.frz o u)->H' b=some (.frz o u)
 tbls:∀ b ps,H b=some (.tbl ps)->∃ more,H' b=some (.tbl (ps++more))
section
variable {fs fs' ex ex':List Addr} {H H1 H2:Hp} {h h1 h2 h':Heap} {a x e:Addr} {o:HO}
theorem Un.any (u:Un fs ex H H1 h h1) {b:Addr} {ob:Obj} (q:h.get? b=some ob) (n:H b=none) (hx:b ∉ ex):∃ sl,h1.get? b=some { ob with slots:=sl }:=by
 by_cases hb:b∈fs
 ·exact u.slot b ob q n hb hx
 ·exact ⟨ob.slots,u.keep b ob q n hb hx⟩
theorem Un.kept (k:∀ b u,h.get? b=some u->h'.get? b=some u):Un fs ex H H h h' :=
 ⟨fun b ob q _ _ _=>k b ob q,fun b ob q _ _ _=>⟨ob.slots,k b ob q⟩,fun _ _ _ n _=>n,fun b ob q _=>⟨ob,k b ob q⟩,fun _ _ q=>q,fun _ _ _ q=>q,fun _ ps q=>⟨#[],by rw [q];simp⟩⟩
theorem Un.refl:Un fs ex H H h h:=Un.kept fun _ _ q=>q
theorem Un.laid (k:∀ b u,h.get? b=some u->h'.get? b=some u) (hp:h.objs.size<=a) (hn:H a=none):Un fs ex H (upd H a o) h h' where
 keep:=fun b u q _ _ _=>k b u q
 slot:=fun b u q _ _ _=>⟨u.slots,k b u q⟩
 free:=fun b u q n _=>by rw [upd_ne (Nat.ne_of_lt (Nat.lt_of_lt_of_le (Heap.lt_size q) hp))];exact n
 there:=fun b u q _=>⟨u,k b u q⟩
 tups:=fun b xs q=>by rw [upd_ne (ne_of_none q hn)];exact q
 frzs:=fun b u xs q=>by rw [upd_ne (ne_of_none q hn)];exact q
 tbls:=fun b ps q=>⟨#[],by rw [upd_ne (ne_of_none q hn),q];simp⟩
theorem Un.write (mu:Mut (H x)) (he:e=x\/H e=some (.own x)) (k:∀ b u,b≠e->h.get? b=some u->h'.get? b=some u) (heo:∃ u,h'.get? e=some u):Un fs ex H (upd H x o) h h':=by
 have hx:∀ b,H b=none->b≠x:=fun b n z=>by subst z;rw [n] at mu;exact mu
 have hb:∀ b,H b=none->b≠e:=fun b n z=>by
  subst z
  rcases he with r | r
  ·exact hx b n r
  ·rw [n] at r;cases r
 have hm:∀ b u,H b=some u->¬ Mut (some u)->b≠x:=fun b u q nm z=>by subst z;rw [q] at mu;exact nm mu
 refine ⟨fun b u q n _ _=>k b u (hb b n) q,fun b u q n _ _=>⟨u.slots,k b u (hb b n) q⟩,fun b u q n _=>by rw [upd_ne (hx b n)];exact n,fun b u q _=>?_,
  fun b xs q=>by rw [upd_ne (hm b _ q fun z=>z)];exact q,fun b u xs q=>by rw [upd_ne (hm b _ q fun z=>z)];exact q,fun b ps q=>⟨#[],by rw [upd_ne (hm b _ q fun z=>z),q];simp⟩⟩
 by_cases hbe:b=e
 ·subst hbe;exact heo
 ·exact ⟨u,k b u hbe q⟩
end
def trk (h:Heap) (H:Hp):List Addr:=(List.range h.objs.size).filter fun a=>(H a).isSome
def hidT (h:Heap) (H:Hp):Heap:=PySem.W.hideAll h (trk h H)
theorem hidT_size (h:Heap) (H:Hp):(hidT h H).objs.size=h.objs.size:=PySem.W.hideAll_size _ _
theorem hidT_get {h:Heap} {H:Hp} {b:Addr} {o:Obj} (e:h.get? b=some o) (n:H b=none):(hidT h H).get? b=some o :=
 PySem.W.hideAll_get _ e fun hm=>by
  have q:(H b).isSome=true:=(List.mem_filter.mp hm).2
  rw [n] at q;simp at q
theorem of_hidT {h:Heap} {H:Hp} {b:Addr} {o:Obj} (e:(hidT h H).get? b=some o):h.get? b=some o/\H b=none:=by
 have e':h.get? b=some o:=PySem.W.of_hideAll (trk h H) e
 refine ⟨e',?_⟩
 cases q:H b with
 | none=>rfl
 | some x =>
  have hm:b∈trk h H:=List.mem_filter.mpr ⟨List.mem_range.mpr (Heap.lt_size e'),by simp [q]⟩
  have z:(hidT h H).get? b=none:=PySem.W.hideAll_none (trk h H) hm
  rw [z] at e;cases e
def allNews (g h:Heap) (L:Addr):List (Addr × Obj):=(List.range h.objs.size).filterMap fun a=>if a=L\/(g.get? a).isSome=true then none else (h.get? a).map fun o=>(a,o)
def rest (g h:Heap) (L d:Addr):List (Addr × Obj):=(allNews g h L).filter fun p=>decide (p.1≠d)
structure Mod (K:PySem.W.Frag) (mg:Str->Option Value) (base:Heap):Prop where
 kin:K.In base
 glob:base.Ns mainGlobals mg
 blt:∃ mb,base.Ns builtinsNs mb/\∀ x:Str,x≠"__name__" -> mb x=bootBuiltins x
 nolimit:base.NoLimit
structure Cx where
 prog:Program
 w:World
 K:PySem.W.Frag
 mg:Str->Option Value
 base:Heap
 A:Around
 N:List Str
 s₀:Shared
 H₀:Hp
 env:Env
 outer:List Env
 stack:List Env
 ex:List Addr
 fn:Str->Bool
 calm:Bool
 pn:List (Addr × Obj)
 xe:Value->Shared->Prop
def frs (l:List Env):List Addr:=l.filterMap (·.frame)
abbrev Cx.fs (X:Cx):List Addr:=frs X.outer
def Vis (sc:Scope) (x:Str):Prop:=sc.names.lookup x=some .local\/sc.names.lookup x=some .cell\/sc.names.lookup x=some .free
def Loc (sc:Scope) (x:Str):Prop:=sc.names.lookup x=some .local\/sc.names.lookup x=some .cell
def Look (env:Env) (h:Heap) (m:Str->Option Value) (x:Str) (u:Value):Prop :=
 (env.kindOf x=some .local/\m x=some u)\/((env.kindOf x=some .cell\/env.kindOf x=some .free)/\∃ c,env.cells.lookup x=some c/\h.IsCell c (some u))
structure Cx.Ok (X:Cx):Prop where
 mod:Mod X.K X.mg X.base
 kind:X.env.scope.kind=.function
 glob:X.env.globals=mainGlobals
 blt:X.env.builtins=builtinsNs
 above:X.s₀.heap.objs.size<=X.env.locals
 inj:∀ x y c,X.env.cells.lookup x=some c->X.env.cells.lookup y=some c->x=y
 has:∀ x,(X.env.kindOf x=some .cell\/X.env.kindOf x=some .free)->∃ c,X.env.cells.lookup x=some c
 cab:∀ x c,X.fn x=true->X.env.cells.lookup x=some c->X.s₀.heap.objs.size<=c
 hd:X.calm=true->X.A.handled=none
 frames:X.A.frames=some X.stack
 stk:X.stack=X.outer\/(X.stack=X.env::X.outer/\X.env.frame=some X.env.locals)
 exf:∀ b∈X.ex,b≠X.env.locals/\∀ x c,X.env.cells.lookup x=some c->c≠b
 bs:∀ b o,X.base.get? b=some o->X.s₀.heap.get? b=some o/\X.H₀ b=none
 bsz:X.base.objs.size<=X.s₀.heap.objs.size
 noex:∀ b o,X.base.get? b=some o->b ∉ X.ex
 exfs:∀ b∈X.ex,b ∉ X.fs
 funs:X.s₀.heap.FunFrames X.base X.outer
 frf:∀ b∈X.fs,X.H₀ b=none
structure Inv (X:Cx) (pins:List (Addr × Obj)) (σ:List (Option V)) (H:Hp) (s:Shared):Prop where
 ok:X.Ok
 os:s.os=X.s₀.os
 bare:AllBare s.gens
 base:Un X.fs X.ex X.H₀ H X.s₀.heap s.heap
 loc:∃ m,s.heap.Ns X.env.locals m/\∀ (i:Nat) (x:Str) (v:V),X.N[i]?=some x->σ[i]?=some (some v)->Vis X.env.scope x->∃ u,RelV v u/\Look X.env s.heap m x u
 cell:∀ x c,X.env.cells.lookup x=some c->∃ v,s.heap.IsCell c v
 free:H X.env.locals=none
 freeC:∀ x c,X.env.cells.lookup x=some c->H c=none
 pin:∀ p∈X.pn++pins,s.heap.get? p.1=some p.2/\H p.1=none/\p.1≠X.env.locals/\p.1 ∉ X.fs/\∀ v,p.2.data≠.cell v
 hok:HOk X.prog X.w H s.heap
 len:σ.length=X.N.length
section
variable {X:Cx} {pins:List (Addr × Obj)} {σ:List (Option V)} {H H':Hp} {s:Shared} {h':Heap}
theorem Cx.Ok.nofr (ok:X.Ok) {b:Addr} {o:Obj} (e:X.base.get? b=some o):b ∉ X.fs:=fun hb=>by
 have:=(ok.funs.mem hb).1
 rw [e] at this;cases this
theorem Inv.bs (I:Inv X pins σ H s):∀ b o,X.base.get? b=some o->s.heap.get? b=some o/\H b=none:=fun b o e =>
 ⟨I.base.keep b o (I.ok.bs b o e).1 (I.ok.bs b o e).2 (I.ok.nofr e) (I.ok.noex b o e),I.base.free b o (I.ok.bs b o e).1 (I.ok.bs b o e).2 (I.ok.noex b o e)⟩
theorem Inv.bk (I:Inv X pins σ H s):∀ b o,X.base.get? b=some o->s.heap.get? b=some o:=fun b o e=>(I.bs b o e).1
theorem Inv.mod (I:Inv X pins σ H s):Mod X.K X.mg X.base:=I.ok.mod
theorem Inv.kIn (I:Inv X pins σ H s):X.K.In s.heap:=I.ok.mod.kin.keeps I.bk
theorem Inv.lt (I:Inv X pins σ H s):X.env.locals < s.heap.objs.size:=let ⟨_,hn,_⟩:=I.loc;hn.lt
theorem Inv.sz (I:Inv X pins σ H s):X.s₀.heap.objs.size<=s.heap.objs.size:=Nat.le_trans I.ok.above (Nat.le_of_lt I.lt)
theorem Inv.nofs (I:Inv X pins σ H s) {a:Addr} (h:s.heap.objs.size<=a):a ∉ X.fs:=fun hb=>by
 obtain ⟨_,o,ho,_⟩:=I.ok.funs.mem hb
 exact absurd (Nat.lt_of_lt_of_le (Heap.lt_size ho) (Nat.le_trans I.sz h)) (Nat.lt_irrefl _)
theorem Inv.cne (I:Inv X pins σ H s):∀ x c,X.env.cells.lookup x=some c->c≠X.env.locals:=fun x c e z=>by
 obtain ⟨v,o,ho,hd⟩:=I.cell x c e
 obtain ⟨m,⟨o',es,ep,ho',hd',_⟩,_⟩:=I.loc
 rw [z,ho'] at ho;cases ho;rw [hd'] at hd;cases hd
theorem Inv.funs (I:Inv X pins σ H s):s.heap.FunFrames X.base X.outer:=by
 have all:∀ (l:List Env),(∀ b∈frs l,b∈X.fs)->X.s₀.heap.FunFrames X.base l->s.heap.FunFrames X.base l:=by
  intro l
  induction l with
  | nil=>intro _ _;trivial
  | cons env r ih =>
   intro hs hl
   obtain ⟨hk,⟨L,o,hf,hn,ho,hd⟩,hr⟩:=hl
   have hL:L∈X.fs:=hs L (by unfold frs;rw [List.filterMap_cons,hf];exact List.mem_cons_self)
   obtain ⟨sl,e⟩:=I.base.slot L o ho (I.ok.frf L hL) hL fun z=>I.ok.exfs L z hL
   exact ⟨hk,⟨L,_,hf,hn,e,hd⟩,ih (fun b hb=>hs b (by unfold frs;rw [List.filterMap_cons,hf];exact List.mem_cons_of_mem _ hb)) hr⟩
 exact all X.outer (fun _ hb=>hb) I.ok.funs
theorem Inv.stack (I:Inv X pins σ H s):s.heap.FunFrames X.base X.stack:=by
 rcases I.ok.stk with e | ⟨e,hf⟩
 ·rw [e];exact I.funs
 ·rw [e]
  obtain ⟨m,hn,_⟩:=I.loc
  refine .cons (by rw [I.ok.kind];decide) hf hn ?_ I.funs
  exact Heap.get?_none_of_le (Nat.le_trans I.ok.bsz I.ok.above)
theorem Inv.stkSub (I:Inv X pins σ H s):∀ b∈frs X.stack,b∈X.env.locals::X.fs:=fun b hb=>by
 rcases I.ok.stk with e | ⟨e,hf⟩
 ·rw [e] at hb;exact List.mem_cons_of_mem _ hb
 ·rw [e] at hb
  unfold frs at hb
  rw [List.filterMap_cons,hf] at hb
  exact hb
theorem Inv.stkFree (I:Inv X pins σ H s):∀ b∈frs X.stack,H b=none:=fun b hb=>by
 rcases List.mem_cons.mp (I.stkSub b hb) with e | hb
 ·rw [e];exact I.free
 ·obtain ⟨_,o,ho,_⟩:=I.ok.funs.mem hb
  exact I.base.free b o ho (I.ok.frf b hb) fun z=>I.ok.exfs b z hb
theorem Inv.step {g':Array GenState} {t':Nat} {d':Drawn} {ch:List Addr} (I:Inv X pins σ H s)
  (hch:∀ b∈ch,(b∈X.ex\/X.s₀.heap.objs.size<=b)/\b≠X.env.locals/\(∀ x c,X.env.cells.lookup x=some c->c≠b)/\∀ p∈X.pn++pins,p.1≠b)
  (keep:∀ b o,b≠X.env.locals->b ∉ X.fs->b ∉ ch->s.heap.get? b=some o->H b=none->h'.get? b=some o)
  (slot:∀ b o,b≠X.env.locals->b∈X.fs->b ∉ ch->s.heap.get? b=some o->H b=none->∃ sl,h'.get? b=some { o with slots:=sl }) (free:∀ b o,b ∉ ch->s.heap.get? b=some o->H b=none->H' b=none)
  (there:∀ b o,b ∉ ch->s.heap.get? b=some o->∃ o',h'.get? b=some o')
  (tups:∀ b xs,H b=some (.tup xs)->H' b=some (.tup xs)) (frzs:∀ b o u,H b=some (.frz o u)->H' b=some (.frz o u)) (tbls:∀ b ps,H b=some (.tbl ps)->∃ more,H' b=some (.tbl (ps++more)))
  (ns:∀ m,s.heap.Ns X.env.locals m->h'.Ns X.env.locals m) (hok:HOk X.prog X.w H' h') (hg:AllBare g') :
  Inv X pins σ H' { s with heap:=h',gens:=g',drawn:=d',toks:=t' }:=by
 have neL:∀ b o,X.s₀.heap.get? b=some o->b≠X.env.locals:=fun b o e=>Nat.ne_of_lt (Nat.lt_of_lt_of_le (Heap.lt_size e) I.ok.above)
 have neC:∀ b o,X.s₀.heap.get? b=some o->b ∉ X.ex->b ∉ ch:=fun b o e hx hb=>by
  rcases (hch b hb).1 with z | z
  ·exact hx z
  ·exact absurd (Nat.lt_of_lt_of_le (Heap.lt_size e) z) (Nat.lt_irrefl _)
 have cellK:∀ x c,X.env.cells.lookup x=some c->∀ v,s.heap.IsCell c v->h'.IsCell c v:=fun x c e v ⟨o,ho,hd⟩=>by
  have nch:c ∉ ch:=fun z=>(hch c z).2.2.1 x c e rfl
  by_cases hc:c∈X.fs
  ·obtain ⟨sl,q⟩:=slot c o (I.cne x c e) hc nch ho (I.freeC x c e)
   exact ⟨_,q,hd⟩
  ·exact ⟨o,keep c o (I.cne x c e) hc nch ho (I.freeC x c e),hd⟩
 refine ⟨I.ok,I.os,hg,⟨fun b o e n hb hx=>?_,fun b o e n hb hx=>?_,fun b o e n hx=>?_,fun b o e hx=>?_,fun b xs e=>tups b xs (I.base.tups b xs e),fun b o xs e=>frzs b o xs (I.base.frzs b o xs e),fun b ps e=>?_⟩,?_,fun x c e=>?_,?_,fun x c e=>?_,fun p hp=>?_,hok,I.len⟩
 ·exact keep b o (neL b o e) hb (neC b o e hx) (I.base.keep b o e n hb hx) (I.base.free b o e n hx)
 ·obtain ⟨sl,e1⟩:=I.base.slot b o e n hb hx
  obtain ⟨sl',e2⟩:=slot b _ (neL b o e) hb (neC b o e hx) e1 (I.base.free b o e n hx)
  exact ⟨sl',e2⟩
 ·obtain ⟨o',e1⟩:=I.base.there b o e hx
  exact free b o' (neC b o e hx) e1 (I.base.free b o e n hx)
 ·obtain ⟨o',e1⟩:=I.base.there b o e hx
  exact there b o' (neC b o e hx) e1
 ·obtain ⟨m1,e1⟩:=I.base.tbls b ps e
  obtain ⟨m2,e2⟩:=tbls b _ e1
  exact ⟨m1++m2,by rw [e2,Array.append_assoc]⟩
 ·obtain ⟨m,hn,hl⟩:=I.loc
  refine ⟨m,ns m hn,fun i x v e1 e2 e3=>?_⟩
  obtain ⟨u,r,l⟩:=hl i x v e1 e2 e3
  refine ⟨u,r,?_⟩
  rcases l with l | ⟨k,c,e,z⟩
  ·exact .inl l
  ·exact .inr ⟨k,c,e,cellK x c e _ z⟩
 ·obtain ⟨v,z⟩:=I.cell x c e
  exact ⟨v,cellK x c e v z⟩
 ·obtain ⟨m,⟨o,_,_,ho,_⟩,_⟩:=I.loc
  exact free _ o (fun z=>(hch _ z).2.1 rfl) ho I.free
 ·obtain ⟨v,o,ho,hd⟩:=I.cell x c e
  exact free c o (fun z=>(hch c z).2.2.1 x c e rfl) ho (I.freeC x c e)
 ·obtain ⟨e,n,ne,nf,d⟩:=I.pin p hp
  have nch:p.1 ∉ ch:=fun z=>(hch p.1 z).2.2.2 p hp rfl
  exact ⟨keep p.1 p.2 ne nf nch e n,free p.1 p.2 nch e n,ne,nf,d⟩
theorem Inv.un {t':Nat} (I:Inv X pins σ H s) (u:Un X.fs [] H H' s.heap h') (hok:HOk X.prog X.w H' h'):Inv X pins σ H' { s with heap:=h',toks:=t' }:=by
 obtain ⟨m,⟨o,es,ep,ho,r⟩,_⟩:=id I.loc
 obtain ⟨sl,hL⟩:=u.any ho I.free (by simp)
 exact I.step (g':=s.gens) (d':=s.drawn) (ch:=[]) (fun _ z=>nomatch z) (fun b o _ hb _ e n=>u.keep b o e n hb (by simp)) (fun b o _ hb _ e n=>u.slot b o e n hb (by simp)) (fun b o _ e n=>u.free b o e n (by simp)) (fun b o _ e=>u.there b o e (by simp)) u.tups u.frzs u.tbls (fun m' hm=>by
  obtain ⟨o',es',ep',ho',r'⟩:=hm
  rw [ho] at ho';cases ho'
  exact ⟨_,es',ep',hL,r'⟩) hok I.bare
theorem Inv.call {g':Array GenState} {t':Nat} {d':Drawn} {ch:List Addr} (I:Inv X pins σ H s) (u:Un (frs X.stack) ch H H' s.heap h') (hok:HOk X.prog X.w H' h') (hg:AllBare g')
  (hch:∀ b∈ch,(b∈X.ex\/X.s₀.heap.objs.size<=b)/\b≠X.env.locals/\(∀ x c,X.env.cells.lookup x=some c->c≠b)/\∀ p∈X.pn++pins,p.1≠b) :
  Inv X pins σ H' { s with heap:=h',gens:=g',drawn:=d',toks:=t' }:=by
 obtain ⟨m,⟨o,es,ep,ho,r⟩,_⟩:=id I.loc
 obtain ⟨sl,hL⟩:=u.any ho I.free fun z=>(hch _ z).2.1 rfl
 exact I.step (ch:=ch) hch (fun b o hL hb hc e n=>u.keep b o e n (fun z=>(List.mem_cons.mp (I.stkSub b z)).elim hL hb) hc) (fun b o _ _ hc e n=>u.any e n hc) (fun b o hc e n=>u.free b o e n hc) (fun b o hc e=>u.there b o e hc) u.tups u.frzs u.tbls (fun m' hm=>by
  obtain ⟨o',es',ep',ho',r'⟩:=hm
  rw [ho] at ho';cases ho'
  exact ⟨_,es',ep',hL,r'⟩) hok hg
theorem Inv.turned {t':Nat} {it:Addr} (I:Inv X pins σ H s) (k:∀ b o,b≠it->s.heap.get? b=some o->h'.get? b=some o) (hn:H it=none) (hL:it≠X.env.locals)
  (h1:it∈X.ex\/X.s₀.heap.objs.size<=it) (h2:∀ x c,X.env.cells.lookup x=some c->c≠it) (h3:∀ p∈X.pn++pins,p.1≠it):Inv X pins σ H { s with heap:=h',toks:=t' }:=by
 have nit:∀ b u,H b=some u->b≠it:=fun b u e z=>by rw [z,hn] at e;cases e
 refine I.step (g':=s.gens) (d':=s.drawn) (ch:=[it]) (fun b hb=>?_) (fun b o _ _ hc e _=>k b o (fun z=>hc (by simp [z])) e) (fun b o _ _ hc e _=>⟨o.slots,k b o (fun z=>hc (by simp [z])) e⟩) (fun _ _ _ _ n=>n)
  (fun b o hc e=>⟨o,k b o (fun z=>hc (by simp [z])) e⟩) (fun _ _ e=>e) (fun _ _ _ e=>e) (fun b ps e=>⟨#[],by rw [e];simp⟩) (fun m hm=>?_) (fun b u e=>?_) I.bare
 ·have e:b=it:=by simpa using hb
  subst e
  exact ⟨h1,hL,h2,h3⟩
 ·obtain ⟨o,es,ep,ho,r⟩:=hm
  exact ⟨o,es,ep,k _ o (Ne.symm hL) ho,r⟩
 ·refine (I.hok b u e).stay (fun c v hc q=>k c v ?_ q) (fun _ q=>q) fun _ _ q=>q
  rcases hc with z | z
  ·rw [z];exact nit b u e
  ·exact nit c _ z
theorem Inv.tok (I:Inv X pins σ H s) (t:Nat):Inv X pins σ H { s with toks:=t }:=I.un (h':=s.heap) (t':=t) Un.refl I.hok
theorem Inv.kept {t':Nat} (I:Inv X pins σ H s) (k:∀ b u,s.heap.get? b=some u->h'.get? b=some u):Inv X pins σ H { s with heap:=h',toks:=t' }:=I.un (Un.kept k) (I.hok.kept k)
theorem Inv.laid {a:Addr} {o:HO} {t':Nat} (I:Inv X pins σ H s) (k:∀ b u,s.heap.get? b=some u->h'.get? b=some u) (hp:s.heap.objs.size<=a) (new:ObjOk X.prog X.w (upd H a o) h' a o) :
  Inv X pins σ (upd H a o) { s with heap:=h',toks:=t' }:=I.un (Un.laid k hp (I.hok.fresh hp)) (I.hok.laid k hp new)
theorem Inv.write {x e:Addr} {o:HO} {t':Nat} (I:Inv X pins σ H s) (mu:Mut (H x)) (he:e=x\/H e=some (.own x)) (k:∀ b u,b≠e->s.heap.get? b=some u->h'.get? b=some u) (heo:∃ u,h'.get? e=some u)
  (new:ObjOk X.prog X.w (upd H x o) h' x o):Inv X pins σ (upd H x o) { s with heap:=h',toks:=t' }:=I.un (Un.write mu he k heo) (I.hok.write mu he k heo new)
theorem Inv.weak {σ':List (Option V)} (I:Inv X pins σ H s) (hl:σ'.length=σ.length) (w:∀ (i:Nat) v,σ'[i]?=some (some v)->σ[i]?=some (some v)):Inv X pins σ' H s :=
 ⟨I.ok,I.os,I.bare,I.base,let ⟨m,hn,hl'⟩:=I.loc;⟨m,hn,fun i x v e1 e2 e3=>hl' i x v e1 (w i v e2) e3⟩,I.cell,I.free,I.freeC,I.pin,I.hok,hl.trans I.len⟩
theorem Inv.pins_of {pins':List (Addr × Obj)} (I:Inv X pins σ H s) (h:∀ p∈pins',s.heap.get? p.1=some p.2/\H p.1=none/\p.1≠X.env.locals/\p.1 ∉ X.fs/\∀ v,p.2.data≠.cell v):Inv X pins' σ H s :=
 ⟨I.ok,I.os,I.bare,I.base,I.loc,I.cell,I.free,I.freeC,fun p hp=>(List.mem_append.mp hp).elim (fun z=>I.pin p (List.mem_append_left _ z)) (h p),I.hok,I.len⟩
theorem nodup_ix {N:List Str} (hN:N.Nodup) {i j:Nat} {x:Str} (a:N[i]?=some x) (b:N[j]?=some x):i=j:=by
 obtain ⟨h1,e1⟩:=List.getElem?_eq_some_iff.mp a
 obtain ⟨h2,e2⟩:=List.getElem?_eq_some_iff.mp b
 exact (List.getElem_inj hN).mp (e1.trans e2.symm)
theorem store_ok2 {M:Model} {A:Around} {E:Value->Shared->Prop} {i:Nat} {x:Str} {v:V} {u:Value} {Q:Unit->Shared->Prop} (I:Inv X pins σ H s) (hN:X.N.Nodup) (hi:X.N[i]?=some x) (hx:Loc X.env.scope x) (r:RelV v u)
  (h:∀ s',Inv X pins (σ.set i (some v)) H s'->(∃ a,Heap.SameBut a s.heap s'.heap/\(a=X.env.locals\/X.env.cells.lookup x=some a))->Q () s') (hf:X.fn x=true\/X.env.scope.names.lookup x=some .local:=by first | exact .inl rfl | exact .inr rfl | assumption):wpAny M A (storeName X.env x u) Q E s:=by
 obtain ⟨m,hn,hl⟩:=id I.loc
 have hcls:(X.env.scope.kind == .class || (X.env.scope.kind == .module && X.env.locals != X.env.globals))=false:=by rw [I.ok.kind];rfl
 have hiσ:i < σ.length:=by rw [I.len];exact (List.getElem?_eq_some_iff.mp hi).1
 have cne:=I.cne
 have tracked:∀ {a:Addr} {h':Heap},(∃ o,s.heap.get? a=some o/\H a=none)->Heap.SameBut a s.heap h'->HOk X.prog X.w H h':=fun {a h'} ha hs b ob e=>by
  obtain ⟨_,_,hfree⟩:=ha
  refine (I.hok b ob e).stay (fun c w' hc q=>(hs.2 c ?_).trans q) (fun _ q=>q) fun _ _ q=>q
  rintro rfl
  rcases hc with rfl | hc
  ·rw [hfree] at e;cases e
  ·rw [hfree] at hc;cases hc
 rcases hx with hk | hk
 ·refine wpAny_storeName_local hk hn (fun h' hn' hs=>?_) hcls
  obtain ⟨oL,_,_,hoL,_⟩:=id hn
  refine h _ ⟨I.ok,I.os,I.bare,⟨fun b o e n hb hx=>?_,fun b o e n hb hx=>?_,I.base.free,fun b o e hx=>?_,I.base.tups,I.base.frzs,I.base.tbls⟩,⟨_,hn',fun j y v' e1 e2 e3=>?_⟩,fun y c e=>?_,I.free,I.freeC,fun p hp=>?_,tracked ⟨oL,hoL,I.free⟩ hs,by simpa using I.len⟩ ⟨_,hs,.inl rfl⟩
  ·exact (hs.2 b (Nat.ne_of_lt (Nat.lt_of_lt_of_le (Heap.lt_size e) I.ok.above))).trans (I.base.keep b o e n hb hx)
  ·obtain ⟨sl,e1⟩:=I.base.slot b o e n hb hx
   exact ⟨sl,(hs.2 b (Nat.ne_of_lt (Nat.lt_of_lt_of_le (Heap.lt_size e) I.ok.above))).trans e1⟩
  ·obtain ⟨o',e1⟩:=I.base.there b o e hx
   exact ⟨o',(hs.2 b (Nat.ne_of_lt (Nat.lt_of_lt_of_le (Heap.lt_size e) I.ok.above))).trans e1⟩
  ·by_cases hj:j=i
   ·subst hj
    rw [hi] at e1;cases e1
    rw [List.getElem?_set_self hiσ] at e2
    cases e2
    exact ⟨u,r,.inl ⟨hk,by simp⟩⟩
   ·rw [List.getElem?_set_ne (Ne.symm hj)] at e2
    obtain ⟨u',r',q⟩:=hl j y v' e1 e2 e3
    refine ⟨u',r',?_⟩
    rcases q with ⟨k,e⟩ | ⟨k,c,e,z⟩
    ·refine .inl ⟨k,?_⟩
     have:y≠x:=fun e=>hj (nodup_ix hN e1 (e ▸ hi))
     simp [this,e]
    ·exact .inr ⟨k,c,e,z.sameBut hs (cne y c e)⟩
  ·obtain ⟨w',z⟩:=I.cell y c e
   exact ⟨w',z.sameBut hs (cne y c e)⟩
  ·obtain ⟨e,n,ne,nf,d⟩:=I.pin p hp
   exact ⟨(hs.2 p.1 ne).trans e,n,ne,nf,d⟩
 ·have hfn:X.fn x=true:=by
   rcases hf with z | z
   ·exact z
   ·rw [z] at hk;cases hk
  obtain ⟨c,hc⟩:=I.ok.has x (.inl hk)
  obtain ⟨w',z⟩:=I.cell x c hc
  refine wpAny_storeName_cell I.ok.kind hk hc z (fun h' hc' hs=>?_)
  obtain ⟨oc,hoc,hocd⟩:=id z
  refine h { s with heap:=h' } ⟨I.ok,I.os,I.bare,⟨fun b o e n hb hx=>?_,fun b o e n hb hx=>?_,I.base.free,fun b o e hx=>?_,I.base.tups,I.base.frzs,I.base.tbls⟩,⟨m,hn.sameBut hs (Ne.symm (cne x c hc)),fun j y v' e1 e2 e3=>?_⟩,fun y c' e=>?_,I.free,I.freeC,fun p hp=>?_,tracked ⟨oc,hoc,I.freeC x c hc⟩ hs,by simpa using I.len⟩ ⟨c,hs,.inr hc⟩
  ·exact (hs.2 b (Nat.ne_of_lt (Nat.lt_of_lt_of_le (Heap.lt_size e) (I.ok.cab x c hfn hc)))).trans (I.base.keep b o e n hb hx)
  ·obtain ⟨sl,e1⟩:=I.base.slot b o e n hb hx
   exact ⟨sl,(hs.2 b (Nat.ne_of_lt (Nat.lt_of_lt_of_le (Heap.lt_size e) (I.ok.cab x c hfn hc)))).trans e1⟩
  ·obtain ⟨o',e1⟩:=I.base.there b o e hx
   exact ⟨o',(hs.2 b (Nat.ne_of_lt (Nat.lt_of_lt_of_le (Heap.lt_size e) (I.ok.cab x c hfn hc)))).trans e1⟩
  ·by_cases hj:j=i
   ·subst hj
    rw [hi] at e1;cases e1
    rw [List.getElem?_set_self hiσ] at e2
    cases e2
    exact ⟨u,r,.inr ⟨.inl hk,c,hc,hc'⟩⟩
   ·rw [List.getElem?_set_ne (Ne.symm hj)] at e2
    obtain ⟨u',r',q⟩:=hl j y v' e1 e2 e3
    refine ⟨u',r',?_⟩
    rcases q with q | ⟨k,c',e,z'⟩
    ·exact .inl q
    ·refine .inr ⟨k,c',e,z'.sameBut hs ?_⟩
     rintro rfl
     exact hj (nodup_ix hN e1 (I.ok.inj _ _ _ e hc ▸ hi))
  ·by_cases hcc:c'=c
   ·subst hcc;exact ⟨_,hc'⟩
   ·obtain ⟨w2,z2⟩:=I.cell y c' e
    exact ⟨w2,z2.sameBut hs hcc⟩
  ·obtain ⟨e,n,ne,nf,d⟩:=I.pin p hp
   refine ⟨(hs.2 p.1 ?_).trans e,n,ne,nf,d⟩
   intro q
   rw [q,hoc] at e
   have q':oc=p.2:=Option.some.inj e
   exact d w' (by rw [<- q'];exact hocd)
theorem store_ok {M:Model} {A:Around} {E:Value->Shared->Prop} {i:Nat} {x:Str} {v:V} {u:Value} {Q:Unit->Shared->Prop} (I:Inv X pins σ H s) (hN:X.N.Nodup) (hi:X.N[i]?=some x) (hx:Loc X.env.scope x) (r:RelV v u)
  (h:∀ s',Inv X pins (σ.set i (some v)) H s'->Q () s') (hf:X.fn x=true\/X.env.scope.names.lookup x=some .local:=by first | exact .inl rfl | exact .inr rfl | assumption):wpAny M A (storeName X.env x u) Q E s :=
 store_ok2 I hN hi hx r (fun s' I' _=>h s' I') hf
theorem Inv.call' {s':Shared} {ch:List Addr} (I:Inv X pins σ H s) (ho:s'.os=s.os) (u:Un (frs X.stack) ch H H' s.heap s'.heap) (hok:HOk X.prog X.w H' s'.heap) (hg:AllBare s'.gens)
  (hch:∀ b∈ch,(b∈X.ex\/X.s₀.heap.objs.size<=b)/\b≠X.env.locals/\(∀ x c,X.env.cells.lookup x=some c->c≠b)/\∀ p∈X.pn++pins,p.1≠b):Inv X pins σ H' s':=by
 obtain ⟨h',g',d',t',o'⟩:=s'
 have e:o'=s.os:=ho
 subst e
 exact I.call (g':=g') (t':=t') (d':=d') u hok hg hch
end
abbrev XK:=Value->Option Addr->Hp->Prop
abbrev St:=List (Option V)
abbrev VK:=V->Hp->Prop
abbrev TE:=St->Hp->VK->Prop
abbrev TT:=St->Hp->(Bool->Hp->Prop)->Prop
abbrev TA:=St->Hp->(List V->Hp->Prop)->Prop
structure Ends where
 nx:St->Hp->Prop
 rt:VK
 bk:St->Hp->Prop:=fun _ _=>False
 ct:St->Hp->Prop:=fun _ _=>False
abbrev TS:=Ends->St->Hp->Prop
def EP (X:Cx) (pins:List (Addr × Obj)) (σ:St) (Q:VK) (u:Value) (s':Shared):Prop:=∃ v H',Inv X pins σ H' s'/\RelV v u/\Q v H'
def TP (X:Cx) (pins:List (Addr × Obj)) (σ:St) (Q:Bool->Hp->Prop) (b:Bool) (s':Shared):Prop:=∃ H',Inv X pins σ H' s'/\Q b H'
def AP (X:Cx) (pins:List (Addr × Obj)) (σ:St) (Q:List V->Hp->Prop) (us:List Value) (s':Shared):Prop:=∃ vs H',Inv X pins σ H' s'/\Vals vs us/\Q vs H'
def SP (X:Cx) (pins:List (Addr × Obj)) (D:Ends) (f:Flow) (s':Shared):Prop :=
 match f with
 | .next=>∃ σ' H',Inv X pins σ' H' s'/\D.nx σ' H'
 | .brk=>∃ σ' H',Inv X pins σ' H' s'/\D.bk σ' H'
 | .cont=>∃ σ' H',Inv X pins σ' H' s'/\D.ct σ' H'
 | .ret u=>∃ v σ' H',Inv X pins σ' H' s'/\RelV v u/\D.rt v H'
def PE (X:Cx) (e:Expr) (t:TE):Prop :=
 ∀ (pins:List (Addr × Obj)) (s:Shared) (σ:St) (H:Hp) (Q:VK),Inv X pins σ H s->t σ H Q->wpAny (model X.prog X.w) X.A (eval e X.env) (EP X pins σ Q) X.xe s
def PT (X:Cx) (e:Expr) (t:TT):Prop :=
 ∀ (pins:List (Addr × Obj)) (s:Shared) (σ:St) (H:Hp) (Q:Bool->Hp->Prop),Inv X pins σ H s->t σ H Q->wpAny (model X.prog X.w) X.A (isTrue e X.env (eval e X.env)) (TP X pins σ Q) X.xe s
def PW (X:Cx) (e:Expr) (t:TT):Prop :=
 ∀ (whole:Sem Value) (pins:List (Addr × Obj)) (s:Shared) (σ:St) (H:Hp) (Q:Bool->Hp->Prop),Inv X pins σ H s->t σ H Q->wpAny (model X.prog X.w) X.A (isTrue e X.env whole) (TP X pins σ Q) X.xe s
theorem PW.pt {X:Cx} {e:Expr} {t:TT} (h:PW X e t):PT X e t:=h _
def PA (X:Cx) (es:List Expr) (t:TA):Prop :=
 ∀ (pos:Pos) (pins:List (Addr × Obj)) (s:Shared) (σ:St) (H:Hp) (Q:List V->Hp->Prop),Inv X pins σ H s->t σ H Q->wpAny (model X.prog X.w) X.A (spliced (backTo pos (starEach es X.env))) (AP X pins σ Q) X.xe s
def PS (X:Cx) (st:Stmt) (t:TS):Prop :=
 ∀ (pins:List (Addr × Obj)) (s:Shared) (σ:St) (H:Hp) (D:Ends),Inv X pins σ H s->t D σ H->wpAny (model X.prog X.w) X.A (exec st X.env) (SP X pins D) X.xe s
def PSs (X:Cx) (st:List Stmt) (t:TS):Prop :=
 ∀ (pins:List (Addr × Obj)) (s:Shared) (σ:St) (H:Hp) (D:Ends),Inv X pins σ H s->t D σ H->wpAny (model X.prog X.w) X.A (execs st X.env) (SP X pins D) X.xe s
theorem thn {α:Type} {t:Sem α} {Q Q':α->Shared->Prop} {M:Model} {A:Around} {E:Value->Shared->Prop} {s:Shared} (h:wpAny M A t Q E s) (hQ:∀ a s,Q a s->Q' a s):wpAny M A t Q' E s:=wpAny_mono h hQ fun _ _ x=>x
section
variable {X:Cx}
def tVar (i:Nat):TE:=fun σ H Q=>∃ v,σ[i]?=some (some v)/\Q v H
def tC (v:V):TE:=fun _ H Q=>Q v H
theorem pe_var {i:Nat} {x:Str} {pos:Pos} (hN:X.N[i]?=some x) (hv:Vis X.env.scope x) (hd:(x == ("__debug__" : Str))=false:=by decide) (hcd:(x == ("__classdict__" : Str))=false:=by decide):PE X (.Name x pos) (tVar i):=by
 intro pins s σ H Q I h
 obtain ⟨v,e,h⟩:=h
 obtain ⟨m,hn,hl⟩:=I.loc
 obtain ⟨u,r,l⟩:=hl i x v hN e hv
 have fin:EP X pins σ Q u s:=⟨v,H,I,r,h⟩
 rcases l with ⟨hk,hm⟩ | ⟨hk,c,hc,hcell⟩
 ·exact wpAny_Name (wpAny_loadName_local I.ok.kind hk hn hm fin) hd
 ·rcases hk with hk | hk
  ·exact wpAny_Name (wpAny_loadName_cell I.ok.kind hk hc hcell fin) hd
  ·exact wpAny_Name (wpAny_loadName_free I.ok.kind hk hc hcell fin hcd) hd
theorem pe_int {i j pos}:PE X (.Constant (.int i) j pos) (tC (.int i)):=fun _ _ _ H _ I h=>wpAny_Constant_int ⟨.int i,H,I.tok _,⟨_,rfl⟩,h⟩
theorem pe_bl {b j pos}:PE X (.Constant (.bool b) j pos) (tC (.bl b)):=fun _ _ _ H _ I h=>Constant_bool ⟨.bl b,H,I,rfl,h⟩
theorem pe_non {j pos}:PE X (.Constant .none j pos) (tC .non):=fun _ _ _ H _ I h=>Constant_none ⟨.non,H,I,rfl,h⟩
theorem pe_str {x j pos}:PE X (.Constant (.str x) j pos) (tC (.str x)):=fun _ _ _ H _ I h=>Calls.Constant_str ⟨.str x,H,I.tok _,⟨_,rfl⟩,h⟩
def Gl (X:Cx) (x:Str):Prop:=X.env.kindOf x=some .globalImplicit
theorem ld_glob {E:Value->Shared->Prop} {pins:List (Addr × Obj)} {s:Shared} {σ:St} {H:Hp} {x:Str} {u:Value} {pos:Pos} {Q:Value->Shared->Prop} (I:Inv X pins σ H s) (hg:Gl X x) (hm:X.mg x=some u) (h:Q u s)
  (hd:(x == ("__debug__" : Str))=false:=by decide):wpAny (model X.prog X.w) X.A (eval (.Name x pos) X.env) Q E s :=
 Calls.Name_function_global I.ok.kind hg (Calls.loadGlobal_global (by rw [I.ok.glob];exact I.mod.glob.keeps I.bk) hm h) hd
theorem ld_blt {E:Value->Shared->Prop} {pins:List (Addr × Obj)} {s:Shared} {σ:St} {H:Hp} {x:Str} {u:Value} {pos:Pos} {Q:Value->Shared->Prop} (I:Inv X pins σ H s) (hg:Gl X x) (hm:X.mg x=none) (hv:bootBuiltins x=some u) (h:Q u s)
  (hn:x≠"__name__" := by decide) (hd:(x == ("__debug__" : Str))=false:=by decide):wpAny (model X.prog X.w) X.A (eval (.Name x pos) X.env) Q E s:=by
 obtain ⟨mb,h1,h2⟩:=I.mod.blt
 exact Calls.Name_function_global I.ok.kind hg (Calls.loadGlobal_builtin (by rw [I.ok.glob];exact I.mod.glob.keeps I.bk) hm (by rw [I.ok.blt];exact h1.keeps I.bk) ((h2 x hn).trans hv) h) hd
theorem pe_glob {x:Str} {v:V} {u:Value} {pos:Pos} (hg:Gl X x) (hm:X.mg x=some u) (r:RelV v u) (hd:(x == ("__debug__" : Str))=false:=by decide):PE X (.Name x pos) (tC v) :=
 fun _ _ _ H _ I h=>ld_glob I hg hm ⟨v,H,I,r,h⟩ hd
theorem pe_bltn {x:Str} {v:V} {u:Value} {pos:Pos} (hg:Gl X x) (hm:X.mg x=none) (hv:bootBuiltins x=some u) (r:RelV v u) (hn:x≠"__name__" := by decide) (hd:(x == ("__debug__" : Str))=false:=by decide):PE X (.Name x pos) (tC v) :=
 fun _ _ _ H _ I h=>ld_blt I hg hm hv ⟨v,H,I,r,h⟩ hn hd
variable {a b:Expr} {ta tb:TE} {pos:Pos}
def PC (X:Cx) (op:CmpOp) (a b:Expr) (t:TE):Prop :=
 ∀ (pins:List (Addr × Obj)) (s:Shared) (σ:St) (H:Hp) (Q:VK),Inv X pins σ H s->t σ H Q ->
  wpAny (model X.prog X.w) X.A (eval a X.env) (fun v s₁=>wpAny (model X.prog X.w) X.A (eval b X.env) (fun u s₂=>wpAny (model X.prog X.w) X.A (compareOp op v u) (EP X pins σ Q) X.xe s₂) X.xe s₁) X.xe s
theorem nobehind (b:Expr) {op:CmpOp} (h:op≠.In) (h2:op≠.NotIn):behindInMarks op b=false:=by
 have e1:(op == CmpOp.In)=false:=by cases op<;>first | rfl | exact absurd rfl h
 have e2:(op == CmpOp.NotIn)=false:=by cases op<;>first | rfl | exact absurd rfl h2
 cases b<;>simp [behindInMarks,e1,e2]
def tB (t:TE):TT:=fun σ H Q=>t σ H fun x H1=>∃ c,x=.bl c/\Q c H1
theorem pt_cmp {op:CmpOp} {t:TE} (h:PC X op a b t) (h1:behindInMarks op b=false:=by first | exact nobehind _ (by decide) (by decide) | rfl):PT X (.Compare a [op] [b] pos) (tB t):=by
 intro pins s σ H Q I hw
 refine wpAny_isTrue_Compare1 (thn (h pins s σ H _ I hw) fun v s1 h1=>thn h1 fun u s2 h2=>thn h2 fun c s3 ⟨x,H1,I1,r1,q1⟩=>?_) h1
 obtain ⟨d,rfl,q⟩:=q1
 cases r1
 exact wpAny_truthy_bool ⟨H1,I1,q⟩
theorem pt_val {e:Expr} {t:TE} (h:PE X e t) (he:∀ whole,isTrue e X.env whole=(do let v <- whole;standAt e.pos;holding [v] (truthy v)):=by intro _;rfl):PT X e (tB t):=by
 intro pins s σ H Q I hw
 refine isTrue_plain (thn (h pins s σ H _ I hw) fun v s1 ⟨x,H1,I1,r1,q1⟩=>?_) (he _)
 obtain ⟨d,rfl,q⟩:=q1
 cases r1
 exact wpAny_truthy_bool ⟨H1,I1,q⟩
variable {tA tB':TT} {rest:List Expr}
def tAnd (t u:TT):TT:=fun σ H Q=>t σ H fun c H1=>if c=true then u σ H1 Q else Q false H1
def tOr (t u:TT):TT:=fun σ H Q=>t σ H fun c H1=>if c=true then Q true H1 else u σ H1 Q
def tNot (t:TT):TT:=fun σ H Q=>t σ H fun c H1=>Q (!c) H1
theorem pw_and1 (ha:PT X a tA):PW X (.BoolOp .And [a] pos) tA:=by
 intro wh pins s σ H Q I h
 refine isTrue_and (thn (ha pins s σ H Q I h) fun c s1 e=>?_)
 cases c with
 | true=>exact isTrue_and_nil e
 | false=>exact e
theorem pw_or1 (ha:PT X a tA):PW X (.BoolOp .Or [a] pos) tA:=by
 intro wh pins s σ H Q I h
 refine isTrue_or (thn (ha pins s σ H Q I h) fun c s1 e=>?_)
 cases c with
 | false=>exact isTrue_or_nil e
 | true=>exact e
theorem pw_and (ha:PT X a tA) (hb:PW X (.BoolOp .And (b::rest) pos) tB'):PW X (.BoolOp .And (a::b::rest) pos) (tAnd tA tB'):=by
 intro wh pins s σ H Q I h
 refine isTrue_and (thn (ha pins s σ H _ I h) fun c s1 ⟨H1,I1,q1⟩=>?_)
 cases c with
 | true=>exact hb wh pins s1 σ H1 Q I1 q1
 | false=>exact ⟨H1,I1,q1⟩
theorem pw_or (ha:PT X a tA) (hb:PW X (.BoolOp .Or (b::rest) pos) tB'):PW X (.BoolOp .Or (a::b::rest) pos) (tOr tA tB'):=by
 intro wh pins s σ H Q I h
 refine isTrue_or (thn (ha pins s σ H _ I h) fun c s1 ⟨H1,I1,q1⟩=>?_)
 cases c with
 | true=>exact ⟨H1,I1,q1⟩
 | false=>exact hb wh pins s1 σ H1 Q I1 q1
theorem pt_not (ha:PT X a tA):PT X (.UnaryOp .Not a pos) (tNot tA):=by
 intro pins s σ H Q I h
 exact isTrue_not (ha pins s σ H (fun c H1=>Q (!c) H1) I h)
def tAndV (ta tb:TE):TE:=fun σ H Q=>ta σ H fun x H1=>∃ c,x=.bl c/\if c=true then tb σ H1 Q else Q (.bl false) H1
theorem pe_one {op} {t:TE} (h:PE X a t):PE X (.BoolOp op [a] pos) t:=fun pins s σ H Q I hw=>BoolOp_one (h pins s σ H Q I hw)
theorem pe_and (ha:PE X a ta) (hb:PE X (.BoolOp .And (b::rest) pos) tb):PE X (.BoolOp .And (a::b::rest) pos) (tAndV ta tb):=by
 intro pins s σ H Q I h
 refine BoolOp_and (thn (ha pins s σ H _ I h) fun v s1 ⟨x,H1,I1,r1,q1⟩=>?_)
 obtain ⟨c,rfl,q1⟩:=q1
 cases r1
 refine wpAny_truthy_bool ?_
 cases c with
 | true=>exact hb pins s1 σ H1 Q I1 q1
 | false=>exact ⟨.bl false,H1,I1,rfl,q1⟩
def tIf (t:TT) (ta tb:TE):TE:=fun σ H Q=>t σ H fun c H1=>if c=true then ta σ H1 Q else tb σ H1 Q
theorem pe_ifExp {c:Expr} (hc:PT X c tA) (ha:PE X a ta) (hb:PE X b tb):PE X (.IfExp c a b pos) (tIf tA ta tb):=by
 intro pins s σ H Q I h
 refine wpAny_IfExp (thn (hc pins s σ H _ I h) fun d s1 ⟨H1,I1,q1⟩=>?_)
 cases d with
 | true=>exact ha pins s1 σ H1 Q I1 q1
 | false=>exact hb pins s1 σ H1 Q I1 q1
end
def SqL (K:PySem.W.Frag) (H:Hp) (a:Addr) (xs:List V):Prop :=
 Rd H a (.lst xs) \/
  ∃ (o:Obj) (its:Array Value) (n:Nat),K.lookup a=some o/\o.cls=.type "list" /\ o.dict=none/\o.data=.seq its n/\its.size<=sizeLine/\Vals xs its.toList
def SqT (K:PySem.W.Frag) (H:Hp) (a:Addr) (xs:List V):Prop :=
 Rd H a (.tup xs) \/
  ∃ (o:Obj) (its:Array Value) (n:Nat),K.lookup a=some o/\o.cls=.type "tuple" /\ o.data=.seq its n/\its.size<=sizeLine/\Vals xs its.toList
def absV:Value->Option V
 | .none=>some .non
 | .bool b=>some (.bl b)
 | .int i _=>some (.int i)
 | .str x _=>some (.str x)
 | .bytes b _=>some (.byt b)
 | .float b _=>some (.flt b)
 | .ref a=>some (.ref a)
 | .type n=>some (.ty n)
 | _=>none
theorem RelV.abs {x:V} {u:Value} (r:RelV x u):absV u=some x:=by
 cases x with
 | non=>cases r;rfl
 | bl _=>cases r;rfl
 | int _=>obtain ⟨t,rfl⟩:=r;rfl
 | str _=>obtain ⟨t,rfl⟩:=r;rfl
 | byt _=>obtain ⟨t,rfl⟩:=r;rfl
 | flt _=>obtain ⟨t,rfl⟩:=r;rfl
 | ref _=>cases r;rfl
 | ty _=>cases r;rfl
theorem RelV.inj {x y:V} {u:Value} (r:RelV x u) (q:RelV y u):x=y:=Option.some.inj (r.abs.symm.trans q.abs)
theorem Vals.inj:∀ {xs ys:List V} {us:List Value},Vals xs us->Vals ys us->xs=ys
 | _,_,_,.nil,.nil=>rfl
 | _,_,_,.cons r t,.cons r' t'=>by rw [r.inj r',Vals.inj t t']
section
variable {X:Cx} {pins:List (Addr × Obj)} {σ:St} {H:Hp} {s:Shared} {a:Addr} {xs ys:List V}
theorem SqL.of {K:PySem.W.Frag} (h:H a=some (.lst xs)):SqL K H a xs:=.inl (.inl h)
theorem SqT.of {K:PySem.W.Frag} (h:H a=some (.tup xs)):SqT K H a xs:=.inl (.inl h)
theorem Inv.list (I:Inv X pins σ H s) (h:SqL X.K H a xs):∃ its:List Value,Vals xs its/\PlainL s.heap a its.toArray/\xs.length<=sizeLine:=by
 rcases h with h | ⟨o,its,n,hk,hc,hd,hs,hz,r⟩
 ·obtain ⟨z,its,n,r,e⟩:=h.ok I.hok
  exact ⟨its,r,⟨_,n,e,rfl,rfl,rfl⟩,z⟩
 ·refine ⟨its.toList,r,⟨o,n,I.kIn a o hk,hc,hd,by simpa using hs⟩,?_⟩
  have e:=r.length
  simp only [Array.length_toList] at e
  omega
theorem Inv.tuple (I:Inv X pins σ H s) (h:SqT X.K H a xs):∃ its:List Value,Vals xs its/\IsTup s.heap a its.toArray/\xs.length<=sizeLine:=by
 rcases h with h | ⟨o,its,n,hk,hc,hs,hz,r⟩
 ·obtain ⟨z,its,r,p⟩:=h.ok I.hok
  exact ⟨its,r,p,z⟩
 ·refine ⟨its.toList,r,⟨o,I.kIn a o hk,hc,n,by simpa using hs⟩,?_⟩
  have e:=r.length
  simp only [Array.length_toList] at e
  omega
theorem Inv.list_inj (I:Inv X pins σ H s) (h:SqL X.K H a xs) (h':SqL X.K H a ys):xs=ys:=by
 obtain ⟨its,r,⟨o,n,e,_,_,d⟩,_⟩:=I.list h
 obtain ⟨its',r',⟨o',n',e',_,_,d'⟩,_⟩:=I.list h'
 rw [e] at e';cases e'
 rw [d] at d'
 injection d' with d1 _
 have:its=its':=by simpa using congrArg Array.toList d1
 subst this
 exact r.inj r'
theorem Inv.tuple_inj (I:Inv X pins σ H s) (h:SqT X.K H a xs) (h':SqT X.K H a ys):xs=ys:=by
 obtain ⟨its,r,⟨o,e,_,n,d⟩,_⟩:=I.tuple h
 obtain ⟨its',r',⟨o',e',_,n',d'⟩,_⟩:=I.tuple h'
 rw [e] at e';cases e'
 rw [d] at d'
 injection d' with d1 _
 have:its=its':=by simpa using congrArg Array.toList d1
 subst this
 exact r.inj r'
end
abbrev Cx.wish (X:Cx) (E:Value->Shared->Prop):Cx:={ X with xe:=E }
abbrev Cx.nox (X:Cx):Cx:=X.wish fun _ _=>False
theorem Cx.Ok.wish {X:Cx} (ok:X.Ok) (E:Value->Shared->Prop):(X.wish E).Ok :=
 ⟨ok.mod,ok.kind,ok.glob,ok.blt,ok.above,ok.inj,ok.has,ok.cab,ok.hd,ok.frames,ok.stk,ok.exf,ok.bs,ok.bsz,ok.noex,ok.exfs,ok.funs,ok.frf⟩
theorem Cx.Ok.unwish {X:Cx} {E:Value->Shared->Prop} (ok:(X.wish E).Ok):X.Ok :=
 ⟨ok.mod,ok.kind,ok.glob,ok.blt,ok.above,ok.inj,ok.has,ok.cab,ok.hd,ok.frames,ok.stk,ok.exf,ok.bs,ok.bsz,ok.noex,ok.exfs,ok.funs,ok.frf⟩
section
variable {X:Cx} {pins:List (Addr × Obj)} {σ:St} {H:Hp} {s:Shared} {E:Value->Shared->Prop}
theorem Inv.wish (I:Inv X pins σ H s) (E:Value->Shared->Prop):Inv (X.wish E) pins σ H s:=⟨I.ok.wish E,I.os,I.bare,I.base,I.loc,I.cell,I.free,I.freeC,I.pin,I.hok,I.len⟩
theorem Inv.unwish (I:Inv (X.wish E) pins σ H s):Inv X pins σ H s:=⟨I.ok.unwish,I.os,I.bare,I.base,I.loc,I.cell,I.free,I.freeC,I.pin,I.hok,I.len⟩
theorem SP.unwish {D:Ends} {f:Flow} {s':Shared} (h:SP (X.wish E) pins D f s'):SP X pins D f s':=by
 cases f with
 | next=>obtain ⟨σ',H',I,q⟩:=h;exact ⟨σ',H',I.unwish,q⟩
 | brk=>obtain ⟨σ',H',I,q⟩:=h;exact ⟨σ',H',I.unwish,q⟩
 | cont=>obtain ⟨σ',H',I,q⟩:=h;exact ⟨σ',H',I.unwish,q⟩
 | ret u=>obtain ⟨v,σ',H',I,r,q⟩:=h;exact ⟨v,σ',H',I.unwish,r,q⟩
theorem PSs.nox {st:List Stmt} {t:TS} (h:PSs X.nox st t):PSs X st t:=fun pins s σ H D I hw =>
 wpAny_mono (h pins s σ H D (I.wish _) hw) (fun _ _ q=>q.unwish) fun _ _ z=>False.elim z
end
section
variable {X:Cx} {st:Stmt} {rest:List Stmt} {t u:TS} {e:Expr} {te:TE} {pos:Pos}
def tNext:TS:=fun D σ H=>D.nx σ H
def tSeq (t u:TS):TS:=fun D σ H=>t { D with nx:=u D } σ H
theorem pss_nil:PSs X [] tNext:=fun _ _ σ H _ I h=>wpAny_execs_nil ⟨σ,H,I,h⟩
theorem pss_cons (h1:PS X st t) (h2:PSs X rest u):PSs X (st::rest) (tSeq t u):=by
 intro pins s σ H D I h
 refine wpAny_execs_cons (thn (h1 pins s σ H { D with nx:=u D } I h) fun f s1 q=>?_)
 cases f with
 | next =>
  obtain ⟨σ',H',I',q⟩:=q
  exact h2 pins s1 σ' H' D I' q
 | ret v=>exact q
 | brk=>exact q
 | cont=>exact q
theorem pss_one (h1:PS X st t):PSs X [st] t:=by
 intro pins s σ H D I h
 refine wpAny_execs_cons (thn (h1 pins s σ H D I h) fun f s1 q=>?_)
 cases f with
 | next=>exact wpAny_execs_nil q
 | ret v=>exact q
 | brk=>exact q
 | cont=>exact q
theorem Inv.quiet {pins:List (Addr × Obj)} {σ:St} {H:Hp} {s:Shared} (I:Inv X pins σ H s):interactive X.env=false:=by simp [interactive,I.ok.kind]
def tDrop (te:TE):TS:=fun D σ H=>te σ H fun _ H1=>D.nx σ H1
theorem ps_expr (he:PE X e te) (hs:swapsWith e none pos.line X.env=pure false:=by rfl):PS X (.Expr e pos) (tDrop te):=by
 intro pins s σ H D I h
 exact wpAny_Expr_any (thn (he pins s σ H _ I h) fun v s1 ⟨x,H1,I1,r1,q1⟩=>⟨σ,H1,I1,q1⟩) I.quiet hs
def tRet (te:TE):TS:=fun D σ H=>te σ H D.rt
theorem ps_ret (he:PE X e te):PS X (.Return (some e) pos) (tRet te):=by
 intro pins s σ H D I h
 exact wpAny_Return_some (thn (he pins s σ H _ I h) fun v s1 ⟨x,H1,I1,r1,q1⟩=>⟨x,σ,H1,I1,r1,q1⟩)
def tIfS (c:TT) (t u:TS):TS:=fun D σ H=>c σ H fun b H1=>if b=true then t D σ H1 else u D σ H1
theorem ps_if {c:Expr} {a b:List Stmt} {tc:TT} (hc:PT X c tc) (ha:PSs X a t) (hb:PSs X b u):PS X (.If c a b pos) (tIfS tc t u):=by
 intro pins s σ H D I h
 refine wpAny_If (thn (hc pins s σ H _ I h) fun d s1 ⟨H1,I1,q1⟩=>?_)
 cases d with
 | true=>exact ha pins s1 σ H1 D I1 q1
 | false=>exact hb pins s1 σ H1 D I1 q1
def tNever:TS:=fun _ _ _=>False
theorem ps_never:PS X st tNever:=fun _ _ _ _ _ _ h=>h.elim
end
abbrev TG:=V->St->Hp->(St->Hp->Prop)->Prop
abbrev TGs:=List V->St->Hp->(St->Hp->Prop)->Prop
def PG (X:Cx) (target:Expr) (t:TG):Prop :=
 ∀ (pins:List (Addr × Obj)) (s:Shared) (σ:St) (H:Hp) (v:V) (u:Value) (Q:St->Hp->Prop),Inv X pins σ H s->RelV v u->t v σ H Q ->
  wpAny (model X.prog X.w) X.A (assign target X.env u) (fun _ s'=>∃ σ' H',Inv X pins σ' H' s'/\Q σ' H') X.xe s
def PGs (X:Cx) (ts:List Expr) (t:TGs):Prop :=
 ∀ (pins:List (Addr × Obj)) (s:Shared) (σ:St) (H:Hp) (vs:List V) (us:List Value) (Q:St->Hp->Prop),Inv X pins σ H s->Vals vs us->t vs σ H Q ->
  wpAny (model X.prog X.w) X.A (assignInOrder ((assignEach ts X.env).map (·.2)) us) (fun _ s'=>∃ σ' H',Inv X pins σ' H' s'/\Q σ' H') X.xe s
abbrev TSet:=V->V->V->Hp->(Hp->Prop)->Prop
def PSet (X:Cx) (t:TSet):Prop :=
 ∀ (pins:List (Addr × Obj)) (s:Shared) (σ:St) (H:Hp) (o i v:V) (ov iv u:Value) (Q:Hp->Prop),Inv X pins σ H s->RelV o ov->RelV i iv->RelV v u->t o i v H Q ->
  wpAny (model X.prog X.w) X.A (setItem ov iv u) (fun _ s'=>∃ H',Inv X pins σ H' s'/\Q H') X.xe s
section
variable {X:Cx} {pos:Pos}
def gName (i:Nat):TG:=fun v σ H Q=>Q (σ.set i (some v)) H
theorem pg_name {i:Nat} {x:Str} (hN:X.N.Nodup) (hi:X.N[i]?=some x) (hx:Loc X.env.scope x) (hf:X.fn x=true\/X.env.scope.names.lookup x=some .local:=by first | exact .inl rfl | exact .inr rfl | assumption):PG X (.Name x pos) (gName i):=by
 intro pins s σ H v u Q I r h
 exact wpAny_assign_Name (store_ok I hN hi hx r (fun s' I'=>⟨_,H,I',h⟩) hf)
def gNil:TGs:=fun vs σ H Q=>vs=[]/\Q σ H
def gCons (t:TG) (u:TGs):TGs:=fun vs σ H Q=>∃ v r,vs=v::r/\t v σ H fun σ' H'=>u r σ' H' Q
theorem pgs_nil:PGs X [] gNil:=by
 intro pins s σ H vs us Q I r h
 obtain ⟨e,h⟩:=h
 subst e
 cases r
 exact assignInOrder_nil ⟨σ,H,I,h⟩
theorem pgs_cons {e:Expr} {es:List Expr} {t:TG} {u:TGs} (h1:PG X e t) (h2:PGs X es u)
  (hs:(assignEach (e::es) X.env).map (·.2)=assign e X.env::(assignEach es X.env).map (·.2):=by rfl):PGs X (e::es) (gCons t u):=by
 intro pins s σ H vs us Q I r h
 obtain ⟨v,vr,e1,h⟩:=h
 subst e1
 cases r with
 | cons r rr =>
  rw [hs]
  refine assignInOrder_cons (thn (h1 pins s σ H _ _ _ I r h) fun _ s1 ⟨σ1,H1,I1,q1⟩=>?_)
  exact h2 pins s1 σ1 H1 _ _ Q I1 rr q1
def gTup (K:PySem.W.Frag) (n:Nat) (t:TGs):TG:=fun v σ H Q=>∃ a xs,v=.ref a/\SqT K H a xs/\xs.length=n/\t xs σ H Q
theorem pg_tup {es:List Expr} {k:Nat} {t:TGs} {n:Nat} (hc:X.calm=true) (h:PGs X es t)
  (hn:(assignEach es X.env).length=n:=by rfl) (hst:(assignEach es X.env).findIdx? (·.1)=none:=by rfl):PG X (.Tuple es k pos) (gTup X.K n t):=by
 intro pins s σ H v u Q I r hw
 obtain ⟨a,xs,e1,hq,hl,hw⟩:=hw
 subst e1
 cases r
 obtain ⟨its,rv,ht,hz⟩:=I.tuple hq
 refine assign_Tuple_tuple (I.ok.hd hc) ht (by simp [hn,<- hl,rv.length]) hst fun h' hx=>?_
 have I1:Inv X pins σ H { s with heap:=h' }:=I.kept (t':=s.toks) fun b o e=>hx b o (Nat.ne_of_lt (Heap.lt_size e)) e
 exact h pins _ σ H xs _ Q I1 (by simpa using rv) hw
def gSub (to ti:TE) (t:TSet):TG:=fun v σ H Q=>to σ H fun o H1=>ti σ H1 fun i H2=>t o i v H2 fun H3=>Q σ H3
theorem pg_sub {o i:Expr} {to ti:TE} {t:TSet} (ho:PE X o to) (hi:PE X i ti) (hs:PSet X t)
  (ha:∀ v,assign (.Subscript o i pos) X.env v=(do
   let ov <- holding [v] (eval o X.env)
   let iv <- holding [v,ov] (eval i X.env)
   standAt pos
   holding [v,ov,iv] (setItem ov iv v)
   release [v,ov,iv] []):=by intro _;rfl):PG X (.Subscript o i pos) (gSub to ti t):=by
 intro pins s σ H v u Q I r h
 rw [ha]
 refine wpAny_bind (wpAny_holding (thn (ho pins s σ H _ I h) fun ov s1 ⟨x,H1,I1,r1,q1⟩=>?_))
 refine wpAny_bind (wpAny_holding (thn (hi pins s1 σ H1 _ I1 q1) fun iv s2 ⟨y,H2,I2,r2,q2⟩=>?_))
 refine wpAny_bind (wpAny_standAt (wpAny_bind (wpAny_holding (thn (hs pins s2 σ H2 x y v ov iv u _ I2 r1 r2 r q2) fun _ s3 ⟨H3,I3,q3⟩=>?_))))
 exact wpAny_release ⟨σ,H3,I3,q3⟩
def tAsg (te:TE) (g:TG):TS:=fun D σ H=>te σ H fun x H1=>g x σ H1 D.nx
theorem ps_asg {tg e:Expr} {te:TE} {g:TG} (he:PE X e te) (hg:PG X tg g) (hs:swapsWithSole [tg] e pos.line X.env=pure false:=by rfl) (hw:swappedStores [tg] e X.env=pure none:=by rfl)
  (h1:(assignEach [tg] X.env).map (·.2)=[assign tg X.env]:=by rfl):PS X (.Assign [tg] e pos) (tAsg te g):=by
 intro pins s σ H D I h
 refine wpAny_Assign_stores (thn (he pins s σ H _ I h) fun v s1 ⟨x,H1,I1,r1,q1⟩=>?_) hs hw
 rw [h1]
 exact thn (hg pins s1 σ H1 x v _ I1 r1 q1) fun _ s2 q=>q
theorem ps_set {i:Nat} {x:Str} {e:Expr} {te:TE} {pos':Pos} (hN:X.N.Nodup) (hi:X.N[i]?=some x) (hx:Loc X.env.scope x) (he:PE X e te) (hs:swapsWith e (some (.Name x pos')) pos.line X.env=pure false:=by rfl) (hf:X.fn x=true\/X.env.scope.names.lookup x=some .local:=by first | exact .inl rfl | exact .inr rfl | assumption) :
  PS X (.Assign [.Name x pos'] e pos) (tAsg te (gName i)):=by
 intro pins s σ H D I h
 refine wpAny_Assign_Name (thn (he pins s σ H _ I h) fun v s1 ⟨y,H1,I1,r1,q1⟩=>?_) hs
 exact store_ok I1 hN hi hx r1 (fun s2 I2=>⟨_,H1,I2,q1⟩) hf
def tWhile (c:TT) (tb:TS):TS:=fun D σ H=>∃ W:Nat->St->Hp->Prop,(∃ m,W m σ H)/\∀ m σ H,W m σ H ->
 c σ H fun b H1=>if b=true then ∃ N:St->Hp->Prop,(∀ σ' H',N σ' H'->∃ m',m' < m/\W m' σ' H')/\tb { D with nx:=N,ct:=N,bk:=D.nx } σ H1 else D.nx σ H1
theorem ps_while {c:Expr} {body:List Stmt} {tc:TT} {tb:TS} (hp:PassesOwn (model X.prog X.w) X.A X.env X.xe) (hc:PT X c tc) (hb:PSs X body tb):PS X (.While c body [] pos) (tWhile tc tb):=by
 intro pins s σ H D I h
 obtain ⟨W,⟨m0,w0⟩,turn⟩:=h
 refine wpAny_While (codeAny_whileLoop (fun n s'=>∃ σ' H',Inv X pins σ' H' s'/\W n σ' H') ?_ m0 ⟨σ,H,I,w0⟩)
 rintro n s1 ⟨σ1,H1,I1,w1⟩
 refine wpAny_passesOwn hp (thn (hc pins s1 σ1 H1 _ I1 (turn n σ1 H1 w1)) fun b s2 ⟨H2,I2,q2⟩=>?_)
 cases b with
 | true =>
  obtain ⟨N,hN,q2⟩:=q2
  rw [if_pos rfl]
  refine wpAny_passesOwn hp (thn (hb pins s2 σ1 H2 _ I2 q2) fun f s3 q3=>?_)
  cases f with
  | next =>
   obtain ⟨σ3,H3,I3,n3⟩:=q3
   obtain ⟨m',hm,w3⟩:=hN σ3 H3 n3
   exact ⟨m',hm,σ3,H3,I3,w3⟩
  | cont =>
   obtain ⟨σ3,H3,I3,n3⟩:=q3
   obtain ⟨m',hm,w3⟩:=hN σ3 H3 n3
   exact ⟨m',hm,σ3,H3,I3,w3⟩
  | brk=>exact q3
  | ret v=>exact q3
 | false =>
  rw [if_neg Bool.false_ne_true]
  exact wpAny_execs_nil ⟨σ1,H2,I2,q2⟩
end
structure It where
 go:Nat->Hp->Prop
 yld:Nat->Hp->V->Hp->Prop
 stop:Nat->Hp->Prop
def FpOk (X:Cx) (pins:List (Addr × Obj)) (H:Hp) (b:Addr):Prop :=
 H b=none/\b≠X.env.locals/\b ∉ X.fs/\(b∈X.ex\/X.s₀.heap.objs.size<=b)/\(∀ x c,X.env.cells.lookup x=some c->c≠b)/\∀ p∈X.pn++pins,p.1≠b
theorem Inv.fpOk {X:Cx} {pins:List (Addr × Obj)} {σ:St} {H H':Hp} {s:Shared} {b:Addr} (I:Inv X pins σ H s) (hb:s.heap.objs.size<=b) (hn:H' b=none):FpOk X pins H' b:=by
 refine ⟨hn,Nat.ne_of_gt (Nat.lt_of_lt_of_le I.lt hb),I.nofs hb,.inr (Nat.le_trans I.sz hb),fun x c e z=>?_,fun p hp z=>?_⟩
 ·obtain ⟨v,q⟩:=I.cell x c e
  exact absurd (Nat.lt_of_lt_of_le q.lt (by rw [z];exact hb)) (Nat.lt_irrefl _)
 ·exact absurd (Nat.lt_of_lt_of_le (Heap.lt_size (I.pin p hp).1) (by rw [z];exact hb)) (Nat.lt_irrefl _)
structure Turn (P:Program) (w:World) (K:PySem.W.Frag) (tg:Expr) (J:It) (fp:List Addr) (it:Addr) (tn:Nat->Heap->Prop):Prop where
 mem:it∈fp
 obj:∀ i h,tn i h->∀ b∈fp,∃ o,h.get? b=some o/\∀ v,o.data≠.cell v
 keep:∀ i h h',tn i h->(∀ b∈fp,∀ o,h.get? b=some o->h'.get? b=some o)->tn i h'
 item:∀ (X:Cx),X.prog=P->X.w=w->X.K=K->X.calm=true->∀ (i:Nat) (pins:List (Addr × Obj)) (s:Shared) (σ:St) (H:Hp) (E:Value->Shared->Prop),Inv X pins σ H s->(∀ b∈fp,FpOk X pins H b)->tn i s.heap->J.go i H ->
  wpAny (model P w) X.A (pyNext (.ref it)) (fun r s1=>∃ u,r=some u /\
   wpAny (model P w) X.A (letOwnedTupleGo tg (.ref it) u) (fun _ s2=>∃ x H',Inv X pins σ H' s2/\RelV x u/\J.yld i H x H'/\tn (i+1) s2.heap/\∀ b∈fp,H' b=none) E s1) E s
 done:∀ (X:Cx),X.prog=P->X.w=w->X.K=K->X.calm=true->∀ (i:Nat) (pins:List (Addr × Obj)) (s:Shared) (σ:St) (H:Hp) (E:Value->Shared->Prop),Inv X pins σ H s->(∀ b∈fp,FpOk X pins H b)->tn i s.heap->J.stop i H ->
  wpAny (model P w) X.A (pyNext (.ref it)) (fun r s1=>r=none/\Inv X pins σ H s1) E s
 self:∀ (A:Around) (i:Nat) (s:Shared) (Q:Value->Shared->Prop) (E:Value->Shared->Prop),tn i s.heap->Q (.ref it) s->wpAny (model P w) A (pyIter (.ref it)) Q E s
abbrev TI:=St->Hp->(It->Hp->Prop)->Prop
def PIE (X:Cx) (pins:List (Addr × Obj)) (σ:St) (tg:Expr) (R:It->Hp->Prop) (itv:Value) (s2:Shared):Prop :=
 ∃ (it:Addr) (fp:List Addr) (tn:Nat->Heap->Prop) (J:It) (H':Hp),itv=.ref it/\Inv X pins σ H' s2/\Turn X.prog X.w X.K tg J fp it tn/\tn 0 s2.heap/\(∀ b∈fp,FpOk X pins H' b)/\R J H'
def PI (X:Cx) (tg iter:Expr) (wi:TI):Prop :=
 ∀ (pins:List (Addr × Obj)) (s:Shared) (σ:St) (H:Hp) (R:It->Hp->Prop),Inv X pins σ H s->wi σ H R ->
  wpAny (model X.prog X.w) X.A (eval iter X.env) (fun v s1=>wpAny (model X.prog X.w) X.A (pyIter v) (PIE X pins σ tg R) X.xe s1) X.xe s
theorem go_of {M : Model} {A : Around} {E : Value → Shared → Prop} {s : Shared} {tg : Expr} {it : Addr} {u : Value} {o : Obj} {n : String} {vs : Array Value} {Q : Unit → Shared → Prop} (ho : s.heap.get? it = some o) (hc : o.cls = .type n) (hd : o.data = .fields vs)
    (hn : ["enumerate", "zip", "dict_itemiterator", "dict_reverseitemiterator", "odict_iterator", "itertools.zip_longest", "itertools.pairwise"].contains n = false) (hQ : Q () s) : wpAny M A (letOwnedTupleGo tg (.ref it) u) Q E s := by
  unfold letOwnedTupleGo
  cases tg <;> first
    | exact wpAny_pure hQ
    | (cases u <;> first
        | exact wpAny_pure hQ
        | (refine wpAny_bind (wpAny_load ho ?_)
           rw [hc, hd]
           show wpAny M A (if (["enumerate", "zip", "dict_itemiterator", "dict_reverseitemiterator", "odict_iterator", "itertools.zip_longest", "itertools.pairwise"].contains n && vs[0]? == some (rawInt _)) = true then _ else _) Q E s
           rw [if_neg (by intro h; rw [hn, Bool.false_and] at h; cases h)]
           exact wpAny_pure hQ))
def Itl (K:PySem.W.Frag) (a:Addr):It :=
 ⟨fun i H=>∃ xs x,SqL K H a xs/\xs[i]?=some x,fun i H x H'=>H'=H/\∀ xs,SqL K H a xs->xs[i]?=some x,fun i H=>∃ xs,SqL K H a xs/\xs.length<=i⟩
def Itt (K:PySem.W.Frag) (a:Addr):It :=
 ⟨fun i H=>∃ xs x,SqT K H a xs/\xs[i]?=some x,fun i H x H'=>H'=H/\∀ xs,SqT K H a xs->xs[i]?=some x,fun i H=>∃ xs,SqT K H a xs/\xs.length<=i⟩
def Itr (lo:Int) (n:Nat):It:=⟨fun i _=>i < n,fun i H x H'=>H'=H/\x=.int (lo+i),fun i _=>n<=i⟩
theorem turn_list {P:Program} {w:World} {K:PySem.W.Frag} {tg:Expr} (a it:Addr):Turn P w K tg (Itl K a) [it] it (fun i h=>h.IsListIter it a i) where
 mem:=by simp
 obj:=fun i h st b hb=>by
  have e:b=it:=by simpa using hb
  subst e
  obtain ⟨o,e,c,d⟩:=st
  exact ⟨o,e,fun v z=>by rw [d] at z;cases z⟩
 keep:=fun i h h' st k=>st.at fun o e=>k it (by simp) o e
 item:=by
  intro X hP hw hK hc i pins s σ H E I hf st hg
  subst hP hw hK
  obtain ⟨xs,x,hq,hx⟩:=hg
  obtain ⟨its,rv,p,hz⟩:=I.list hq
  obtain ⟨u,hu,ru⟩:=rv.get hx
  obtain ⟨f0,f1,f2,f3,f4,f5⟩:=hf it (by simp)
  refine wpAny_pyNext_list_item st p.isList (x:=u) (by simpa using hu) fun h' st' sb=>?_
  have I1:Inv X pins σ H { s with heap:=h' }:=I.turned (t':=s.toks) (fun b o hb e=>(sb.2 b hb).trans e) f0 f1 f3 f4 f5
  obtain ⟨o,e,c,d⟩:=id st'
  exact ⟨u,rfl,go_of (s:={ s with heap:=h' }) e c d (by decide) ⟨x,H,I1,ru,⟨rfl,fun ys hy=>by rw [I.list_inj hy hq];exact hx⟩,st',fun b hb=>(hf b hb).1⟩⟩
 done:=by
  intro X hP hw hK hc i pins s σ H E I hf st hg
  subst hP hw hK
  obtain ⟨xs,hq,hx⟩:=hg
  obtain ⟨its,rv,p,hz⟩:=I.list hq
  obtain ⟨f0,f1,f2,f3,f4,f5⟩:=hf it (by simp)
  have hl:=rv.length
  exact wpAny_pyNext_list_end (I.ok.hd hc) st p.isList (by simp;omega) fun h' eb=>⟨rfl,I.turned (t':=s.toks) (fun b o hb e=>eb b o hb e) f0 f1 f3 f4 f5⟩
 self:=fun _ _ _ _ _ st h=>wpAny_pyIter_listiter st h
theorem turn_tuple {P:Program} {w:World} {K:PySem.W.Frag} {tg:Expr} (a it:Addr):Turn P w K tg (Itt K a) [it] it (fun i h=>h.IsTupleIter it a i) where
 mem:=by simp
 obj:=fun i h st b hb=>by
  have e:b=it:=by simpa using hb
  subst e
  obtain ⟨o,e,c,d⟩:=st
  exact ⟨o,e,fun v z=>by rw [d] at z;cases z⟩
 keep:=fun i h h' st k=>st.at fun o e=>k it (by simp) o e
 item:=by
  intro X hP hw hK hc i pins s σ H E I hf st hg
  subst hP hw hK
  obtain ⟨xs,x,hq,hx⟩:=hg
  obtain ⟨its,rv,p,hz⟩:=I.tuple hq
  obtain ⟨u,hu,ru⟩:=rv.get hx
  obtain ⟨f0,f1,f2,f3,f4,f5⟩:=hf it (by simp)
  refine wpAny_pyNext_tuple_item st (show s.heap.IsTuple a its.toArray from p) (x:=u) (by simpa using hu) fun h' st' sb=>?_
  have I1:Inv X pins σ H { s with heap:=h' }:=I.turned (t':=s.toks) (fun b o hb e=>(sb.2 b hb).trans e) f0 f1 f3 f4 f5
  obtain ⟨o,e,c,d⟩:=id st'
  exact ⟨u,rfl,go_of (s:={ s with heap:=h' }) e c d (by decide) ⟨x,H,I1,ru,⟨rfl,fun ys hy=>by rw [I.tuple_inj hy hq];exact hx⟩,st',fun b hb=>(hf b hb).1⟩⟩
 done:=by
  intro X hP hw hK hc i pins s σ H E I hf st hg
  subst hP hw hK
  obtain ⟨xs,hq,hx⟩:=hg
  obtain ⟨its,rv,p,hz⟩:=I.tuple hq
  obtain ⟨f0,f1,f2,f3,f4,f5⟩:=hf it (by simp)
  have hl:=rv.length
  exact wpAny_pyNext_tuple_end (I.ok.hd hc) st (show s.heap.IsTuple a its.toArray from p) (by simp;omega) fun h' eb=>⟨rfl,I.turned (t':=s.toks) (fun b o hb e=>eb b o hb e) f0 f1 f3 f4 f5⟩
 self:=fun _ _ _ _ _ st h=>wpAny_pyIter_tupleiter st h
theorem turn_range {P:Program} {w:World} {K:PySem.W.Frag} {tg:Expr} (it:Addr) (lo:Int) (n:Nat):Turn P w K tg (Itr lo n) [it] it (fun i h=>IsRangeIter h it (lo+(i:Nat) * 1) ((n:Int) - (i:Nat)) 1) where
 mem:=by simp
 obj:=fun i h st b hb=>by
  have e:b=it:=by simpa using hb
  subst e
  exact ⟨_,st,fun v z=>by
   have z':Data.fields _=Data.cell v:=z
   cases z'⟩
 keep:=fun i h h' st k=>k it (by simp) _ st
 item:=by
  intro X hP hw hK hc i pins s σ H E I hf st hg
  subst hP hw hK
  obtain ⟨f0,f1,f2,f3,f4,f5⟩:=hf it (by simp)
  have W:=Walks.range (prog:=X.prog) (w:=X.w) (I.ok.hd hc) it lo 1 n
  refine W.item i s _ _ hg st fun v h' tk hv st' kk=>?_
  obtain ⟨t,rfl⟩:=hv
  have I1:Inv X pins σ H { s with heap:=h',toks:=tk }:=I.turned (fun b o hb e=>kk b o (by simpa using hb) e) f0 f1 f3 f4 f5
  refine ⟨_,rfl,go_of (s:={ s with heap:=h',toks:=tk }) (n:="range_iterator") st' rfl rfl (by decide) ⟨.int (lo+i),H,I1,⟨t,?_⟩,⟨rfl,rfl⟩,st',fun b hb=>(hf b hb).1⟩⟩
  rw [Int.mul_one]
 done:=by
  intro X hP hw hK hc i pins s σ H E I hf st hg
  subst hP hw hK
  obtain ⟨f0,f1,f2,f3,f4,f5⟩:=hf it (by simp)
  exact wpAny_pyNext_range_end (I.ok.hd hc) st (by have:n<=i:=hg;omega) fun h' eb=>⟨rfl,I.turned (t':=s.toks) (fun b o hb e=>eb b o hb e) f0 f1 f3 f4 f5⟩
 self:=fun _ _ _ _ _ st h=>wpAny_pyIter_rangeiter st h
section
variable {X:Cx} {tg:Expr}
def iList (K:PySem.W.Frag) (tl:TE):TI:=fun σ H R=>tl σ H fun x H1=>∃ a,x=.ref a/\(∃ xs,SqL K H1 a xs)/\R (Itl K a) H1
def iTup (K:PySem.W.Frag) (tl:TE):TI:=fun σ H R=>tl σ H fun x H1=>∃ a,x=.ref a/\(∃ xs,SqT K H1 a xs)/\R (Itt K a) H1
theorem pi_list {l:Expr} {tl:TE} (hl:PE X l tl):PI X tg l (iList X.K tl):=by
 intro pins s σ H R I h
 refine thn (hl pins s σ H _ I h) fun v s1 ⟨x,H1,I1,r1,q1⟩=>?_
 obtain ⟨a,e,⟨xs,hq⟩,q⟩:=q1
 subst e
 cases r1
 obtain ⟨its,rv,p,hz⟩:=I1.list hq
 refine wpAny_pyIter_list p.isList ?_
 refine ⟨s1.heap.objs.size,[s1.heap.objs.size],_,_,H1,rfl,I1.kept (t':=s1.toks) fun b o e=>Heap.get?_push_of_some _ e,turn_list a _,⟨_,Heap.get?_push_size _ rfl,rfl,rfl⟩,fun b hb=>?_,q⟩
 have e:b=s1.heap.objs.size:=by simpa using hb
 subst e
 exact I1.fpOk (Nat.le_refl _) (I1.hok.fresh (Nat.le_refl _))
theorem pi_tup {l:Expr} {tl:TE} (hl:PE X l tl):PI X tg l (iTup X.K tl):=by
 intro pins s σ H R I h
 refine thn (hl pins s σ H _ I h) fun v s1 ⟨x,H1,I1,r1,q1⟩=>?_
 obtain ⟨a,e,⟨xs,hq⟩,q⟩:=q1
 subst e
 cases r1
 obtain ⟨its,rv,p,hz⟩:=I1.tuple hq
 refine wpAny_pyIter_tuple (show s1.heap.IsTuple a its.toArray from p) ?_
 refine ⟨s1.heap.objs.size,[s1.heap.objs.size],_,_,H1,rfl,I1.kept (t':=s1.toks) fun b o e=>Heap.get?_push_of_some _ e,turn_tuple a _,⟨_,Heap.get?_push_size _ rfl,rfl,rfl⟩,fun b hb=>?_,q⟩
 have e:b=s1.heap.objs.size:=by simpa using hb
 subst e
 exact I1.fpOk (Nat.le_refl _) (I1.hok.fresh (Nat.le_refl _))
theorem range_it {pins:List (Addr × Obj)} {σ:St} {H:Hp} {s:Shared} {R:It->Hp->Prop} {E:Value->Shared->Prop} {lo hi:Int} {t u v:Tok} {tk:Nat} (I:Inv X pins σ H s) (h1:-(2 ^ 62)<=lo) (h2:lo < 2 ^ 62) (h3:-(2 ^ 62)<=hi) (h4:hi < 2 ^ 62)
  (q:R (Itr lo (hi - lo).toNat) H):wpAny (model X.prog X.w) X.A (pyIter (.ref s.heap.objs.size)) (PIE X pins σ tg R) E { s with heap:=s.heap.push { cls:=.type "range",data:=.fields #[.int lo t,.int hi u,.int 1 v] },toks:=tk }:=by
 refine wpAny_pyIter_range (IsRange.new ..) (small_one h1 h2 h3 h4) ?_
 have I1:Inv X pins σ H { s with heap:=s.heap.push { cls:=.type "range",data:=.fields #[.int lo t,.int hi u,.int 1 v] },toks:=tk }:=I.kept fun b o e=>Heap.get?_push_of_some _ e
 refine ⟨(s.heap.push { cls:=.type "range",data:=.fields #[.int lo t,.int hi u,.int 1 v] }).objs.size,[(s.heap.push { cls:=.type "range",data:=.fields #[.int lo t,.int hi u,.int 1 v] }).objs.size],_,_,H,rfl,
  I1.kept (t':=tk) fun b o e=>Heap.get?_push_of_some _ e,turn_range _ lo (hi - lo).toNat,?_,fun b hb=>?_,q⟩
 ·have e1:lo+((0:Nat):Int) * 1=lo:=by simp
  have e2:(((hi - lo).toNat:Nat):Int) - ((0:Nat):Int)=Builtin.Range.rangeSize lo hi 1:=by rw [rangeSize_one];split<;>omega
  show IsRangeIter _ _ (lo+((0:Nat):Int) * 1) ((((hi - lo).toNat:Nat):Int) - ((0:Nat):Int)) 1
  rw [e1,e2]
  exact Heap.get?_push_size _ rfl
 ·have e:b=(s.heap.push { cls:=.type "range",data:=.fields #[.int lo t,.int hi u,.int 1 v] }).objs.size:=by simpa using hb
  subst e
  exact I1.fpOk (Nat.le_refl _) (I1.hok.fresh (Nat.le_refl _))
def iRng1 (ta:TA):TI:=fun σ H R=>ta σ H fun vs H1=>∃ j:Int,vs=[.int j]/\-(2 ^ 62)<=j/\j < 2 ^ 62/\R (Itr 0 j.toNat) H1
theorem pi_range1 {a:Expr} {ta:TA} {p pos:Pos} (hg:Gl X "range") (hm:X.mg "range" = none) (ha:PA X [a] ta) (hs:starEach [a] X.env=[(false,eval a X.env)]:=by rfl):PI X tg (.Call (.Name "range" p) [a] [] pos) (iRng1 ta):=by
 intro pins s σ H R I h
 refine Call_ (ld_blt I hg hm boot_range (PyProof.Rows.callWith_type1 (thn (ha pos pins s σ H _ I h) fun us s1 ⟨vs,H1,I1,r1,q1⟩=>?_) hs rfl))
 obtain ⟨j,e,q1,q2,q⟩:=q1
 subst e
 cases r1 with
 | cons r rr =>
  cases rr
  obtain ⟨t,rfl⟩:=r
  exact call_range_1 (range_it I1 (by omega) (by omega) q1 q2 (by simpa using q))
def tFor (wi:TI) (g:TG) (tb:TS):TS:=fun D σ H=>wi σ H fun J H1=>∃ W:Nat->Nat->St->Hp->Prop,(∃ m,W 0 m σ H1)/\∀ i m σ H,W i m σ H ->
 (J.stop i H/\D.nx σ H)\/(J.go i H/\∃ N:St->Hp->Prop,(∀ σ' H',N σ' H'->∃ m',m' < m/\W (i+1) m' σ' H')/\∀ x H',J.yld i H x H'->g x σ H' fun σ2 H2=>tb { D with nx:=N,ct:=N,bk:=D.nx } σ2 H2)
def pinsAt (fp:List Addr) (h:Heap):List (Addr × Obj):=fp.filterMap fun b=>(h.get? b).map fun o=>(b,o)
theorem mem_pinsAt {fp:List Addr} {h:Heap} {b:Addr} {o:Obj} (hb:b∈fp) (e:h.get? b=some o):(b,o)∈pinsAt fp h:=List.mem_filterMap.mpr ⟨b,hb,by rw [e];rfl⟩
theorem of_pinsAt {fp:List Addr} {h:Heap} {p:Addr × Obj} (hp:p∈pinsAt fp h):p.1∈fp/\h.get? p.1=some p.2:=by
 obtain ⟨b,hb,e⟩:=List.mem_filterMap.mp hp
 cases q:h.get? b with
 | none=>rw [q] at e;cases e
 | some o =>
  rw [q] at e
  have e':(b,o)=p:=Option.some.inj e
  subst e'
  exact ⟨hb,q⟩
theorem Inv.pinned {pins:List (Addr × Obj)} {σ:St} {H:Hp} {s:Shared} {fp:List Addr} (I:Inv X pins σ H s) (hf:∀ b∈fp,FpOk X pins H b) (ho:∀ b∈fp,∃ o,s.heap.get? b=some o/\∀ v,o.data≠.cell v):Inv X (pins++pinsAt fp s.heap) σ H s :=
 I.pins_of fun p hp=>(List.mem_append.mp hp).elim (fun z=>I.pin p (List.mem_append_right _ z)) fun z=>by
  obtain ⟨hb,e⟩:=of_pinsAt z
  obtain ⟨f0,f1,f2,_⟩:=hf p.1 hb
  obtain ⟨o,e',d⟩:=ho p.1 hb
  rw [e] at e';cases e'
  exact ⟨e,f0,f1,f2,d⟩
theorem Inv.unpinned {pins pl:List (Addr × Obj)} {σ:St} {H:Hp} {s:Shared} (I:Inv X (pins++pl) σ H s):Inv X pins σ H s:=I.pins_of fun p hp=>I.pin p (List.mem_append_right _ (List.mem_append_left _ hp))
theorem ps_for {iter:Expr} {body:List Stmt} {wi:TI} {g:TG} {tb:TS} {pos:Pos} (hp:PassesOwn (model X.prog X.w) X.A X.env X.xe) (hc:X.calm=true) (hi:PI X tg iter wi) (hg:PG X tg g) (hb:PSs X body tb)
  (hs:∀ x,foldedSetIterable iter X.env x=pure x:=by intro _;rfl):PS X (.For tg iter body [] pos) (tFor wi g tb):=by
 intro pins s σ H D I h
 refine wpAny_For (thn (hi pins s σ H _ I h) fun v s1 h1=>thn h1 fun itv s2 h2=>?_) hs
 obtain ⟨it,fp,tn,J,H2,e,I2,T,st2,f2,W,⟨m0,w0⟩,turn⟩:=h2
 subst e
 have stat:∀ {H':Hp},(∀ b∈fp,H' b=none)->∀ b∈fp,FpOk X pins H' b:=fun hn b hb=>⟨hn b hb,(f2 b hb).2⟩
 refine codeAny_forLoop_any (fun n s'=>∃ i σ' H',Inv X pins σ' H' s'/\tn i s'.heap/\(∀ b∈fp,H' b=none)/\W i n σ' H') ?_ m0 ⟨0,σ,H2,I2,st2,fun b hb=>(f2 b hb).1,w0⟩
 rintro n s3 ⟨i,σ3,H3,I3,st3,fr3,w3⟩
 rcases turn i n σ3 H3 w3 with ⟨stop,qn⟩ | ⟨go,N,hN,step⟩
 ·refine wpAny_passesOwn hp (thn (T.done X rfl rfl rfl hc i pins s3 σ3 H3 X.xe I3 (stat fr3) st3 stop) fun r s4 ⟨hr,I4⟩=>?_)
  subst hr
  exact wpAny_execs_nil ⟨σ3,H3,I4,qn⟩
 ·refine wpAny_passesOwn hp (thn (T.item X rfl rfl rfl hc i pins s3 σ3 H3 X.xe I3 (stat fr3) st3 go) fun r s4 ⟨u,hr,h4⟩=>?_)
  subst hr
  refine wpAny_passesOwn hp (thn h4 fun _ s5 ⟨x,H5,I5,r5,y5,st5,fr5⟩=>?_)
  have I5':=I5.pinned (stat fr5) (T.obj _ _ st5)
  refine wpAny_passesOwn hp (thn (hg _ s5 σ3 H5 x u _ I5' r5 (step x H5 y5)) fun _ s6 ⟨σ6,H6,I6,q6⟩=>?_)
  refine wpAny_passesOwn hp (thn (hb _ s6 σ6 H6 _ I6 q6) fun f s7 q7=>?_)
  have again:∀ {σ7:St} {H7:Hp},Inv X (pins++pinsAt fp s5.heap) σ7 H7 s7->N σ7 H7->∃ m,m < n/\∃ i σ' H',Inv X pins σ' H' s7/\tn i s7.heap/\(∀ b∈fp,H' b=none)/\W i m σ' H':=fun {σ7 H7} I7 n7=>by
   obtain ⟨m',hm,w7⟩:=hN σ7 H7 n7
   refine ⟨m',hm,i+1,σ7,H7,I7.unpinned,T.keep _ _ _ st5 fun b hb o e=>(I7.pin (b,o) (List.mem_append_right _ (List.mem_append_right _ (mem_pinsAt hb e)))).1,fun b hb=>?_,w7⟩
   obtain ⟨o,e,d⟩:=T.obj _ _ st5 b hb
   exact (I7.pin (b,o) (List.mem_append_right _ (List.mem_append_right _ (mem_pinsAt hb e)))).2.1
  cases f with
  | next=>obtain ⟨σ7,H7,I7,n7⟩:=q7;exact again I7 n7
  | cont=>obtain ⟨σ7,H7,I7,n7⟩:=q7;exact again I7 n7
  | brk=>obtain ⟨σ7,H7,I7,q7⟩:=q7;exact ⟨σ7,H7,I7.unpinned,q7⟩
  | ret v=>obtain ⟨x7,σ7,H7,I7,r7,q7⟩:=q7;exact ⟨x7,σ7,H7,I7.unpinned,r7,q7⟩
end
theorem for_list {K:PySem.W.Frag} {a:Addr} {xs:List V} {g:TG} {tb:TS} {D:Ends} {σ:St} {H:Hp} (Pv:Nat->St->Hp->Prop) (h0:Pv 0 σ H) (hl:∀ i σ H,i<=xs.length->Pv i σ H->SqL K H a xs)
  (hs:∀ i x σ H,xs[i]?=some x->Pv i σ H->g x σ H fun σ2 H2=>tb { D with nx:=Pv (i+1),ct:=Pv (i+1),bk:=D.nx } σ2 H2) (hd:∀ σ H,Pv xs.length σ H->D.nx σ H) :
  ∃ W:Nat->Nat->St->Hp->Prop,(∃ m,W 0 m σ H)/\∀ i m σ H,W i m σ H ->
   ((Itl K a).stop i H/\D.nx σ H)\/((Itl K a).go i H/\∃ N:St->Hp->Prop,(∀ σ' H',N σ' H'->∃ m',m' < m/\W (i+1) m' σ' H')/\∀ x H',(Itl K a).yld i H x H'->g x σ H' fun σ2 H2=>tb { D with nx:=N,ct:=N,bk:=D.nx } σ2 H2):=by
 refine ⟨fun i m σ H=>m=xs.length - i/\i<=xs.length/\Pv i σ H,⟨xs.length,by simp,Nat.zero_le _,h0⟩,?_⟩
 rintro i m σ H ⟨rfl,hi,p⟩
 have q:=hl i σ H hi p
 by_cases hlt:i < xs.length
 ·refine .inr ⟨⟨xs,xs[i],q,by simp [hlt]⟩,Pv (i+1),fun σ' H' p'=>⟨xs.length - (i+1),by omega,rfl,hlt,p'⟩,fun x H' y=>?_⟩
  obtain ⟨e,y⟩:=y
  subst e
  exact hs i x σ _ (y xs q) p
 ·have e:i=xs.length:=by omega
  subst e
  exact .inl ⟨⟨xs,q,Nat.le_refl _⟩,hd σ H p⟩
theorem for_tup {K:PySem.W.Frag} {a:Addr} {xs:List V} {g:TG} {tb:TS} {D:Ends} {σ:St} {H:Hp} (Pv:Nat->St->Hp->Prop) (h0:Pv 0 σ H) (hl:∀ i σ H,i<=xs.length->Pv i σ H->SqT K H a xs)
  (hs:∀ i x σ H,xs[i]?=some x->Pv i σ H->g x σ H fun σ2 H2=>tb { D with nx:=Pv (i+1),ct:=Pv (i+1),bk:=D.nx } σ2 H2) (hd:∀ σ H,Pv xs.length σ H->D.nx σ H) :
  ∃ W:Nat->Nat->St->Hp->Prop,(∃ m,W 0 m σ H)/\∀ i m σ H,W i m σ H ->
   ((Itt K a).stop i H/\D.nx σ H)\/((Itt K a).go i H/\∃ N:St->Hp->Prop,(∀ σ' H',N σ' H'->∃ m',m' < m/\W (i+1) m' σ' H')/\∀ x H',(Itt K a).yld i H x H'->g x σ H' fun σ2 H2=>tb { D with nx:=N,ct:=N,bk:=D.nx } σ2 H2):=by
 refine ⟨fun i m σ H=>m=xs.length - i/\i<=xs.length/\Pv i σ H,⟨xs.length,by simp,Nat.zero_le _,h0⟩,?_⟩
 rintro i m σ H ⟨rfl,hi,p⟩
 have q:=hl i σ H hi p
 by_cases hlt:i < xs.length
 ·refine .inr ⟨⟨xs,xs[i],q,by simp [hlt]⟩,Pv (i+1),fun σ' H' p'=>⟨xs.length - (i+1),by omega,rfl,hlt,p'⟩,fun x H' y=>?_⟩
  obtain ⟨e,y⟩:=y
  subst e
  exact hs i x σ _ (y xs q) p
 ·have e:i=xs.length:=by omega
  subst e
  exact .inl ⟨⟨xs,q,Nat.le_refl _⟩,hd σ H p⟩
theorem for_range {lo:Int} {n:Nat} {g:TG} {tb:TS} {D:Ends} {σ:St} {H:Hp} (Pv:Nat->St->Hp->Prop) (h0:Pv 0 σ H)
  (hs:∀ i σ H,i < n->Pv i σ H->g (.int (lo+i)) σ H fun σ2 H2=>tb { D with nx:=Pv (i+1),ct:=Pv (i+1),bk:=D.nx } σ2 H2) (hd:∀ σ H,Pv n σ H->D.nx σ H) :
  ∃ W:Nat->Nat->St->Hp->Prop,(∃ m,W 0 m σ H)/\∀ i m σ H,W i m σ H ->
   ((Itr lo n).stop i H/\D.nx σ H)\/((Itr lo n).go i H/\∃ N:St->Hp->Prop,(∀ σ' H',N σ' H'->∃ m',m' < m/\W (i+1) m' σ' H')/\∀ x H',(Itr lo n).yld i H x H'->g x σ H' fun σ2 H2=>tb { D with nx:=N,ct:=N,bk:=D.nx } σ2 H2):=by
 refine ⟨fun i m σ H=>m=n - i/\i<=n/\Pv i σ H,⟨n,by simp,Nat.zero_le _,h0⟩,?_⟩
 rintro i m σ H ⟨rfl,hi,p⟩
 by_cases hlt:i < n
 ·refine .inr ⟨hlt,Pv (i+1),fun σ' H' p'=>⟨n - (i+1),by omega,rfl,hlt,p'⟩,fun x H' y=>?_⟩
  obtain ⟨e,y⟩:=y
  subst e y
  exact hs i σ _ hlt p
 ·have e:i=n:=by omega
  subst e
  exact .inl ⟨Nat.le_refl _,hd σ H p⟩
abbrev R2:=V->V->Hp->VK->Prop
def OpR (X:Cx) (f:Value->Value->Sem Value) (r:R2):Prop :=
 ∀ (pins:List (Addr × Obj)) (s:Shared) (σ:St) (H:Hp) (x y:V) (v u:Value) (Q:VK),Inv X pins σ H s->RelV x v->RelV y u->r x y H Q ->
  wpAny (model X.prog X.w) X.A (f v u) (EP X pins σ Q) X.xe s
def UnR (X:Cx) (f:Value->Sem Value) (r:V->Hp->VK->Prop):Prop :=
 ∀ (pins:List (Addr × Obj)) (s:Shared) (σ:St) (H:Hp) (x:V) (v:Value) (Q:VK),Inv X pins σ H s->RelV x v->r x H Q ->
  wpAny (model X.prog X.w) X.A (f v) (EP X pins σ Q) X.xe s
def CallR (X:Cx) (f:Value) (r:List V->Hp->VK->Prop):Prop :=
 ∀ (pins:List (Addr × Obj)) (s:Shared) (σ:St) (H:Hp) (xs:List V) (us:List Value) (Q:VK),Inv X pins σ H s->Vals xs us->r xs H Q ->
  wpAny (model X.prog X.w) X.A (call f us) (EP X pins σ Q) X.xe s
def TruR (X:Cx) (r:V->Hp->(Bool->Hp->Prop)->Prop):Prop :=
 ∀ (pins:List (Addr × Obj)) (s:Shared) (σ:St) (H:Hp) (x:V) (v:Value) (Q:Bool->Hp->Prop),Inv X pins σ H s->RelV x v->r x H Q ->
  wpAny (model X.prog X.w) X.A (truthy v) (TP X pins σ Q) X.xe s
def tOp (r:R2) (ta tb:TE):TE:=fun σ H Q=>ta σ H fun x H1=>tb σ H1 fun y H2=>r x y H2 Q
def tUn (r:V->Hp->VK->Prop) (ta:TE):TE:=fun σ H Q=>ta σ H fun x H1=>r x H1 Q
def rI (C:Int->Int->Prop) (g:Int->Int->V):R2:=fun x y H Q=>∃ i j,x=.int i/\y=.int j/\C i j/\Q (g i j) H
def rI0 (g:Int->Int->V):R2:=fun x y H Q=>∃ i j,x=.int i/\y=.int j/\Q (g i j) H
def rU (g:Int->V):V->Hp->VK->Prop:=fun x H Q=>∃ i,x=.int i/\Q (g i) H
section
variable {X:Cx} {a b c:Expr} {ta tb tc:TE} {pos:Pos}
theorem binT (ha:PE X a ta) (hb:PE X b tb) {pins:List (Addr × Obj)} {s:Shared} {σ:St} {H:Hp} {R:V->V->Hp->Prop} (I:Inv X pins σ H s)
  (h:ta σ H fun x H1=>tb σ H1 fun y H2=>R x y H2) {Q:Value->Shared->Prop} {f:Value->Value->Sem Value}
  (hf:∀ v u s2 x y H2,Inv X pins σ H2 s2->RelV x v->RelV y u->R x y H2->wpAny (model X.prog X.w) X.A (f v u) Q X.xe s2) :
  wpAny (model X.prog X.w) X.A (eval a X.env) (fun v s₁=>wpAny (model X.prog X.w) X.A (eval b X.env) (fun u s₂=>wpAny (model X.prog X.w) X.A (f v u) Q X.xe s₂) X.xe s₁) X.xe s:=by
 refine thn (ha pins s σ H _ I h) fun v s1 ⟨x,H1,I1,r1,q1⟩=>?_
 refine thn (hb pins s1 σ H1 _ I1 q1) fun u s2 ⟨y,H2,I2,r2,q2⟩=>?_
 exact hf v u s2 x y H2 I2 r1 r2 q2
theorem pe_op {op:Operator} {r:R2} (ho:OpR X (binaryOp op) r) (ha:PE X a ta) (hb:PE X b tb):PE X (.BinOp a op b pos) (tOp r ta tb):=by
 intro pins s σ H Q I h
 exact wpAny_BinOp (binT ha hb I h fun v u s2 x y H2 I2 rx ry q=>ho pins s2 σ H2 x y v u Q I2 rx ry q)
theorem pe_un {op:UnaryOp} {r:V->Hp->VK->Prop} (ho:UnR X (unaryOp op) r) (ha:PE X a ta):PE X (.UnaryOp op a pos) (tUn r ta):=by
 intro pins s σ H Q I h
 exact UnaryOp_ (thn (ha pins s σ H _ I h) fun v s1 ⟨x,H1,I1,r1,q1⟩=>ho pins s1 σ H1 x v Q I1 r1 q1)
theorem opI {f:Value->Value->Sem Value} {C:Int->Int->Prop} {g:Int->Int->Int}
  (rule:∀ (i j:Int) (t u:Tok) (s:Shared) (Q:Value->Shared->Prop) (E:Value->Shared->Prop),C i j->Q (.int (g i j) s.toks) { s with toks:=s.toks+1 }->wpAny (model X.prog X.w) X.A (f (.int i t) (.int j u)) Q E s) :
  OpR X f (rI C fun i j=>.int (g i j)):=by
 intro pins s σ H x y v u Q I rx ry h
 obtain ⟨i,j,rfl,rfl,hc,q⟩:=h
 obtain ⟨t,rfl⟩:=rx
 obtain ⟨t',rfl⟩:=ry
 exact rule i j t t' s _ _ hc ⟨.int (g i j),H,I.tok _,⟨_,rfl⟩,q⟩
theorem opI0 {f:Value->Value->Sem Value} {g:Int->Int->Int}
  (rule:∀ (i j:Int) (t u:Tok) (s:Shared) (Q:Value->Shared->Prop) (E:Value->Shared->Prop),Q (.int (g i j) s.toks) { s with toks:=s.toks+1 }->wpAny (model X.prog X.w) X.A (f (.int i t) (.int j u)) Q E s) :
  OpR X f (rI0 fun i j=>.int (g i j)):=by
 intro pins s σ H x y v u Q I rx ry h
 obtain ⟨i,j,rfl,rfl,q⟩:=h
 obtain ⟨t,rfl⟩:=rx
 obtain ⟨t',rfl⟩:=ry
 exact rule i j t t' s _ _ ⟨.int (g i j),H,I.tok _,⟨_,rfl⟩,q⟩
theorem opB0 {f:Value->Value->Sem Value} {g:Int->Int->Bool}
  (rule:∀ (i j:Int) (t u:Tok) (s:Shared) (Q:Value->Shared->Prop) (E:Value->Shared->Prop),Q (.bool (g i j)) s->wpAny (model X.prog X.w) X.A (f (.int i t) (.int j u)) Q E s) :
  OpR X f (rI0 fun i j=>.bl (g i j)):=by
 intro pins s σ H x y v u Q I rx ry h
 obtain ⟨i,j,rfl,rfl,q⟩:=h
 obtain ⟨t,rfl⟩:=rx
 obtain ⟨t',rfl⟩:=ry
 exact rule i j t t' s _ _ ⟨.bl (g i j),H,I,rfl,q⟩
def CDiv (i j:Int):Prop:=0 < j/\j < 1073741824
def CPow (i j:Int):Prop:=0<=j/\j<=1000000/\i.natAbs < 2 ^ 64
def CMul (i j:Int):Prop:=(-(2 ^ 64) < i/\i < 2 ^ 64)\/(-(2 ^ 64) < j/\j < 2 ^ 64)
theorem CMul.ok {i j:Int} (h:CMul i j):IntMulOk i j:=by
 rcases h with ⟨h1,h2⟩ | ⟨h1,h2⟩
 ·exact .of_left (intBits_le_64 h1 h2)
 ·exact .of_right (intBits_le_64 h1 h2)
theorem op_add:OpR X (binaryOp .Add) (rI0 fun i j=>.int (i+j)):=opI0 fun _ _ _ _ _ _ _ q=>add_int q
theorem op_sub:OpR X (binaryOp .Sub) (rI0 fun i j=>.int (i - j)):=opI0 fun _ _ _ _ _ _ _ q=>sub_int q
theorem op_mul:OpR X (binaryOp .Mult) (rI CMul fun i j=>.int (i * j)):=opI fun _ _ _ _ _ _ _ hc q=>mul_int q hc.ok
theorem op_fdiv:OpR X (binaryOp .FloorDiv) (rI CDiv fun i j=>.int (i / j)):=opI fun i j _ _ _ _ _ hc q=>by
 have h1:(0:Int) < j:=hc.1
 have h2:j < 1073741824:=hc.2
 exact floordiv_int (by omega) (by rw [Int.fdiv_eq_ediv_of_nonneg i (by omega)];exact q) (.inl (PyProof.noPylong_small (by omega)))
theorem op_mod:OpR X (binaryOp .Mod) (rI (fun _ j=>0 < j) fun i j=>.int (i % j)):=opI fun i j _ _ _ _ _ hc q=>by
 have h1:(0:Int) < j:=hc
 exact mod_int' (by omega) (by rw [Int.fmod_eq_emod_of_nonneg i (by omega)];exact q)
theorem op_pow:OpR X (binaryOp .Pow) (rI CPow fun i j=>.int (i ^ j.toNat)):=opI fun _ _ _ _ _ _ _ hc q=>pow_int_small hc.1 hc.2.1 hc.2.2 q
theorem unI {f:Value->Sem Value} {g:Int->Int}
  (rule:∀ (i:Int) (t:Tok) (s:Shared) (Q:Value->Shared->Prop) (E:Value->Shared->Prop),Q (.int (g i) s.toks) { s with toks:=s.toks+1 }->wpAny (model X.prog X.w) X.A (f (.int i t)) Q E s) :
  UnR X f (rU fun i=>.int (g i)):=by
 intro pins s σ H x v Q I rx h
 obtain ⟨i,rfl,q⟩:=h
 obtain ⟨t,rfl⟩:=rx
 exact rule i t s _ _ ⟨.int (g i),H,I.tok _,⟨_,rfl⟩,q⟩
theorem un_neg:UnR X (unaryOp .USub) (rU fun i=>.int (-i)):=unI fun _ _ _ _ _ q=>neg_int q
end
def scal:V->V->Bool
 | .non,.non=>true | .non,.int _=>true | .int _,.non=>true | .non,.bl _=>true | .bl _,.non=>true | .non,.str _=>true | .str _,.non=>true
 | .int _,.int _=>true | .bl _,.bl _=>true | .str _,.str _=>true | .byt _,.byt _=>true
 | .int _,.str _=>true | .str _,.int _=>true | .bl _,.str _=>true | .str _,.bl _=>true
 | _,_=>false
def rEq:R2:=fun x y H Q=>scal x y=true/\Q (.bl (decide (x=y))) H
def rNe:R2:=fun x y H Q=>scal x y=true/\Q (.bl (!decide (x=y))) H
theorem dec_int {i j:Int}:decide (V.int i=V.int j)=(i == j):=by
 rw [Bool.eq_iff_iff]
 simp
theorem dec_bl {i j:Bool}:decide (V.bl i=V.bl j)=(i == j):=by
 rw [Bool.eq_iff_iff]
 simp
theorem dec_str {i j:Str}:decide (V.str i=V.str j)=(i == j):=by
 rw [Bool.eq_iff_iff]
 simp
theorem dec_byt {i j:Array UInt8}:decide (V.byt i=V.byt j)=(i.toList == j.toList):=by
 rw [Bool.eq_iff_iff]
 cases i
 cases j
 simp
section
variable {X:Cx} {a b c:Expr} {ta tb tc:TE} {pos:Pos}
theorem fin_bl {pins:List (Addr × Obj)} {σ:St} {H:Hp} {s:Shared} {Q:VK} {k k':Bool} (I:Inv X pins σ H s) (q:Q (.bl k) H) (e:k=k'):EP X pins σ Q (.bool k') s:=by
 subst e
 exact ⟨.bl k,H,I,rfl,q⟩
theorem op_eq:OpR X (compareOp .Eq) rEq:=by
 intro pins s σ H x y v u Q I rx ry h
 obtain ⟨hs,q⟩:=h
 cases x with
 | non =>
  cases rx
  cases y with
  | non=>cases ry;exact PySem.EqNone.eq_none_none (fin_bl I q (by simp))
  | bl j=>cases ry;exact PySem.EqNone.eq_none_bool (fin_bl I q (by simp))
  | int j=>obtain ⟨t',rfl⟩:=ry;exact PySem.EqNone.eq_none_int (fin_bl I q (by simp))
  | str j=>obtain ⟨t',rfl⟩:=ry;exact PySem.EqNone.eq_none_str (fin_bl I q (by simp))
  | _=>exact absurd (show false=true from hs) Bool.false_ne_true
 | bl i =>
  cases rx
  cases y with
  | non=>cases ry;exact PySem.EqNone.eq_bool_none (fin_bl I q (by simp))
  | bl j=>cases ry;exact eq_bool (fin_bl I q dec_bl)
  | str j=>obtain ⟨t',rfl⟩:=ry;exact PySem.EqMixed.eq_bool_str (fin_bl I q (by simp))
  | _=>exact absurd (show false=true from hs) Bool.false_ne_true
 | int i =>
  obtain ⟨t,rfl⟩:=rx
  cases y with
  | non=>cases ry;exact PySem.EqNone.eq_int_none (fin_bl I q (by simp))
  | int j=>obtain ⟨t',rfl⟩:=ry;exact eq_int (fin_bl I q dec_int)
  | str j=>obtain ⟨t',rfl⟩:=ry;exact PySem.EqMixed.eq_int_str (fin_bl I q (by simp))
  | _=>exact absurd (show false=true from hs) Bool.false_ne_true
 | str i =>
  obtain ⟨t,rfl⟩:=rx
  cases y with
  | non=>cases ry;exact PySem.EqNone.eq_str_none (fin_bl I q (by simp))
  | bl j=>cases ry;exact PySem.EqMixed.eq_str_bool (fin_bl I q (by simp))
  | int j=>obtain ⟨t',rfl⟩:=ry;exact PySem.EqMixed.eq_str_int (fin_bl I q (by simp))
  | str j=>obtain ⟨t',rfl⟩:=ry;exact eq_str (fin_bl I q dec_str)
  | _=>exact absurd (show false=true from hs) Bool.false_ne_true
 | byt i =>
  obtain ⟨t,rfl⟩:=rx
  cases y with
  | byt j=>obtain ⟨t',rfl⟩:=ry;exact PySem.W.eq_bytes (fin_bl I q dec_byt)
  | _=>exact absurd (show false=true from hs) Bool.false_ne_true
 | _=>cases y<;>exact absurd (show false=true from hs) Bool.false_ne_true
theorem op_ne:OpR X (compareOp .NotEq) rNe:=by
 intro pins s σ H x y v u Q I rx ry h
 obtain ⟨hs,q⟩:=h
 cases x with
 | non =>
  cases rx
  cases y with
  | non=>cases ry;exact PySem.EqNone.ne_none_none (fin_bl I q (by simp))
  | bl j=>cases ry;exact PySem.EqNone.ne_none_bool (fin_bl I q (by simp))
  | int j=>obtain ⟨t',rfl⟩:=ry;exact PySem.EqNone.ne_none_int (fin_bl I q (by simp))
  | str j=>obtain ⟨t',rfl⟩:=ry;exact PySem.EqNone.ne_none_str (fin_bl I q (by simp))
  | _=>exact absurd (show false=true from hs) Bool.false_ne_true
 | bl i =>
  cases rx
  cases y with
  | non=>cases ry;exact PySem.EqNone.ne_bool_none (fin_bl I q (by simp))
  | bl j=>cases ry;exact ne_bool (fin_bl I q (congrArg not dec_bl))
  | str j=>obtain ⟨t',rfl⟩:=ry;exact PySem.EqMixed.ne_bool_str (fin_bl I q (by simp))
  | _=>exact absurd (show false=true from hs) Bool.false_ne_true
 | int i =>
  obtain ⟨t,rfl⟩:=rx
  cases y with
  | non=>cases ry;exact PySem.EqNone.ne_int_none (fin_bl I q (by simp))
  | int j=>obtain ⟨t',rfl⟩:=ry;exact ne_int (fin_bl I q (congrArg not dec_int))
  | str j=>obtain ⟨t',rfl⟩:=ry;exact PySem.EqMixed.ne_int_str (fin_bl I q (by simp))
  | _=>exact absurd (show false=true from hs) Bool.false_ne_true
 | str i =>
  obtain ⟨t,rfl⟩:=rx
  cases y with
  | non=>cases ry;exact PySem.EqNone.ne_str_none (fin_bl I q (by simp))
  | bl j=>cases ry;exact PySem.EqMixed.ne_str_bool (fin_bl I q (by simp))
  | int j=>obtain ⟨t',rfl⟩:=ry;exact PySem.EqMixed.ne_str_int (fin_bl I q (by simp))
  | str j=>obtain ⟨t',rfl⟩:=ry;exact ne_str (fin_bl I q (congrArg not dec_str))
  | _=>exact absurd (show false=true from hs) Bool.false_ne_true
 | byt i =>
  obtain ⟨t,rfl⟩:=rx
  cases y with
  | byt j=>obtain ⟨t',rfl⟩:=ry;exact PySem.W.ne_bytes (fin_bl I q (congrArg not dec_byt))
  | _=>exact absurd (show false=true from hs) Bool.false_ne_true
 | _=>cases y<;>exact absurd (show false=true from hs) Bool.false_ne_true
theorem op_lt:OpR X (compareOp .Lt) (rI0 fun i j=>.bl (decide (i < j))):=opB0 fun _ _ _ _ _ _ _ q=>lt_int q
theorem op_le:OpR X (compareOp .LtE) (rI0 fun i j=>.bl (decide (i<=j))):=opB0 fun _ _ _ _ _ _ _ q=>le_int q
theorem op_gt:OpR X (compareOp .Gt) (rI0 fun i j=>.bl (decide (j < i))):=opB0 fun _ _ _ _ _ _ _ q=>gt_int q
theorem nomark (b:Expr) {op:CmpOp} (h:op≠.In:=by decide) (h2:op≠.NotIn:=by decide):behindInMarks op b=false:=by
 have e1:(op == CmpOp.In)=false:=by cases op<;>first | rfl | exact absurd rfl h
 have e2:(op == CmpOp.NotIn)=false:=by cases op<;>first | rfl | exact absurd rfl h2
 cases b<;>simp [behindInMarks,e1,e2]
theorem pe_cmpR {op:CmpOp} {r:R2} (ho:OpR X (compareOp op) r) (ha:PE X a ta) (hb:PE X b tb) (hm:behindInMarks op b=false):PE X (.Compare a [op] [b] pos) (tOp r ta tb):=by
 intro pins s σ H Q I h
 exact wpAny_Compare1 (binT ha hb I h fun v u s2 x y H2 I2 rx ry q=>ho pins s2 σ H2 x y v u Q I2 rx ry q) hm
def tTest (t:TE):TT:=fun σ H Q=>t σ H fun x H'=>∃ k,x=.bl k/\Q k H'
theorem pt_cmpR {op:CmpOp} {r:R2} (ho:OpR X (compareOp op) r) (ha:PE X a ta) (hb:PE X b tb) (hm:behindInMarks op b=false):PT X (.Compare a [op] [b] pos) (tTest (tOp r ta tb)):=by
 intro pins s σ H Q I h
 refine wpAny_isTrue_Compare1 (thn (ha pins s σ H _ I h) fun v s1 ⟨x,H1,I1,r1,q1⟩=>thn (hb pins s1 σ H1 _ I1 q1) fun u s2 ⟨y,H2,I2,r2,q2⟩ =>
  thn (ho pins s2 σ H2 x y v u _ I2 r1 r2 q2) fun c s3 ⟨z,H3,I3,r3,k,e,q3⟩=>?_) hm
 subst e
 cases r3
 exact wpAny_truthy_bool ⟨H3,I3,q3⟩
def tChain (r r':R2) (ta tb tc:TE):TE:=fun σ H Q=>ta σ H fun x H1=>tb σ H1 fun y H2=>r x y H2 fun z H3=>∃ k,z=.bl k /\
 (if k=true then tc σ H3 fun w' H4=>r' y w' H4 Q else Q (.bl false) H3)
theorem pe_chain {op op':CmpOp} {r r':R2} (ho:OpR X (compareOp op) r) (ho':OpR X (compareOp op') r') (ha:PE X a ta) (hb:PE X b tb) (hc:PE X c tc)
  (hm:lastMarks [op,op'] [b,c]=false:=by with_unfolding_all rfl):PE X (.Compare a [op,op'] [b,c] pos) (tChain r r' ta tb tc):=by
 intro pins s σ H Q I h
 refine Compare_chain (thn (ha pins s σ H _ I h) fun v s1 ⟨x,H1,I1,r1,q1⟩=>chain_link (thn (hb pins s1 σ H1 _ I1 q1) fun u s2 ⟨y,H2,I2,r2,q2⟩ =>
  thn (ho pins s2 σ H2 x y v u _ I2 r1 r2 q2) fun d s3 ⟨z,H3,I3,r3,k,e,q3⟩=>?_)) hm
 subst e
 cases r3
 refine wpAny_truthy_bool ?_
 cases k with
 | false=>exact ite_ff ⟨.bl false,H3,I3,rfl,q3⟩
 | true=>exact ite_tt (chain_last (thn (hc pins s3 σ H3 _ I3 q3) fun w' s4 ⟨z',H4,I4,r4,q4⟩=>ho' pins s4 σ H4 y z' u w' Q I4 r2 r4 q4))
theorem pt_chain {op op':CmpOp} {r r':R2} (ho:OpR X (compareOp op) r) (ho':OpR X (compareOp op') r') (ha:PE X a ta) (hb:PE X b tb) (hc:PE X c tc)
  (hm:lastMarks [op,op'] [b,c]=false:=by with_unfolding_all rfl):PT X (.Compare a [op,op'] [b,c] pos) (tTest (tChain r r' ta tb tc)):=by
 intro pins s σ H Q I h
 refine isTrue_chain (thn (ha pins s σ H _ I h) fun v s1 ⟨x,H1,I1,r1,q1⟩=>test_link (thn (hb pins s1 σ H1 _ I1 q1) fun u s2 ⟨y,H2,I2,r2,q2⟩ =>
  thn (ho pins s2 σ H2 x y v u _ I2 r1 r2 q2) fun d s3 ⟨z,H3,I3,r3,k,e,q3⟩=>?_)) hm
 subst e
 cases r3
 refine wpAny_truthy_bool ?_
 cases k with
 | false =>
  obtain ⟨k',e',q'⟩:=q3
  cases e'
  exact ite_ff ⟨H3,I3,q'⟩
 | true =>
  refine ite_tt (test_last (thn (hc pins s3 σ H3 _ I3 q3) fun w' s4 ⟨z',H4,I4,r4,q4⟩=>thn (ho' pins s4 σ H4 y z' u w' _ I4 r2 r4 q4) fun d' s5 ⟨z2,H5,I5,r5,k2,e2,q5⟩=>?_))
  subst e2
  cases r5
  exact wpAny_truthy_bool ⟨H5,I5,q5⟩
def TruV (K:PySem.W.Frag) (x:V) (H:Hp) (k:Bool):Prop :=
 match x with
 | .non=>k=false
 | .bl b=>k=b
 | .int i=>k=(i != 0)
 | .str y=>y.length<=sizeLine/\k=((y.length:Int) != 0)
 | .byt y=>y.size<=sizeLine/\k=((y.size:Int) != 0)
 | .ref p=>(∃ xs,SqL K H p xs/\k=!xs.isEmpty)\/(∃ xs,SqT K H p xs/\k=!xs.isEmpty)\/∃ kvs,H p=some (.dK kvs)/\k=!kvs.isEmpty
 | _=>False
theorem isEmpty_kv {κ:Type} {kvs:List (κ × V)} {vs:List (κ × Value)} (r:KV kvs vs):(!vs.isEmpty)=!kvs.isEmpty:=by
 cases r<;>rfl
theorem isEmpty_of {xs:List V} {its:List Value} (r:Vals xs its):(!its.toArray.isEmpty)=!xs.isEmpty:=by
 cases r<;>simp
theorem line63:(sizeLine:Nat) < 2 ^ 63:=by rw [sizeLine_eq];decide
theorem tru_ok:TruR X (fun x H Q=>∃ k,TruV X.K x H k/\Q k H):=by
 intro pins s σ H x v Q I rx h
 obtain ⟨k,e,q⟩:=h
 have hl:=line63
 have hs:sizeLine=16777216:=sizeLine_eq
 cases x with
 | non =>
  cases rx
  have e':k=false:=e
  subst e'
  exact truthy_none ⟨H,I,q⟩
 | bl b =>
  cases rx
  have e':k=b:=e
  subst e'
  exact wpAny_truthy_bool ⟨H,I,q⟩
 | int i =>
  obtain ⟨t,rfl⟩:=rx
  have e':k=(i != 0):=e
  subst e'
  exact PySem.P.truthy_int ⟨H,I,q⟩
 | str y =>
  obtain ⟨t,rfl⟩:=rx
  obtain ⟨hy,e'⟩:y.length<=sizeLine/\k=((y.length:Int) != 0):=e
  subst e'
  exact PySem.P.truthy_str (by omega) ⟨H,I.tok _,q⟩
 | byt y =>
  obtain ⟨t,rfl⟩:=rx
  obtain ⟨hy,e'⟩:y.size<=sizeLine/\k=((y.size:Int) != 0):=e
  subst e'
  exact PySem.W.truthy_bytes (by omega) ⟨H,I.tok _,q⟩
 | ref p =>
  cases rx
  have e':(∃ xs,SqL X.K H p xs/\k=!xs.isEmpty)\/(∃ xs,SqT X.K H p xs/\k=!xs.isEmpty)\/∃ kvs,H p=some (.dK kvs)/\k=!kvs.isEmpty:=e
  rcases e' with ⟨xs,hx,e'⟩ | ⟨xs,hx,e'⟩ | ⟨kvs,hx,e'⟩
  ·subst e'
   obtain ⟨its,r,pl,hz⟩:=I.list hx
   have hlen:=r.length
   exact wpAny_truthy_list pl.isList (by simp only [List.size_toArray];omega) ⟨H,I.tok _,by rw [isEmpty_of r];exact q⟩
  ·subst e'
   obtain ⟨its,r,pl,hz⟩:=I.tuple hx
   have hlen:=r.length
   exact truthy_tuple pl (by simp only [List.size_toArray];omega) ⟨H,I.tok _,by rw [isEmpty_of r];exact q⟩
  ·subst e'
   obtain ⟨hz,hS,vs,r,m⟩:kvs.length<=sizeLine/\(p == sysModules)=false/\∃ vs,KV kvs vs/\s.heap.DictOf (mixKind X.prog X.w) p vs:=I.hok p _ hx
   have hlen:kvs.length=vs.length:=Paired.length r
   exact wpAny_truthy_dict hS m (by omega) ⟨H,I.tok _,by rw [isEmpty_kv r];exact q⟩
 | _=>exact (show False from e).elim
theorem pt_truth (ha:PE X a ta) (he:∀ whole,isTrue a X.env whole=(do let v <- whole;standAt a.pos;holding [v] (truthy v))) :
  PT X a (fun σ H Q=>ta σ H fun x H'=>∃ k,TruV X.K x H' k/\Q k H'):=by
 intro pins s σ H Q I h
 exact isTrue_plain (thn (ha pins s σ H _ I h) fun v s1 ⟨x,H1,I1,r1,q1⟩=>tru_ok pins s1 σ H1 x v Q I1 r1 q1) (he _)
theorem vals1 {x:V} {us:List Value} (r:Vals [x] us):∃ u,us=[u]/\RelV x u:=by
 cases r with
 | cons r1 r2=>cases r2;exact ⟨_,rfl,r1⟩
theorem vals2 {x y:V} {us:List Value} (r:Vals [x,y] us):∃ u w',us=[u,w']/\RelV x u/\RelV y w':=by
 cases r with
 | cons r1 r2 =>
  cases r2 with
  | cons r3 r4=>cases r4;exact ⟨_,_,rfl,r1,r3⟩
theorem call_abs:CallR X (.builtin "abs") (fun xs H Q=>∃ i,xs=[.int i]/\Q (.int (if i < 0 then -i else i)) H):=by
 intro pins s σ H xs us Q I r h
 obtain ⟨i,rfl,q⟩:=h
 obtain ⟨u,rfl,t,rfl⟩:=vals1 r
 exact call_abs_int fun u tk=>⟨.int (if i < 0 then -i else i),H,I.tok _,⟨_,rfl⟩,q⟩
theorem call_max2 (hc:X.calm=true):CallR X (.builtin "max") (fun xs H Q=>∃ i j,xs=[.int i,.int j]/\Q (.int (if j > i then j else i)) H):=by
 intro pins s σ H xs us Q I r h
 obtain ⟨i,j,rfl,q⟩:=h
 obtain ⟨u,w',rfl,⟨t,rfl⟩,⟨t',rfl⟩⟩:=vals2 r
 refine max_two_ints (I.ok.hd hc) fun h' tk k=>⟨_,H,I.kept k,?_,q⟩
 by_cases hj:j > i
 ·rw [if_pos hj,if_pos hj];exact ⟨_,rfl⟩
 ·rw [if_neg hj,if_neg hj];exact ⟨_,rfl⟩
theorem call_min2 (hc:X.calm=true):CallR X (.builtin "min") (fun xs H Q=>∃ i j,xs=[.int i,.int j]/\Q (.int (if j < i then j else i)) H):=by
 intro pins s σ H xs us Q I r h
 obtain ⟨i,j,rfl,q⟩:=h
 obtain ⟨u,w',rfl,⟨t,rfl⟩,⟨t',rfl⟩⟩:=vals2 r
 refine min_two_ints (I.ok.hd hc) fun h' tk k=>⟨_,H,I.kept k,?_,q⟩
 by_cases hj:j < i
 ·rw [if_pos hj,if_pos hj];exact ⟨_,rfl⟩
 ·rw [if_neg hj,if_neg hj];exact ⟨_,rfl⟩
end
structure ObjM (h:Heap) (x dx C:Addr) (mA:Str->Option Value):Prop where
 obj:h.get? x=some (PySem.W.instObj C dx)
 ns:h.Ns1 dx mA
 ne:dx≠x
theorem lookIn_ns {h:Heap} {dx:Addr} {mA:Str->Option Value} (n:h.Ns1 dx mA):∃ od,h.get? dx=some od/\∀ name,PySem.W.lookIn name od=some (mA name):=by
 obtain ⟨o,es,ep,ho,hd,hk,_,hm⟩:=n
 refine ⟨o,ho,fun name=>?_⟩
 have e:=hm name
 unfold nsFind findBy at e
 rw [<- Array.find?_toList] at e
 unfold PySem.W.lookIn
 rw [hd]
 dsimp only
 split
 ·rename_i y q
  rw [q] at e
  exact congrArg some e
 ·rename_i q
  rw [q] at e
  have a:es.toList.any (·.refKey)=false:=by
   rw [List.any_eq_false]
   intro y hy
   obtain ⟨z,t,hkey⟩:=hk y (Array.mem_toList_iff.mp hy)
   simp [DictEntry.refKey,hkey]
  have a':¬ es.toList.any (·.refKey)=true:=by rw [a];exact Bool.false_ne_true
  rw [if_neg a']
  exact congrArg some e
theorem ObjM.look {h:Heap} {x dx C:Addr} {mA:Str->Option Value} (I:ObjM h x dx C mA):∃ od,PySem.W.InstAt h x (PySem.W.instObj C dx) C (some od)/\∀ name,PySem.W.lookIn name od=some (mA name) :=
 let ⟨od,ho,hl⟩:=lookIn_ns I.ns
 ⟨od,⟨I.obj,rfl,rfl,ho⟩,hl⟩
section
variable {prog:Program} {w:World} {A:Around} {E:Value->Shared->Prop} {s:Shared} {K:PySem.W.Frag} {x dx C f:Addr} {mA:Str->Option Value} {name:Str} {v:Value}
theorem get_map {expr:Bool} {Q:Value->Shared->Prop} (X:K.In s.heap) (I:ObjM s.heap x dx C mA) (hg:PySem.W.plainGet K C name=true) (hh:PySem.W.hasDictIn K C=true)
  (ha:W.findIn K (.ref C) name=some none) (hv:mA name=some v) (hv':W.handedIn v=true) (h:Q v { s with toks:=s.toks+1 }) :
  wpAny (model prog w) A (getAttr (.ref x) name expr) Q E s:=by
 obtain ⟨od,J,hl⟩:=I.look
 exact PySem.W.get_value X J (PySem.W.plainGet_of hg).1 (PySem.W.findObj_own hh ha rfl (by rw [hl,hv])) hv' h
theorem get_meth {pl:Sem Bool} {Q:Value × List Value->Shared->Prop} (X:K.In s.heap) (I:ObjM s.heap x dx C mA) (hg:PySem.W.plainGet K C name=true)
  (hf:W.findIn K (.ref C) name=some (some (.ref f))) (ht:W.isFn K (.ref f)=true) (hv:mA name=none) (h:Q (.ref f,[.ref x]) s) :
  wpAny (model prog w) A (getMethod (.ref x) name pl) Q E s:=by
 obtain ⟨od,J,hl⟩:=I.look
 exact PySem.W.method_fn X J (PySem.W.plainGet_of hg).1 (PySem.W.plainGet_of hg).2 hf (beq_iff_eq.mp ht) (by show (PySem.W.lookIn name od).map (·.isSome)=some false;rw [hl,hv];rfl) h
theorem set_map {ns:List Str} {Q:Unit->Shared->Prop} (X:K.In s.heap) (I:ObjM s.heap x dx C mA)
  (hs:W.findIn K (.ref C) "__setattr__" = some (some (.builtin "object.__setattr__"))) (hp:W.plainOver K C=true) (ht:W.takerIn K C name=some none) (hh:W.hasDictIn K C=true)
  (hw:PySem.Within mA ns) (hsz:ns.length<=sizeLine)
  (h:∀ h',ObjM h' x dx C (fun y=>if y=name then some v else mA y)->Heap.SameBut dx s.heap h'->Q () { s with heap:=h',toks:=s.toks+2 }) :
  wpAny (model prog w) A (setAttr (.ref x) name v) Q E s:=by
 obtain ⟨od,J,hl⟩:=I.look
 refine PySem.W.set_plain X J hs (PySem.W.osa_open (s:={ s with toks:=s.toks+1 }) (r:=none) X J hp ht fun b=>?_)
 obtain ⟨cd,hc,hd'⟩:=PySem.W.any_some hh
 have hx:s.heap.get? x=some ⟨.ref C,some dx,.plain,#[]⟩:=I.obj
 refine wpAny_bind (wpAny_pure (wpAny_bind (wpAny_bind (wpAny_loadPart hx (wpAny_bind (PySem.W.Looks.here (s:={ s with toks:=s.toks+1 }) (PySem.W.looks_clsIn X hc) ?_))))))
 rw [hd']
 refine wpAny_pure (a:=some dx) (wpAny_bind (wpAny_pure (wpAny_bind ?_)))
 refine wpAny_nsSet1 (s:={ s with toks:=s.toks+1 }) I.ns fun h' hn2 hs2=>?_
 obtain ⟨oD,esD,epD,hoD,hdD,hcD⟩:=hn2.count (PySem.Within.cons name v hw)
 refine wpAny_bind (wpAny_lookBehind hoD (by rw [hdD];exact pastItsLine_dict (Nat.le_trans hcD (by rw [List.length_cons];omega))) ?_)
 exact wpAny_pure (h _ ⟨(hs2.2 _ (Ne.symm I.ne)).trans I.obj,hn2,I.ne⟩ hs2)
theorem make_map {R:Result->Shared->Prop} {vs:List Value} {kw:List (Str × Value)} (X:K.In s.heap) (hm:PySem.W.makesIn K C=true)
  (hi:W.findIn K (.ref C) "__init__" = some (some (.ref f))) (hf:W.typeIn K (.ref f)=some (.type "function"))
  (h:codeAny (model prog w) (A.under (.builtin "type.__call__" ⟨.ref C::vs,kw⟩)) (.call (.ref f) ⟨.ref (s.heap.objs.size+1)::vs,kw⟩) (PySem.W.InitBack (s.heap.objs.size+1) R)
   { s with heap:=(s.heap.push PySem.W.emptyDict).push (PySem.W.instObj C s.heap.objs.size) }) :
  codeAny (model prog w) A (.call (.ref C) ⟨vs,kw⟩) R s:=by
 obtain ⟨hh,g,d,t,os⟩:=s
 exact PySem.W.make_core (PySem.W.makes_of X hm) (PySem.W.looks_findIn X hi) (fun self=>PySem.W.bind_fn X self hf) (.inl rfl) h
end
def putF (f:Str) (v:V):List (Str × V)->List (Str × V)
 | []=>[(f,v)]
 | (g,x)::r=>if g=f then (g,v)::r else (g,x)::putF f v r
theorem lookup_putF (f g:Str) (v:V):∀ fs:List (Str × V),(putF f v fs).lookup g=if g=f then some v else fs.lookup g
 | []=>by
  show List.lookup g [(f,v)]=_
  by_cases h:g=f
  ·have hb:(g == f)=true:=beq_iff_eq.mpr h
   simp only [List.lookup,hb,if_pos h]
  ·have hb:(g == f)=false:=beq_eq_false_iff_ne.mpr h
   simp only [List.lookup,hb,if_neg h]
 | (k,x)::r=>by
  have ih:=lookup_putF f g v r
  rw [show putF f v ((k,x)::r)=(if k=f then (k,v)::r else (k,x)::putF f v r) from rfl]
  by_cases hk:k=f
  ·rw [if_pos hk]
   by_cases h:g=k
   ·have hb:(g == k)=true:=beq_iff_eq.mpr h
    simp only [List.lookup,hb,if_pos (h.trans hk)]
   ·have hb:(g == k)=false:=beq_eq_false_iff_ne.mpr h
    simp only [List.lookup,hb,if_neg (fun e:g=f=>h (e.trans hk.symm))]
  ·rw [if_neg hk]
   by_cases h:g=k
   ·have hb:(g == k)=true:=beq_iff_eq.mpr h
    simp only [List.lookup,hb,if_neg (fun e:g=f=>hk (h.symm.trans e))]
   ·have hb:(g == k)=false:=beq_eq_false_iff_ne.mpr h
    simp only [List.lookup,hb]
    exact ih
theorem keys_putF (f:Str) (v:V):∀ fs:List (Str × V),f∈(putF f v fs).map (·.1)/\∀ g,g∈fs.map (·.1)->g∈(putF f v fs).map (·.1)
 | []=>⟨by simp [putF],fun g h=>by simp at h⟩
 | (k,x)::r=>by
  obtain ⟨i1,i2⟩:=keys_putF f v r
  rw [show putF f v ((k,x)::r)=(if k=f then (k,v)::r else (k,x)::putF f v r) from rfl]
  by_cases hk:k=f
  ·rw [if_pos hk]
   subst hk
   exact ⟨by simp,fun g h=>by simpa using h⟩
  ·rw [if_neg hk]
   refine ⟨?_,fun g h=>?_⟩
   ·rw [List.map_cons]
    exact List.mem_cons_of_mem _ i1
   ·rw [List.map_cons] at h ⊢
    rcases List.mem_cons.mp h with e | e
    ·exact List.mem_cons.mpr (.inl e)
    ·exact List.mem_cons_of_mem _ (i2 g e)
theorem length_putF (f:Str) (v:V):∀ fs:List (Str × V),(putF f v fs).length<=fs.length+1
 | []=>by simp [putF]
 | (k,x)::r=>by
  have ih:=length_putF f v r
  rw [show putF f v ((k,x)::r)=(if k=f then (k,v)::r else (k,x)::putF f v r) from rfl]
  by_cases hk:k=f
  ·rw [if_pos hk,List.length_cons,List.length_cons];omega
  ·rw [if_neg hk,List.length_cons,List.length_cons];omega
theorem RelO.some_of {v:V} {o:Option Value} (r:RelO (some v) o):∃ u,o=some u/\RelV v u:=by
 cases o with
 | none=>exact (show False from r).elim
 | some u=>exact ⟨u,rfl,r⟩
theorem RelO.none_of {o:Option Value} (r:RelO none o):o=none:=by
 cases o with
 | none=>rfl
 | some u=>exact (show False from r).elim
theorem handed_of {v:V} {u:Value} (r:RelV v u):PySem.W.handedIn u=true:=by
 cases v with
 | non=>cases (show u=Value.none from r);rfl
 | bl b=>cases (show u=Value.bool b from r);rfl
 | int i=>obtain ⟨t,e⟩:=(show ∃ t,u=Value.int i t from r);cases e;rfl
 | str x=>obtain ⟨t,e⟩:=(show ∃ t,u=Value.str x t from r);cases e;rfl
 | byt b=>obtain ⟨t,e⟩:=(show ∃ t,u=Value.bytes b t from r);cases e;rfl
 | flt b=>obtain ⟨t,e⟩:=(show ∃ t,u=Value.float b t from r);cases e;rfl
 | ref a=>cases (show u=Value.ref a from r);rfl
 | ty n=>cases (show u=Value.type n from r);rfl
section
variable {P:Program} {w:World} {H H':Hp} {h h':Heap} {a C dx:Addr} {fs fs':List (Str × V)}
theorem ins_get (hok:HOk P w H h) (e:H a=some (.ins C dx fs)):∃ mA,ObjM h a dx C mA/\(∀ f,RelO (fs.lookup f) (mA f))/\PySem.Within mA (fs.map (·.1))/\fs.length<=1000/\H dx=some (.own a):=by
 obtain ⟨d,z,ne,ob,mA,n,r,q⟩:=(show ObjOk P w H h a (.ins C dx fs) from hok a _ e)
 exact ⟨mA,⟨ob,n,ne⟩,r,q,z,d⟩
end
structure Cls (K:PySem.W.Frag) (C:Addr):Prop where
 pg:PySem.W.plainGet K C Str.empty=true
 hd:PySem.W.hasDictIn K C=true
 po:PySem.W.plainOver K C=true
 sa:PySem.W.findIn K (.ref C) "__setattr__" = some (some (.builtin "object.__setattr__"))
theorem Cls.get {K:PySem.W.Frag} {C:Addr} (c:Cls K C) (f:Str):PySem.W.plainGet K C f=true:=c.pg
def NoAttr (K:PySem.W.Frag) (C:Addr) (f:Str):Prop:=PySem.W.findIn K (.ref C) f=some none
theorem NoAttr.taker {K:PySem.W.Frag} {C:Addr} {f:Str} (n:NoAttr K C f):PySem.W.takerIn K C f=some none:=by
 unfold PySem.W.takerIn
 rw [show PySem.W.findIn K (.ref C) f=some none from n]
 rfl
structure Meth (K:PySem.W.Frag) (C:Addr) (m:Str) (f:Addr):Prop where
 at_:PySem.W.findIn K (.ref C) m=some (some (.ref f))
 fn:PySem.W.isFn K (.ref f)=true
 kp:PySem.W.keepIn K (.ref f)=true
section
variable {X:Cx} {pins:List (Addr × Obj)} {σ:St} {H:Hp} {s:Shared} {a C dx:Addr} {fs:List (Str × V)} {f:Str} {v:V} {A:Around} {E:Value->Shared->Prop}
theorem getattr_ok {b:Bool} {Q:Value->Shared->Prop} (I:Inv X pins σ H s) (e:H a=some (.ins C dx fs)) (c:Cls X.K C) (n:NoAttr X.K C f) (l:fs.lookup f=some v)
  (h:∀ u s',Inv X pins σ H s'->RelV v u->Q u s'):wpAny (model X.prog X.w) A (getAttr (.ref a) f b) Q E s:=by
 obtain ⟨mA,O,r,_,_,_⟩:=ins_get I.hok e
 obtain ⟨u,hu,ru⟩:=RelO.some_of (v:=v) (o:=mA f) (by rw [<- l];exact r f)
 exact get_map I.kIn O (c.get f) c.hd n hu (handed_of ru) (h u _ (I.tok _) ru)
theorem getmeth_ok {m:Str} {g:Addr} {pl:Sem Bool} {Q:Value × List Value->Shared->Prop} (I:Inv X pins σ H s) (e:H a=some (.ins C dx fs)) (c:Cls X.K C) (k:Meth X.K C m g) (l:fs.lookup m=none)
  (h:Q (.ref g,[.ref a]) s):wpAny (model X.prog X.w) A (getMethod (.ref a) m pl) Q E s:=by
 obtain ⟨mA,O,r,_,_,_⟩:=ins_get I.hok e
 have hn:mA m=none:=RelO.none_of (by rw [<- l];exact r m)
 exact get_meth I.kIn O (c.get m) k.at_ k.fn hn h
theorem setattr_ok {y:V} {u:Value} {Q:Unit->Shared->Prop} (I:Inv X pins σ H s) (e:H a=some (.ins C dx fs)) (c:Cls X.K C) (n:NoAttr X.K C f) (hl:fs.length < 1000) (ry:RelV y u)
  (h:∀ s',Inv X pins σ (upd H a (.ins C dx (putF f y fs))) s'->Q () s'):wpAny (model X.prog X.w) A (setAttr (.ref a) f u) Q E s:=by
 obtain ⟨mA,O,r,wi,_,ho⟩:=ins_get I.hok e
 have hz:(fs.map (·.1)).length<=sizeLine:=by rw [List.length_map,sizeLine_eq];omega
 refine set_map I.kIn O c.sa c.po n.taker c.hd wi hz fun h' O' sb=>h _ ?_
 have hd:∃ o,h'.get? dx=some o:=let ⟨o,_,_,e',_⟩:=O'.ns;⟨o,e'⟩
 refine I.write (x:=a) (e:=dx) (by rw [e];exact True.intro) (.inr ho) (fun b q hb z=>(sb.2 b hb).trans z) hd ?_
 refine ⟨by rw [upd_ne O.ne];exact ho,?_,O.ne,O'.obj,_,O'.ns,fun g=>?_,fun g hg=>?_⟩
 ·have:=length_putF f y fs;omega
 ·show RelO ((putF f y fs).lookup g) (if g=f then some u else mA g)
  rw [lookup_putF]
  by_cases q:g=f
  ·rw [if_pos q,if_pos q];exact ry
  ·rw [if_neg q,if_neg q];exact r g
 ·by_cases q:g=f
  ·rw [q];exact (keys_putF f y fs).1
  ·refine (keys_putF f y fs).2 g (wi g fun z=>hg ?_)
   show (if g=f then some u else mA g)=none
   rw [if_neg q];exact z
theorem Inv.made (I:Inv X pins σ H s):Inv X pins σ (upd (upd H s.heap.objs.size (.own (s.heap.objs.size+1))) (s.heap.objs.size+1) (.ins C s.heap.objs.size []))
  { s with heap:=(s.heap.push PySem.W.emptyDict).push (PySem.W.instObj C s.heap.objs.size) }:=by
 have e1:(s.heap.push PySem.W.emptyDict).get? s.heap.objs.size=some PySem.W.emptyDict:=Heap.get?_push_size s.heap rfl
 have e2:((s.heap.push PySem.W.emptyDict).push (PySem.W.instObj C s.heap.objs.size)).get? (s.heap.objs.size+1)=some (PySem.W.instObj C s.heap.objs.size):=by
  have:=Heap.get?_push_size (s.heap.push PySem.W.emptyDict) (o:=PySem.W.instObj C s.heap.objs.size) rfl
  rwa [Heap.size_push] at this
 have e3:(s.heap.push PySem.W.emptyDict).Ns s.heap.objs.size (fun _=>none):=⟨PySem.W.emptyDict,#[],_,e1,rfl,(fun e he=>absurd he (by simp)),fun _=>rfl⟩
 have I1:=I.laid (a:=s.heap.objs.size) (o:=.own (s.heap.objs.size+1)) (h':=s.heap.push PySem.W.emptyDict) (t':=s.toks) (fun b u q=>Heap.get?_push_of_some _ q) (Nat.le_refl _) ⟨_,e1⟩
 refine I1.laid (a:=s.heap.objs.size+1) (o:=.ins C s.heap.objs.size []) (t':=s.toks) (fun b u q=>Heap.get?_push_of_some _ q) (Nat.le_of_eq (Heap.size_push _ _)) ?_
 have ne:s.heap.objs.size≠s.heap.objs.size+1:=Nat.ne_of_lt (Nat.lt_succ_self _)
 refine ⟨by rw [upd_ne ne,upd_same],Nat.zero_le _,ne,e2,fun _=>none,(Heap.Ns1.of_empty e3).at fun o q=>Heap.get?_push_of_some _ q,fun _=>True.intro,fun y hy=>absurd rfl hy⟩
theorem attr_of {prog:Program} {w:World} {env:Env} {e:Expr} {f:Str} {pos:Pos} {s:Shared} {Q:Value->Shared->Prop} (hb:attributeBase e f env (eval e env)=eval e env)
  (h:wpAny (model prog w) A (eval e env) (fun o s₁=>wpAny (model prog w) A (getAttr o f true) Q E s₁) E s):wpAny (model prog w) A (eval (.Attribute e f pos) env) Q E s :=
 Attribute_any_ h (by rw [arm_eval_Attribute,hb])
end
def tFld (K:PySem.W.Frag) (ta:TE) (f:Str):TE:=fun σ H Q=>ta σ H fun x H1=>∃ a C dx fs v,x=.ref a/\H1 a=some (.ins C dx fs)/\Cls K C/\NoAttr K C f/\fs.lookup f=some v/\Q v H1
def sFld (K:PySem.W.Frag) (ta tv:TE) (f:Str):TS:=fun D σ H=>tv σ H fun y H1=>ta σ H1 fun x H2=>∃ a C dx fs,x=.ref a/\H2 a=some (.ins C dx fs)/\Cls K C/\NoAttr K C f/\fs.length < 1000 /\
 D.nx σ (upd H2 a (.ins C dx (putF f y fs)))
section
variable {X:Cx} {o e value:Expr} {f:Str} {pos pos' tpos:Pos} {ta tv:TE}
theorem pe_fld (he:PE X e ta) (hb:attributeBase e f X.env (eval e X.env)=eval e X.env):PE X (.Attribute e f pos) (tFld X.K ta f):=by
 intro pins s σ H Q I h
 refine attr_of hb (thn (he pins s σ H _ I h) fun u s1 ⟨x,H1,I1,rx,a,C,dx,fs,v,ex,ea,c,n,l,q⟩=>?_)
 subst ex
 obtain rfl:u=Value.ref a:=rx
 exact getattr_ok I1 ea c n l fun u' s2 I2 ru=>⟨v,H1,I2,ru,q⟩
theorem ps_fld (ha:PE X o ta) (hv:PE X value tv) (hs:swapsWith value (some (.Attribute o f pos')) pos.line X.env=pure false):PS X (.Assign [.Attribute o f pos'] value pos) (sFld X.K ta tv f):=by
 intro pins s σ H D I h
 refine plainObj_wpAny_Assign_Attribute (thn (hv pins s σ H _ I h) fun u s1 ⟨y,H1,I1,ry,q⟩=>thn (ha pins s1 σ H1 _ I1 q) fun ov s2 ⟨x,H2,I2,rx,a,C,dx,fs,ex,ea,c,n,l,q2⟩=>?_) hs
 subst ex
 obtain rfl:ov=Value.ref a:=rx
 exact setattr_ok I2 ea c n l ry fun s3 I3=>⟨σ,_,I3,q2⟩
end
section
variable {X:Cx} {pins:List (Addr × Obj)} {σ:St} {H:Hp} {s:Shared} {A:Around} {E:Value->Shared->Prop} {Q:Value->Shared->Prop} {c:Value} {b:Bool}
inductive TyOf (K:PySem.W.Frag) (H:Hp):V->Value->Prop where
 | non:TyOf K H .non (.type "NoneType")
 | bl (x:Bool):TyOf K H (.bl x) (.type "bool")
 | int (i:Int):TyOf K H (.int i) (.type "int")
 | str (x:Str):TyOf K H (.str x) (.type "str")
 | flt (x:UInt64):TyOf K H (.flt x) (.type "float")
 | lst {a:Addr} {xs:List V} (e:H a=some (.lst xs)):TyOf K H (.ref a) (.type "list")
 | frz {a:Addr} {o:Obj} {xs:List V} (e:H a=some (.frz o (.lst xs))):TyOf K H (.ref a) (.type "list")
 | tup {a:Addr} {xs:List V} (e:H a=some (.tup xs)):TyOf K H (.ref a) (.type "tuple")
 | dK {a:Addr} {kvs:List (Key × V)} (e:H a=some (.dK kvs)):TyOf K H (.ref a) (.type "dict")
 | dT {a:Addr} {kvs:List (List Key × V)} (e:H a=some (.dT kvs)):TyOf K H (.ref a) (.type "dict")
 | ins {a C dx:Addr} {fs:List (Str × V)} (e:H a=some (.ins C dx fs)) (cl:Cls K C) (ha:PySem.W.findIn K (.ref C) "__class__" = some (some (.builtin "object.__class__")))
   (hn:PySem.W.specialIn K (.builtin "object.__class__") "__get__" = some (some (.builtin "getset_descriptor.__get__"))) (htk:PySem.W.takesIn K (.builtin "object.__class__")=some true)
   (hm:PySem.W.mroIn K C (.type "object")=some true):TyOf K H (.ref a) (.ref C)
theorem isinst_ok {x:V} {u t:Value} (I:Inv X pins σ H s) (rx:RelV x u) (ty:TyOf X.K H x t) (e:PySem.W.kitOne X.K t c=some b) (h:∀ tk,Q (.bool b) { s with toks:=tk }) :
  wpAny (model X.prog X.w) A (call (.builtin "isinstance") [u,c]) Q E s:=by
 cases ty with
 | non=>cases (show u=Value.none from rx);exact PySem.W.kia_one PySem.W.kitx_none I.kIn True.intro e (fun z=>nomatch z) h
 | bl y=>cases (show u=Value.bool y from rx);exact PySem.W.kia_one PySem.W.kitx_bool I.kIn True.intro e (fun z=>nomatch z) h
 | int i=>obtain ⟨t,q⟩:=(show ∃ t,u=Value.int i t from rx);cases q;exact PySem.W.kia_one PySem.W.kitx_int I.kIn True.intro e (fun z=>nomatch z) h
 | str y=>obtain ⟨t,q⟩:=(show ∃ t,u=Value.str y t from rx);cases q;exact PySem.W.kia_one PySem.W.kitx_str I.kIn True.intro e (fun z=>nomatch z) h
 | flt y=>obtain ⟨t,q⟩:=(show ∃ t,u=Value.float y t from rx);cases q;exact PySem.W.kia_one PySem.W.kitx_float I.kIn True.intro e (fun z=>nomatch z) h
 | @lst a xs ea =>
  cases (show u=Value.ref a from rx)
  obtain ⟨_,_,n,_,h1⟩:=(show ObjOk X.prog X.w H s.heap a (.lst xs) from I.hok a _ ea)
  exact PySem.W.kia_one PySem.W.kitx_list I.kIn ⟨_,h1,rfl⟩ e (fun z=>nomatch z) h
 | @frz a ob xs ea =>
  cases (show u=Value.ref a from rx)
  obtain ⟨_,_,_,n,_,h1⟩:=(show ObjOk X.prog X.w H s.heap a (.frz ob (.lst xs)) from I.hok a _ ea)
  exact PySem.W.kia_one PySem.W.kitx_list I.kIn ⟨_,h1,rfl⟩ e (fun z=>nomatch z) h
 | @tup a xs ea =>
  cases (show u=Value.ref a from rx)
  obtain ⟨_,_,_,p⟩:=(show ObjOk X.prog X.w H s.heap a (.tup xs) from I.hok a _ ea)
  obtain ⟨o,h1,h2,_⟩:=p
  exact PySem.W.kia_one PySem.W.kitx_tuple I.kIn ⟨o,h1,h2⟩ e (fun z=>nomatch z) h
 | @dK a kvs ea =>
  cases (show u=Value.ref a from rx)
  obtain ⟨_,_,vs,_,p⟩:=(show ObjOk X.prog X.w H s.heap a (.dK kvs) from I.hok a _ ea)
  obtain ⟨o,es,ep,h1,h2,_⟩:=p
  exact PySem.W.kia_one PySem.W.kitx_dict I.kIn ⟨o,h1,h2.1⟩ e (fun z=>nomatch z) h
 | @dT a kvs ea =>
  cases (show u=Value.ref a from rx)
  obtain ⟨_,_,xs,_,o,es,ep,h1,h2,_⟩:=(show ObjOk X.prog X.w H s.heap a (.dT kvs) from I.hok a _ ea)
  exact PySem.W.kia_one PySem.W.kitx_dict I.kIn ⟨o,h1,h2.1⟩ e (fun z=>nomatch z) h
 | @ins a C dx fs ea cl ha hn htk hm =>
  cases (show u=Value.ref a from rx)
  obtain ⟨mA,O,_⟩:=ins_get I.hok ea
  obtain ⟨od,J,_⟩:=O.look
  exact PySem.W.kia_one (PySem.W.kitx_own (cl.get _) cl.hd ha hn htk hm) I.kIn J e (fun z=>nomatch z) h
end
structure Room (k:Nat) (A:Around):Prop where
 hd:A.handled=none
 dp:A.depth+3 * k+5 < recursionLimit
 un:A.units+16 * k+200 < cLine
 gd:A.guards=some []
theorem Room.mono {j k:Nat} {A:Around} (r:Room k A) (h:j<=k):Room j A:=⟨r.hd,by have:=r.dp;omega,by have:=r.un;omega,r.gd⟩
theorem Room.deeper {k:Nat} {A:Around} (r:Room (k+1) A) (env:Env):Room k (A.deeper env) :=
 ⟨r.hd,by have:=r.dp;show A.depth+1+3 * k+5 < _;omega,by have:=r.un;show A.units+3+16 * k+200 < _;omega,r.gd⟩
theorem make_guards {A:Around} {C:Addr} {us:List Value} {kw:List (Str × Value)} (h:A.guards=some []):(A.under (.builtin "type.__call__" ⟨.ref C::us,kw⟩)).guards=some []:=by
 have e:(Code.builtin "type.__call__" ⟨.ref C::us,kw⟩).isGuard=false:=by first | rfl | simp [Code.isGuard,guardIds]
 have q:∀ c:Code,(A.under c).guards=pushGuards c.guards A.guards:=fun _=>rfl
 rw [q,h,Code.guards,e]
 rfl
theorem make_depth {A:Around} {C:Addr} {us:List Value} {kw:List (Str × Value)}:(A.under (.builtin "type.__call__" ⟨.ref C::us,kw⟩)).depth=A.depth+1:=by
 first | rfl | simp [Around.under,Code.weight,Code.isCreation,Code.isGuard,Code.isCaller,Code.frames,Code.isFrame,guardIds]
theorem make_units {A:Around} {C:Addr} {us:List Value} {kw:List (Str × Value)}:(A.under (.builtin "type.__call__" ⟨.ref C::us,kw⟩)).units=A.units+1:=by
 first | rfl | simp [Around.under,Code.cUnits,Code.frames,Code.isFrame]
theorem Room.make {k:Nat} {A:Around} (r:Room (k+1) A) (C:Addr) (us:List Value) (kw:List (Str × Value)):Room k (A.under (.builtin "type.__call__" ⟨.ref C::us,kw⟩)) :=
 ⟨r.hd,by have:=r.dp;rw [make_depth];omega,by have:=r.un;rw [make_units];omega,make_guards r.gd⟩
theorem Room.depth {k:Nat} {A:Around} (r:Room k A):A.depth < recursionLimit:=by have:=r.dp;omega
theorem Room.units {k:Nat} {A:Around} (r:Room k A):A.units+64 < cLine:=by have:=r.un;omega
def tNil:TA:=fun _ H Q=>Q [] H
def tCons (ta:TE) (tr:TA):TA:=fun σ H Q=>ta σ H fun x H1=>tr σ H1 fun xs H2=>Q (x::xs) H2
section
variable {X:Cx} {e:Expr} {es:List Expr} {te:TE} {t:TA} {pos:Pos}
theorem pa_nil:PA X [] tNil:=fun _ _ _ _ H Q I h=>Calls.spliced_nil ⟨[],H,I,.nil,h⟩
theorem pa_cons (ha:PE X e te) (hr:PA X es t) (hs:starEach (e::es) X.env=(false,eval e X.env)::starEach es X.env:=by rfl):PA X (e::es) (tCons te t):=by
 intro pos pins s σ H Q I h
 rw [hs]
 show wpAny _ _ (spliced ((false,eval e X.env)::backTo pos (starEach es X.env))) _ _ s
 refine Calls.spliced_cons (thn (ha pins s σ H _ I h) fun u s1 ⟨x,H1,I1,r1,q1⟩=>?_)
 exact thn (hr pos pins s1 σ H1 _ I1 q1) fun us s2 ⟨xs,H2,I2,r2,q2⟩=>⟨x::xs,H2,I2,.cons r1 r2,q2⟩
def tTup (t:TA):TE:=fun σ H Q=>t σ H fun xs H1=>xs.length<=sizeLine/\∀ p,H1 p=none->Q (.ref p) (upd H1 p (.tup xs))
def tLst (t:TA):TE:=fun σ H Q=>t σ H fun xs H1=>xs.length<=sizeLine/\∀ p,H1 p=none->Q (.ref p) (upd H1 p (.lst xs))
theorem pe_tup {x1} (h:PA X es t):PE X (.Tuple es x1 pos) (tTup t):=by
 intro pins s σ H Q I hq
 refine wpAny_Tuple_spliced (thn (h pos pins s σ H _ I hq) fun us s1 ⟨xs,H1,I1,r,z,q⟩=>⟨by rw [<- r.length];exact z,?_⟩)
 have hf:H1 s1.heap.objs.size=none:=I1.hok.fresh (Nat.le_refl _)
 refine ⟨.ref s1.heap.objs.size,upd H1 s1.heap.objs.size (.tup xs),I1.laid (t':=s1.toks) (fun b u e=>Heap.get?_push_of_some _ e) (Nat.le_refl _) ?_,rfl,q _ hf⟩
 exact ⟨z,us,r,⟨_,Heap.get?_push_size _ rfl,rfl,_,rfl⟩⟩
theorem pe_lst (h:PA X es t):PE X (.List es pos) (tLst t):=by
 intro pins s σ H Q I hq
 refine wpAny_List_spliced (thn (h pos pins s σ H _ I hq) fun us s1 ⟨xs,H1,I1,r,z,q⟩=>⟨by rw [<- r.length];exact z,?_⟩)
 have hf:H1 s1.heap.objs.size=none:=I1.hok.fresh (Nat.le_refl _)
 refine ⟨.ref s1.heap.objs.size,upd H1 s1.heap.objs.size (.lst xs),I1.laid (t':=s1.toks) (fun b u e=>Heap.get?_push_of_some _ e) (Nat.le_refl _) ?_,rfl,q _ hf⟩
 exact ⟨z,us,0,r,Heap.get?_push_size _ rfl⟩
end
abbrev Sp:=List V->Hp->VK->XK->Prop
abbrev CXT:=List Env->Hp->Shared->XK->Value->Shared->Prop
structure Env0 (P:Program) (w:World) (K:PySem.W.Frag) (mg:Str->Option Value) (base:Heap) (A:Around) (outer:List Env) (s:Shared) (H:Hp):Prop where
 frames:A.frames=some outer
 mod:Mod K mg base
 bs:∀ b o,base.get? b=some o->s.heap.get? b=some o/\H b=none
 bsz:base.objs.size<=s.heap.objs.size
 funs:s.heap.FunFrames base outer
 frf:∀ b∈frs outer,H b=none
 hok:HOk P w H s.heap
 bare:AllBare s.gens
def CE (outer:List Env) (P:Program) (w:World) (H:Hp) (s:Shared) (Q:VK) (u:Value) (s':Shared):Prop :=
 ∃ v H',s'.os=s.os/\AllBare s'.gens/\Un (frs outer) [] H H' s.heap s'.heap/\HOk P w H' s'.heap/\RelV v u/\Q v H'
def CR (CX:CXT) (outer:List Env) (P:Program) (w:World) (H:Hp) (s:Shared) (Q:VK) (E:XK) (r:Result) (s':Shared):Prop :=
 match r with
 | .ok (.ret u)=>CE outer P w H s Q u s'
 | .ok _=>False
 | .error e=>CX outer H s E e s'
structure FnOk (P:Program) (w:World) (K:PySem.W.Frag) (mg:Str->Option Value) (base:Heap) (CX:CXT) (k:Nat) (f:Addr) (fd:FuncData) (ps:List Str) (sp:Sp):Prop where
 len:∀ vs H Q E,sp vs H Q E->vs.length=ps.length
 run:∀ (A:Around) (outer:List Env) (s:Shared) (H:Hp) (args:Args) (us:List Value) (vs:List V) (Q:VK) (E:XK),Room k A->Env0 P w K mg base A outer s H->BindsTo s fd args (ps.zip us)->Vals vs us->sp vs H Q E ->
  codeAny (model P w) A (.call (.ref f) args) (CR CX outer P w H s Q E) s
theorem Env0.make {P:Program} {w:World} {K:PySem.W.Frag} {mg:Str->Option Value} {base:Heap} {A:Around} {outer:List Env} {s:Shared} {H:Hp} (e:Env0 P w K mg base A outer s H) (C:Addr) (us:List Value) (kw:List (Str × Value)) :
  Env0 P w K mg base (A.under (.builtin "type.__call__" ⟨.ref C::us,kw⟩)) outer s H:=⟨by first | exact e.frames | (simpa [Around.under,Code.envs,Code.isFrame,pushEnvs] using e.frames),e.mod,e.bs,e.bsz,e.funs,e.frf,e.hok,e.bare⟩
section
variable {X:Cx} {pins:List (Addr × Obj)} {σ:St} {H:Hp} {s s':Shared}
theorem Inv.env0 (I:Inv X pins σ H s):Env0 X.prog X.w X.K X.mg X.base X.A X.stack s H :=
 ⟨I.ok.frames,I.ok.mod,I.bs,Nat.le_trans I.ok.bsz I.sz,I.stack,I.stkFree,I.hok,I.bare⟩
theorem Inv.after {Q:VK} {u:Value} (I:Inv X pins σ H s) (h:CE X.stack X.prog X.w H s Q u s'):EP X pins σ Q u s':=by
 obtain ⟨v,H',os,bare,un,hok,r,q⟩:=h
 obtain ⟨hh,g,d,t,os'⟩:=s'
 obtain rfl:os'=s.os:=os
 exact ⟨v,H',I.call (h':=hh) (g':=g) (d':=d) (t':=t) (ch:=[]) un hok bare (fun b z=>absurd z (by simp)),r,q⟩
end
def tCall (sp:Sp) (dvs:List V) (E:XK) (t:TA):TE:=fun σ H Q=>t σ H fun vs H1=>sp (vs++dvs) H1 Q E
def tMeth (C:Addr) (m:Str) (sp:Sp) (dvs:List V) (E:XK) (ta:TE) (t:TA):TE:=fun σ H Q=>ta σ H fun x H1=>∃ a dx fs,x=.ref a/\H1 a=some (.ins C dx fs)/\fs.lookup m=none /\
 t σ H1 fun vs H2=>sp (x::(vs++dvs)) H2 Q E
def tMake (C:Addr) (sp:Sp) (dvs:List V) (E:XK) (t:TA):TE:=fun σ H Q=>t σ H fun vs H1=>∀ x dx,H1 x=none->H1 dx=none->dx≠x ->
 sp (.ref x::(vs++dvs)) (upd (upd H1 dx (.own x)) x (.ins C dx [])) (fun v H2=>v=.non/\Q (.ref x) H2) E
def Binds (K:PySem.W.Frag) (fd:FuncData) (ps:List Str) (ds:List Value):Prop :=
 ∀ (s:Shared) (us:List Value),K.In s.heap->(us++ds).length=ps.length->BindsTo s fd ⟨us,[]⟩ (ps.zip (us++ds))
theorem Binds.all {K:PySem.W.Frag} {fd:FuncData} {ps:List Str} (h:∀ us:List Value,us.length=ps.length->bindArgs fd ⟨us,[]⟩=pure (ps.zip us)):Binds K fd ps []:=fun s us _ hl=>by
 rw [List.append_nil] at hl ⊢
 exact .of_eq (h us hl)
def Passes (CX:CXT) (X:Cx) (E:XK):Prop:=∀ (pins:List (Addr × Obj)) (σ:St) (H:Hp) (s:Shared) (e:Value) (s':Shared),Inv X pins σ H s->CX X.stack H s E e s'->X.xe e s'
section
variable {X:Cx} {CX:CXT} {k:Nat} {f C:Addr} {fd:FuncData} {ps:List Str} {sp:Sp} {dvs:List V} {ds:List Value} {E:XK} {x m:Str} {p pos apos:Pos} {e o:Expr} {es:List Expr} {ta:TE} {t:TA}
theorem run_fn {pins:List (Addr × Obj)} {σ:St} {H:Hp} {s:Shared} {Q:VK} {us:List Value} {vs:List V} (F:FnOk X.prog X.w X.K X.mg X.base CX k f fd ps sp) (hr:Room k X.A) (hb:Binds X.K fd ps ds) (hd:Vals dvs ds) (hx:Passes CX X E)
  (I:Inv X pins σ H s) (r:Vals vs us) (h:sp (vs++dvs) H Q E):wpAny (model X.prog X.w) X.A (call (.ref f) us) (EP X pins σ Q) X.xe s:=by
 have r2:Vals (vs++dvs) (us++ds):=r.append hd
 have hl:(us++ds).length=ps.length:=by rw [<- r2.length];exact F.len _ _ _ _ h
 refine wpAny_call (codeAny_mono (F.run X.A X.stack s H ⟨us,[]⟩ (us++ds) (vs++dvs) Q E hr I.env0 (hb s us I.kIn hl) r2 h) fun r s' hq=>?_)
 cases r with
 | error e=>exact hx pins σ H s e s' I hq
 | ok fl =>
  cases fl with
  | ret u=>exact I.after hq
  | next=>exact False.elim hq
  | brk=>exact False.elim hq
  | cont=>exact False.elim hq
theorem pe_call (F:FnOk X.prog X.w X.K X.mg X.base CX k f fd ps sp) (hr:Room k X.A) (hg:Gl X x) (hm:X.mg x=some (.ref f)) (hk:PySem.W.keepIn X.K (.ref f)=true) (hb:Binds X.K fd ps ds) (hd:Vals dvs ds) (hx:Passes CX X E)
  (ha:PA X (e::es) t) (hdb:(x == ("__debug__" : Str))=false:=by decide) (he:starEach (e::es) X.env=(false,eval e X.env)::starEach es X.env:=by rfl) (hpl:(backTo pos (starEach es X.env)).any (·.1)=false:=by rfl) :
  PE X (.Call (.Name x p) (e::es) [] pos) (tCall sp dvs E t):=by
 intro pins s σ H Q I h
 refine wpAny_Call_Name_kw (ld_glob I hg hm ?_ hdb)
 refine PySem.W.callWith_K (h₀:=X.base) I.ok.mod.kin hk (thn (ha pos pins s σ H _ I h) fun us s1 ⟨vs,H1,I1,r,q⟩=>⟨I1.kIn,?_⟩) he hpl
 exact run_fn F hr hb hd hx I1 r q
theorem pe_meth0 {pl:Sem Bool} (he:PE X o ta) (c:Cls X.K C) (hm:Meth X.K C m f) (F:FnOk X.prog X.w X.K X.mg X.base CX k f fd ps sp) (hr:Room k X.A) (hb:Binds X.K fd ps ds) (hd:Vals dvs ds) (hx:Passes CX X E)
  (ht:eval (.Call (.Attribute o m apos) [] [] pos) X.env=(do
   let ov <- eval o X.env
   standAt apos.atName
   let (f,first) <- holding [ov] (getMethod ov m pl)
   callWith pos f first (backTo pos (starEach [] X.env)) (backToKw pos (keywordEach [] X.env))):=by rfl) :
  PE X (.Call (.Attribute o m apos) [] [] pos) (tMeth C m sp dvs E ta tNil):=by
 intro pins s σ H Q I h
 refine PySem.W.methodCall_KW (pl:=pl) (thn (he pins s σ H _ I h) fun u s1 ⟨x,H1,I1,rx,a,dx,fs,ex,ea,l,q⟩=>?_) ht
 subst ex
 obtain rfl:u=Value.ref a:=rx
 refine getmeth_ok I1 ea c hm l ?_
 exact PySem.W.callWith_K0 (first:=[.ref a]) I1.kIn hm.kp (run_fn (us:=[.ref a]) (vs:=[.ref a]) F hr hb hd hx I1 (.cons rfl .nil) q)
structure Mk (K:PySem.W.Frag) (C f:Addr):Prop where
 makes:PySem.W.makesIn K C=true
 init:PySem.W.findIn K (.ref C) "__init__" = some (some (.ref f))
 fn:PySem.W.isFn K (.ref f)=true
 kp:PySem.W.keepIn K (.ref C)=true
theorem run_make {pins:List (Addr × Obj)} {σ:St} {H:Hp} {s:Shared} {Q:VK} {us:List Value} {vs:List V} (M:Mk X.K C f) (F:FnOk X.prog X.w X.K X.mg X.base CX k f fd ps sp) (hr:Room (k+1) X.A) (hb:Binds X.K fd ps ds) (hd:Vals dvs ds)
  (hx:Passes CX X E) (I:Inv X pins σ H s) (r:Vals vs us)
  (h:∀ x dx,H x=none->H dx=none->dx≠x->sp (.ref x::(vs++dvs)) (upd (upd H dx (.own x)) x (.ins C dx [])) (fun v H2=>v=.non/\Q (.ref x) H2) E) :
  wpAny (model X.prog X.w) X.A (call (.ref C) us) (EP X pins σ Q) X.xe s:=by
 have hq:=h (s.heap.objs.size+1) s.heap.objs.size (I.hok.fresh (Nat.le_succ _)) (I.hok.fresh (Nat.le_refl _)) (Nat.ne_of_lt (Nat.lt_succ_self _))
 have I2:=Inv.made (C:=C) I
 have r2:Vals (V.ref (s.heap.objs.size+1)::(vs++dvs)) (Value.ref (s.heap.objs.size+1)::(us++ds)):=.cons rfl (r.append hd)
 have hl:(Value.ref (s.heap.objs.size+1)::us++ds).length=ps.length:=by
  have e:=r2.length
  rw [F.len _ _ _ _ hq] at e
  exact e.symm
 refine wpAny_call (make_map (f:=f) I.kIn M.makes M.init (beq_iff_eq.mp M.fn) (codeAny_mono (F.run _ X.stack _ _ ⟨Value.ref (s.heap.objs.size+1)::us,[]⟩ (Value.ref (s.heap.objs.size+1)::(us++ds)) _ _ E (hr.make C us [])
  (I2.env0.make C us []) (hb _ (Value.ref (s.heap.objs.size+1)::us) I2.kIn hl) r2 hq) fun r s' hq'=>?_))
 cases r with
 | error e=>exact hx pins σ _ _ e s' I2 hq'
 | ok fl =>
  cases fl with
  | ret u =>
   obtain ⟨v,H',I3,rv,ev,q3⟩:=I2.after hq'
   subst ev
   exact ⟨rv,⟨V.ref (s.heap.objs.size+1),H',I3,rfl,q3⟩⟩
  | next=>exact False.elim hq'
  | brk=>exact False.elim hq'
  | cont=>exact False.elim hq'
theorem pe_make (M:Mk X.K C f) (F:FnOk X.prog X.w X.K X.mg X.base CX k f fd ps sp) (hr:Room (k+1) X.A) (hg:Gl X x) (hm:X.mg x=some (.ref C)) (hb:Binds X.K fd ps ds) (hd:Vals dvs ds) (hx:Passes CX X E)
  (ha:PA X (e::es) t) (hdb:(x == ("__debug__" : Str))=false:=by decide) (he:starEach (e::es) X.env=(false,eval e X.env)::starEach es X.env:=by rfl) (hpl:(backTo pos (starEach es X.env)).any (·.1)=false:=by rfl) :
  PE X (.Call (.Name x p) (e::es) [] pos) (tMake C sp dvs E t):=by
 intro pins s σ H Q I h
 refine wpAny_Call_Name_kw (ld_glob I hg hm ?_ hdb)
 refine PySem.W.callWith_K (h₀:=X.base) I.ok.mod.kin M.kp (thn (ha pos pins s σ H _ I h) fun us s1 ⟨vs,H1,I1,r,q⟩=>⟨I1.kIn,?_⟩) he hpl
 exact run_make M F hr hb hd hx I1 r q
end
section
variable {X:Cx} {CX:CXT} {k:Nat} {f C:Addr} {fd:FuncData} {ps ks:List Str} {sp:Sp} {E:XK} {x m:Str} {p pos apos kpos:Pos} {e o:Expr} {es:List Expr} {kws:List Keyword} {te ta:TE} {t tk:TA} {nm:Option Str}
variable {g:List Value->List Value->List Value} {gV:List V->List V->List V}
end
structure FnScope (N P:List Str) (sc:Scope):Prop where
 kind:sc.kind=.function
 co:sc.isCoroutine=false
 gen:sc.isGenerator=false
 nd:N.Nodup
 pre:N.take P.length=P
 par:∀ x∈P,sc.names.lookup x=some .local\/sc.names.lookup x=some .cell
 nofree:∀ y∈sc.names,y.2≠.free
theorem bindL_out {kindOf:Str->Option NameKind} {x:Str}:∀ {binds:List (Str × Value)} {m:Str->Option Value},(∀ v,(x,v) ∉ binds)->bindL kindOf binds m x=m x
 | [],_,_=>rfl
 | (n,v)::r,m,h=>by
  unfold bindL
  rw [bindL_out fun w hw=>h w (List.mem_cons_of_mem _ hw)]
  split
  ·have:x≠n:=by rintro rfl;exact h v List.mem_cons_self
   simp [this]
  ·rfl
theorem bindC_out {kindOf:Str->Option NameKind} {x:Str}:∀ {binds:List (Str × Value)} {m:Str->Option Value},(∀ v,(x,v) ∉ binds)->bindC kindOf binds m x=m x
 | [],_,_=>rfl
 | (n,v)::r,m,h=>by
  unfold bindC
  rw [bindC_out fun w hw=>h w (List.mem_cons_of_mem _ hw)]
  split
  ·rfl
  ·have:x≠n:=by rintro rfl;exact h v List.mem_cons_self
   simp [this]
theorem bindL_get {kindOf:Str->Option NameKind} {x:Str} {v:Value}:∀ {P:List Str} {vs:List Value} {i:Nat} {m:Str->Option Value},P.Nodup->P[i]?=some x->vs[i]?=some v->kindOf x=some .local ->
  bindL kindOf (P.zip vs) m x=some v
 | [],_,_,_,_,h,_,_=>by simp at h
 | _::_,[],_,_,_,_,h,_=>by simp at h
 | p::P,w::vs,0,m,nd,h1,h2,hk=>by
  simp at h1 h2;subst h1;subst h2
  show bindL kindOf ((p,w)::P.zip vs) m p=_
  unfold bindL
  rw [bindL_out fun v hv=>(List.nodup_cons.mp nd).1 (List.of_mem_zip hv).1,if_pos hk]
  simp
 | p::P,w::vs,i+1,m,nd,h1,h2,hk=>by
  show bindL kindOf ((p,w)::P.zip vs) m x=_
  unfold bindL
  exact bindL_get (i:=i) (List.nodup_cons.mp nd).2 (by simpa using h1) (by simpa using h2) hk
theorem bindC_get {kindOf:Str->Option NameKind} {x:Str} {v:Value}:∀ {P:List Str} {vs:List Value} {i:Nat} {m:Str->Option Value},P.Nodup->P[i]?=some x->vs[i]?=some v->kindOf x≠some .local ->
  bindC kindOf (P.zip vs) m x=some v
 | [],_,_,_,_,h,_,_=>by simp at h
 | _::_,[],_,_,_,_,h,_=>by simp at h
 | p::P,w::vs,0,m,nd,h1,h2,hk=>by
  simp at h1 h2;subst h1;subst h2
  show bindC kindOf ((p,w)::P.zip vs) m p=_
  unfold bindC
  rw [bindC_out fun v hv=>(List.nodup_cons.mp nd).1 (List.of_mem_zip hv).1,if_neg hk]
  simp
 | p::P,w::vs,i+1,m,nd,h1,h2,hk=>by
  show bindC kindOf ((p,w)::P.zip vs) m x=_
  unfold bindC
  exact bindC_get (i:=i) (List.nodup_cons.mp nd).2 (by simpa using h1) (by simpa using h2) hk
def start (N:List Str) (vs:List V):St:=vs.map some++List.replicate (N.length - vs.length) none
def cxOf (CX:CXT) (P:Program) (w:World) (K:PySem.W.Frag) (mg:Str->Option Value) (base:Heap) (N:List Str) (qual:Str) (scope:Scope) (f:Addr) (cd:Value) (A:Around) (outer:List Env) (s:Shared) (H:Hp) (E:XK):Cx where
 prog:=P
 w:=w
 K:=K
 mg:=mg
 base:=base
 A:=A.deeper (envOfC qual scope s.heap.objs.size f cd)
 N:=N
 s₀:=s
 H₀:=H
 env:=envOfC qual scope s.heap.objs.size f cd
 outer:=outer
 stack:=envOfC qual scope s.heap.objs.size f cd::outer
 ex:=[]
 calm:=true
 fn:=fun _=>true
 pn:=[]
 xe:=fun e s'=>wpAny (model P w) (A.deeper (envOfC qual scope s.heap.objs.size f cd)) (leaving (envOfC qual scope s.heap.objs.size f cd) e) (fun _ s''=>CX outer H s E e s'') (fun e' s''=>CX outer H s E e' s'') s'
theorem cell_has {sc:Scope} {n:Nat} {x:Str} (h:sc.names.lookup x=some .cell):∃ c,(cellsFrom n sc.names []).lookup x=some c:=by
 have q:=PySem.W.cellsFrom_some sc.names n [] (.inl h)
 exact Option.isSome_iff_exists.mp q
theorem inv_start {CX:CXT} {P:Program} {w:World} {K:PySem.W.Frag} {mg:Str->Option Value} {base:Heap} {N ps:List Str} {qual:Str} {scope:Scope} {f:Addr} {cd:Value} {A:Around} {outer:List Env} {s s1:Shared} {H:Hp} {E:XK} {us:List Value} {vs:List V}
  (S:FnScope N ps scope) (hd:A.handled=none) (e0:Env0 P w K mg base A outer s H) (hl:vs.length=ps.length) (r:Vals vs us)
  (x:InCallC s s.heap.objs.size (bindL (envOfC qual scope s.heap.objs.size f cd).kindOf (ps.zip us) fun _=>none) (cellsFrom (s.heap.objs.size+1) scope.names []) (bindC (envOfC qual scope s.heap.objs.size f cd).kindOf (ps.zip us) fun _=>none) s1) :
  Inv (cxOf CX P w K mg base N qual scope f cd A outer s H E) [] (start N vs) H s1:=by
 have hpl:ps.length<=N.length:=by have:=congrArg List.length S.pre;rw [List.length_take] at this;omega
 obtain ⟨h1,tk,rfl,hk⟩:=x.done
 have noA:∀ b:Addr,b ∉ (cxOf CX P w K mg base N qual scope f cd A outer s H E).ex:=fun b z=>absurd (show b∈([]:List Addr) from z) (by simp)
 refine ⟨⟨e0.mod,S.kind,rfl,rfl,Nat.le_refl _,fun y z c h1 h2=>?_,fun y hy=>?_,fun y c _ h=>?_,fun _=>hd,Around.frames_deeper e0.frames,.inr ⟨rfl,rfl⟩,fun b z=>absurd z (noA b),e0.bs,e0.bsz,fun b _ _=>noA b,fun b z=>absurd z (noA b),e0.funs,e0.frf⟩,
  rfl,e0.bare,Un.kept hk,⟨_,x.toInCall.ns,fun i y v h1 h2 h3=>?_⟩,fun y c h=>⟨_,x.cell y c h⟩,e0.hok.fresh (Nat.le_refl _),fun y c h=>?_,fun p hp=>absurd (show p∈([]:List (Addr × Obj)) from hp) (by simp),e0.hok.kept hk,?_⟩
 ·exact name_of_addr x.apart (PySem.mem_of_lookup h1) (PySem.mem_of_lookup h2)
 ·have hy:scope.names.lookup y=some .cell\/scope.names.lookup y=some .free:=hy
  rcases hy with hy | hy
  ·exact cell_has hy
  ·exact absurd rfl (S.nofree _ (PySem.mem_of_lookup hy))
 ·exact Nat.le_of_lt (x.above y c (PySem.mem_of_lookup h))
 ·have hi:i < vs.length:=by
   unfold start at h2
   by_cases hi:i < vs.length
   ·exact hi
   ·rw [List.getElem?_append_right (by simpa using hi)] at h2
    rw [List.getElem?_replicate] at h2
    split at h2<;>cases h2
  have ha:vs[i]?=some v:=by
   unfold start at h2
   rw [List.getElem?_append_left (by simpa using hi),List.getElem?_map] at h2
   cases e:vs[i]? with
   | none=>rw [e] at h2;cases h2
   | some a=>rw [e] at h2;cases h2;rfl
  obtain ⟨u,hu,rv⟩:=r.get ha
  have hp:ps[i]?=some y:=by
   rw [<- S.pre,List.getElem?_take_of_lt (by omega)];exact h1
  have ndP:ps.Nodup:=by rw [<- S.pre];exact S.nd.sublist (List.take_sublist _ _)
  refine ⟨u,rv,?_⟩
  rcases S.par y (List.mem_of_getElem? hp) with k | k
  ·exact .inl ⟨k,bindL_get ndP hp hu k⟩
  ·obtain ⟨c,e⟩:=cell_has (n:=s.heap.objs.size+1) k
   refine .inr ⟨.inl k,c,e,?_⟩
   have q:=x.cell y c e
   rw [bindC_get ndP hp hu (by show scope.names.lookup y≠_;rw [k];decide)] at q
   exact q
 ·exact e0.hok.fresh (Nat.le_of_lt (x.above y c (PySem.mem_of_lookup h)))
 ·unfold start
  show _=N.length
  rw [List.length_append,List.length_map,List.length_replicate]
  omega
theorem fn_of {CX:CXT} {P:Program} {w:World} {K:PySem.W.Frag} {mg:Str->Option Value} {base:Heap} {k:Nat} {f:Addr} {name qual:Str} {params:Arguments} {body:List Stmt} {scope:Scope} {dV kV doc pm cdv ct oc:Value} {an od:Option Addr}
  {osl:Array (Option Value)} {N ps:List Str} {sp:Sp} (lk:K.lookup f=some ⟨oc,od,.func (PySem.W.fnOf name qual params body scope dV kV doc pm an cdv ct),osl⟩) (hcd:PySem.W.codeIn K cdv qual=true) (S:FnScope N ps scope)
  (len:∀ vs H Q E,sp vs H Q E->vs.length=ps.length)
  (hbody:∀ (A:Around) (outer:List Env) (s:Shared) (H:Hp) (vs:List V) (Q:VK) (E:XK),Room k (A.deeper (envOfC qual scope s.heap.objs.size f cdv))->sp vs H Q E ->
   ∃ t,PSs (cxOf CX P w K mg base N qual scope f cdv A outer s H E) body t/\t { nx:=fun _ H'=>Q .non H',rt:=Q } (start N vs) H) :
  FnOk P w K mg base CX (k+1) f (PySem.W.fnOf name qual params body scope dV kV doc pm an cdv ct) ps sp:=by
 refine ⟨len,fun A outer s H args us vs Q E hr e0 hb r hsp=>?_⟩
 have hl:=len _ _ _ _ hsp
 have KX:K.In s.heap:=e0.mod.kin.keeps fun b o e=>(e0.bs b o e).1
 have lim:s.heap.NoLimit:=e0.mod.nolimit.keeps fun b o e=>(e0.bs b o e).1
 have hkind:∀ y∈ps.zip us,scope.names.lookup y.1=some .local\/(scope.names.lookup y.1=some .cell/\((cellsFrom (s.heap.objs.size+1) scope.names []).lookup y.1).isSome=true):=fun ⟨n,v⟩ hy=>by
  rcases S.par n (List.of_mem_zip hy).1 with q | q
  ·exact .inl q
  ·exact .inr ⟨q,PySem.W.cellsFrom_some _ _ _ (.inl q)⟩
 refine codeAny_call_function hr.depth (KX _ _ lk) rfl S.co S.gen rfl (PySem.W.codeRec_of KX hcd) (hb _ _ _ _ ?_)
 refine wpAny_newFunctionEnv_cells S.kind hkind fun env he s1 x=>?_
 subst he
 refine ⟨lim.keeps x.toInCall.keep,codeAny_func ?_⟩
 obtain ⟨t,ht,hq⟩:=hbody A outer s H vs Q E (hr.deeper _) hsp
 have I:Inv (cxOf CX P w K mg base N qual scope f cdv A outer s H E) [] (start N vs) H s1:=inv_start S hr.hd e0 hl r x
 refine wpAny_mono (ht [] s1 (start N vs) H _ I hq) (fun fl s' hs=>?_) fun e s' hs=>hs
 have fin:∀ {σ':St} {H':Hp} {v:V} {u:Value},Inv (cxOf CX P w K mg base N qual scope f cdv A outer s H E) [] σ' H' s'->RelV v u->Q v H'->CE outer P w H s Q u s' :=
  fun {σ' H' v u} J rv q=>⟨v,H',J.os,J.bare,J.base,J.hok,rv,q⟩
 cases fl with
 | ret u =>
  obtain ⟨v,σ',H',J,rv,q⟩:=hs
  exact fin J rv q
 | next =>
  obtain ⟨σ',H',J,q⟩:=hs
  exact fin (v:=V.non) (u:=Value.none) J rfl q
 | brk =>
  obtain ⟨_,_,_,q⟩:=hs
  exact False.elim q
 | cont =>
  obtain ⟨_,_,_,q⟩:=hs
  exact False.elim q
section
variable {X:Cx} {x:Str} {p pos:Pos} {e:Expr} {es:List Expr} {t:TA} {id T:String} {r:List V->Hp->VK->Prop}
def tCB (r:List V->Hp->VK->Prop) (t:TA):TE:=fun σ H Q=>t σ H fun vs H1=>r vs H1 Q
theorem pe_callB (hc:CallR X (.builtin id) r) (hg:Gl X x) (hm:X.mg x=none) (hv:bootBuiltins x=some (.builtin id)) (ha:PA X (e::es) t) (hn:x≠"__name__" := by decide) (hdb:(x == ("__debug__" : Str))=false:=by decide)
  (he:starEach (e::es) X.env=(false,eval e X.env)::starEach es X.env:=by rfl) (hpl:(backTo pos (starEach es X.env)).any (·.1)=false:=by rfl):PE X (.Call (.Name x p) (e::es) [] pos) (tCB r t):=by
 intro pins s σ H Q I h
 refine wpAny_Call_Name_kw (ld_blt I hg hm hv ?_ hn hdb)
 exact PyProof.Rows.callWith_builtin1 (thn (ha pos pins s σ H _ I h) fun us s1 ⟨vs,H1,I1,r1,q1⟩=>hc pins s1 σ H1 vs us Q I1 r1 q1) he hpl
theorem pe_callTy (hc:CallR X (.type T) r) (hg:Gl X x) (hm:X.mg x=none) (hv:bootBuiltins x=some (.type T)) (ha:PA X (e::es) t) (hn:x≠"__name__" := by decide) (hdb:(x == ("__debug__" : Str))=false:=by decide)
  (he:starEach (e::es) X.env=(false,eval e X.env)::starEach es X.env:=by rfl) (hpl:(backTo pos (starEach es X.env)).any (·.1)=false:=by rfl):PE X (.Call (.Name x p) (e::es) [] pos) (tCB r t):=by
 intro pins s σ H Q I h
 refine wpAny_Call_Name_kw (ld_blt I hg hm hv ?_ hn hdb)
 exact PyProof.Rows.callWith_type1 (thn (ha pos pins s σ H _ I h) fun us s1 ⟨vs,H1,I1,r1,q1⟩=>hc pins s1 σ H1 vs us Q I1 r1 q1) he hpl
end
end L2
namespace HT
open PySem PyProof.Rows
section
open PySem.SeqAt
open PySem.AutoSeq1 (wpAny_loadPart')
open PySem.MeetsSeq PySem.MeetsSeq2 PySem.MeetsSeq3
end
section
variable {prog:Program} {w:World} {A:Around} {E:Value->Shared->Prop} {s:Shared}
def sIx (n d:Nat):Option Int->Nat
 | none=>d
 | some v=>if v < 0 then (v+(n:Int)).toNat else min v.toNat n
theorem sIx_none (n d:Nat):sIx n d none=d:=rfl
theorem sIx_nat (n d k:Nat):sIx n d (some (k:Int))=min k n:=by
 show (if (k:Int) < 0 then ((k:Int)+(n:Int)).toNat else min (k:Int).toNat n)=min k n
 rw [if_neg (by omega),Int.toNat_natCast]
theorem sIx_le (n d:Nat) (hd:d<=n) (o:Option Int):sIx n d o<=n:=by
 cases o with
 | none=>exact hd
 | some v =>
  show (if v < 0 then (v+(n:Int)).toNat else min v.toNat n)<=n
  by_cases hv:v < 0
  ·rw [if_pos hv];omega
  ·rw [if_neg hv];exact Nat.min_le_right _ _
theorem clip_eq (v:Int) (n d:Nat):(if v < 0 then max (v+(n:Int)) 0 else min v (n:Int))=((sIx n d (some v):Nat):Int):=by
 show (if v < 0 then max (v+(n:Int)) 0 else min v (n:Int))=(((if v < 0 then (v+(n:Int)).toNat else min v.toNat n):Nat):Int)
 by_cases hv:v < 0
 ·simp only [if_pos hv];omega
 ·simp only [if_neg hv];omega
theorem adjust_gen (lo hi:Option Int) (n:Nat):Builtin.Slice.sliceAdjust lo hi 1 (n:Int)=(((sIx n 0 lo:Nat):Int),((sIx n n hi:Nat):Int)):=by
 have h1:¬ ((1:Int) < 0):=by omega
 unfold Builtin.Slice.sliceAdjust
 simp only [h1,if_false]
 refine Prod.ext ?_ ?_
 ·cases lo with
  | none=>rfl
  | some v=>exact clip_eq v n 0
 ·cases hi with
  | none=>rfl
  | some v=>exact clip_eq v n n
theorem places_gen (i j:Nat):Builtin.Slice.slicePlaces (i:Int) (j:Int) 1=j - i:=by
 unfold Builtin.Slice.slicePlaces
 have h1:(1:Int) > 0:=by omega
 simp only [h1,if_true,Int.ediv_one]
 split<;>omega
theorem slicePart_ {v:Value} {o:Option Int} {Q:Option Int->Shared->Prop} (p:IsPart v o) (h:Q o s):wpAny (model prog w) A (Builtin.Slice.slicePartIndex v) Q E s:=by
 cases p with
 | none=>exact slicePart_none h
 | int i t=>exact slicePart_int h
theorem sliceApplied_gen {sl:Addr} {vl vu:Value} {lo hi:Option Int} {n:Nat} {Q:Int × Int × Nat->Shared->Prop} (hs:s.heap.IsSliceOf sl vl vu .none) (pl:IsPart vl lo) (pu:IsPart vu hi)
  (h:Q (((sIx n 0 lo:Nat):Int),1,sIx n n hi - sIx n 0 lo) s):wpAny (model prog w) A (Builtin.Slice.sliceApplied (.ref sl) (pure (n:Int))) Q E s:=by
 obtain ⟨os,hos,hcs,hds⟩:=id hs
 unfold Builtin.Slice.sliceApplied Builtin.Slice.sliceFields
 refine wpAny_bind (wpAny_bind (wpAny_field hos hds (x:=vl) rfl (wpAny_bind (wpAny_field hos hds (x:=vu) rfl (wpAny_bind (wpAny_field hos hds (x:=.none) rfl (wpAny_pure ?_)))))))
 refine wpAny_bind (slicePart_none ?_)
 show wpAny _ _ (if ((1:Int) == 0)=true then _ else _) _ _ s
 rw [if_neg (by decide)]
 refine wpAny_bind (slicePart_ pl (wpAny_bind (slicePart_ pu (wpAny_bind (wpAny_pure ?_)))))
 show wpAny _ _ (match Builtin.Slice.sliceAdjust lo hi 1 (n:Int) with | (lo,hi)=>pure (lo,(1:Int),Builtin.Slice.slicePlaces lo hi 1)) _ _ s
 rw [adjust_gen lo hi n]
 show wpAny _ _ (pure (((sIx n 0 lo:Nat):Int),(1:Int),Builtin.Slice.slicePlaces ((sIx n 0 lo:Nat):Int) ((sIx n n hi:Nat):Int) 1)) _ _ s
 rw [places_gen]
 exact wpAny_pure h
theorem pick_gen (xs:Array Value) (i k:Nat):((List.range k).filterMap fun (m:Nat)=>xs[((i:Int)+(m:Int) * 1).toNat]?).toArray=((xs.toList.drop i).take k).toArray:=by
 have e:(fun (m:Nat)=>xs[((i:Int)+(m:Int) * 1).toNat]?)=fun m=>xs[i+m]?:=by
  funext m
  have:((i:Int)+(m:Int) * 1).toNat=i+m:=by omega
  rw [this]
 rw [e]
 have:=pick_run xs i k
 rw [List.filterMap_map] at this
 have e2:((fun x=>xs[x]?) ∘ fun x=>i+x)=fun m=>xs[i+m]?:=rfl
 rw [e2] at this
 rw [this]
theorem getItem_tuple_cut {t sl:Addr} {items:Array Value} {vl vu:Value} {lo hi:Option Int} {Q:Value->Shared->Prop} (ht:IsTup s.heap t items) (hs:s.heap.IsSliceOf sl vl vu .none) (pl:IsPart vl lo) (pu:IsPart vu hi)
  (hw:¬ (sIx items.size 0 lo=0/\sIx items.size items.size hi=items.size))
  (h:Q (.ref s.heap.objs.size) { s with heap:=s.heap.push { cls:=.type "tuple",data:=.seq ((items.toList.drop (sIx items.size 0 lo)).take (sIx items.size items.size hi - sIx items.size 0 lo)).toArray } })
  (hsz:items.size<=sizeLine):wpAny (model prog w) A (getItem (.ref t) (.ref sl)) Q E s:=by
 have htake:sizeOk (.seq ((items.toList.drop (sIx items.size 0 lo)).take (sIx items.size items.size hi - sIx items.size 0 lo)).toArray):=by
  show ((items.toList.drop (sIx items.size 0 lo)).take (sIx items.size items.size hi - sIx items.size 0 lo)).toArray.size<=sizeLine
  rw [List.size_toArray,List.length_take,List.length_drop,Array.length_toList]
  omega
 have hj:sIx items.size items.size hi<=items.size:=sIx_le _ _ (Nat.le_refl _) hi
 obtain ⟨os,hos,hcs,hds⟩:=id hs
 have hTs:s.TypeIs (.ref sl) "slice" := ⟨os,hos,hcs⟩
 unfold getItem
 try with_reducible refine wpAny_holding ?_
 first | refine wpAny_bind (wpAny_pure ?_) | skip
 refine wpAny_bind (wpAny_sequenceKey ht.typeIs (by decide) ?_)
 refine wpAny_bind (wpAny_callSpecial?_slot (name:=Str.ofString "__getitem__") ht.typeIs PyProof.Rows.slot_tuple_getitem
  (wpAny_call_entry PyProof.Rows.slot_tuple_getitem ht.typeIs entry_tuple_getitem ?_ (args_tuple_getitem _ _)))
 show wpAny _ _ (Builtin.Tuple.tupleItemsOf (.ref t) >>= _) _ _ s
 refine wpAny_bind (tupleItemsOf_ ht ?_)
 refine wpAny_bind (wpAny_typeOf hTs ?_)
 rw [if_pos (by decide)]
 refine wpAny_bind (sliceApplied_gen hs pl pu ?_)
 have hno:¬ ((((sIx items.size 0 lo:Nat):Int) == 0 && (1:Int) == 1 && (sIx items.size items.size hi - sIx items.size 0 lo) == items.size)=true):=by
  intro q
  rw [Bool.and_eq_true,Bool.and_eq_true] at q
  have q1:((sIx items.size 0 lo:Nat):Int)=0:=eq_of_beq q.1.1
  have q2:sIx items.size items.size hi - sIx items.size 0 lo=items.size:=eq_of_beq q.2
  exact hw ⟨by omega,by omega⟩
 show wpAny _ _ (if (((sIx items.size 0 lo:Nat):Int) == 0 && (1:Int) == 1 && (sIx items.size items.size hi - sIx items.size 0 lo) == items.size)=true then _ else _) _ _ s
 rw [if_neg hno,pick_gen]
 first
  | exact wpAny_bind (m:=Builtin.Tuple.tupleExact _) (wpAny_newObj_type (wpAny_pure ⟨_,rfl,wpAny_pure h⟩) htake)
  | exact wpAny_bind (m:=Builtin.Tuple.tupleExact _) (wpAny_newObj_type (wpAny_bind (wpAny_pure (wpAny_pure ⟨_,rfl,wpAny_pure h⟩))) htake)
  | exact wpAny_bind (wpAny_bind (m:=Builtin.Tuple.tupleExact _) (wpAny_newObj_type (wpAny_pure (wpAny_pure ⟨_,rfl,wpAny_pure h⟩)) htake))
  | exact wpAny_bind (wpAny_bind (m:=Builtin.Tuple.tupleExact _) (wpAny_newObj_type (wpAny_pure ⟨_,rfl,wpAny_pure h⟩) htake))
end
end HT
namespace L2
open PySem PySem.Spec PyProof.Rows
abbrev TO:=St->Hp->(Option Int->Hp->Prop)->Prop
def PO (X:Cx) (e:Option Expr) (t:TO):Prop :=
 ∀ (pins:List (Addr × Obj)) (s:Shared) (σ:St) (H:Hp) (Q:Option Int->Hp->Prop),Inv X pins σ H s->t σ H Q ->
  wpAny (model X.prog X.w) X.A (evalPart e X.env) (fun u s'=>∃ o H',Inv X pins σ H' s'/\IsPart u o/\Q o H') X.xe s
def tNoPart:TO:=fun _ H Q=>Q none H
def tPart (t:TE):TO:=fun σ H Q=>t σ H fun x H1=>∃ i,x=.int i/\Q (some i) H1
theorem intsAre_of {ns:List Int}:∀ {us:List Value},Vals (ns.map V.int) us->IntsAre us ns:=by
 induction ns with
 | nil=>intro us r;rw [List.map_nil] at r;cases r;exact .nil
 | cons n ns ih =>
  intro us r
  rw [List.map_cons] at r
  cases r with
  | cons r1 r2 =>
   obtain ⟨t,e⟩:=r1
   subst e
   exact .cons n t (ih r2)
section
variable {X:Cx} {e:Expr} {te:TE} {lo hi:Option Expr} {tl th:TO} {pos p2:Pos}
theorem po_none:PO X none tNoPart:=by
 intro pins s σ H Q I h
 rw [evalPart_none]
 exact wpAny_pure ⟨none,H,I,.none,h⟩
theorem po_some (h:PE X e te):PO X (some e) (tPart te):=by
 intro pins s σ H Q I hw
 rw [evalPart_some]
 refine thn (h pins s σ H _ I hw) fun u s1 ⟨x,H1,I1,r1,q1⟩=>?_
 obtain ⟨i,rfl,q⟩:=q1
 obtain ⟨t,rfl⟩:=r1
 exact ⟨some i,H1,I1,.int i t,q⟩
def SlR (X:Cx) (r:V->Option Int->Option Int->Hp->VK->Prop):Prop :=
 ∀ (pins:List (Addr × Obj)) (s:Shared) (σ:St) (H:Hp) (x:V) (v vl vu:Value) (lo hi:Option Int) (sl:Addr) (Q:VK),Inv X pins σ H s->RelV x v->s.heap.IsSliceOf sl vl vu .none->IsPart vl lo->IsPart vu hi->r x lo hi H Q ->
  ∃ T id,typeLookup (.type T) "__getitem__" = pure (some (.builtin id))/\s.TypeIs v T/\wpAny (model X.prog X.w) X.A (getItem v (.ref sl)) (EP X pins σ Q) X.xe s
def tSl (r:V->Option Int->Option Int->Hp->VK->Prop) (te:TE) (tl th:TO):TE:=fun σ H Q=>te σ H fun x H1=>tl σ H1 fun l H2=>th σ H2 fun u H3=>r x l u H3 Q
theorem pe_slice {r:V->Option Int->Option Int->Hp->VK->Prop} (hr:SlR X r) (he:PE X e te) (hl:PO X lo tl) (hu:PO X hi th):PE X (.Subscript e (.Slice lo hi none p2) pos) (tSl r te tl th):=by
 intro pins s σ H Q I h
 refine Subscript_ (thn (he pins s σ H _ I h) fun v s1 ⟨x,H1,I1,r1,q1⟩=>?_)
 refine wpAny_Slice (thn (hl pins s1 σ H1 _ I1 q1) fun vl s2 ⟨l,H2,I2,pl,q2⟩=>thn (hu pins s2 σ H2 _ I2 q2) fun vu s3 ⟨u,H3,I3,pu,q3⟩=>?_)
 rw [evalPart_none]
 refine wpAny_pure ?_
 have I4:Inv X pins σ H3 { s3 with heap:=s3.heap.push { cls:=.type "slice",data:=.fields #[vl,vu,.none] } }:=I3.kept (t':=s3.toks) fun b ob q=>Heap.get?_push_of_some _ q
 obtain ⟨T,id,hT,ht,hg⟩:=hr pins { s3 with heap:=s3.heap.push { cls:=.type "slice",data:=.fields #[vl,vu,.none] } } σ H3 x v vl vu l u s3.heap.objs.size Q I4 r1 (Heap.IsSliceOf.new ..) pl pu q3
 show wpAny (model X.prog X.w) X.A (subscriptTail e (.Slice lo hi none p2) v (.ref s3.heap.objs.size)) (EP X pins σ Q) X.xe { s3 with heap:=s3.heap.push { cls:=.type "slice",data:=.fields #[vl,vu,.none] } }
 exact tail_any (ops:=[.ref s3.heap.objs.size,v]) ht hT hg (by with_unfolding_all rfl)
def cutV (xs:List V) (lo hi:Option Int):List V:=(xs.drop (HT.sIx xs.length 0 lo)).take (HT.sIx xs.length xs.length hi - HT.sIx xs.length 0 lo)
theorem cutV_length (xs:List V) (lo hi:Option Int):(cutV xs lo hi).length<=xs.length:=by
 unfold cutV
 rw [List.length_take,List.length_drop]
 omega
def rSlT (K:PySem.W.Frag):V->Option Int->Option Int->Hp->VK->Prop:=fun x lo hi H Q=>∃ a xs,x=.ref a/\SqT K H a xs /\
 ¬ (HT.sIx xs.length 0 lo=0/\HT.sIx xs.length xs.length hi=xs.length)/\∀ p,H p=none->Q (.ref p) (upd H p (.tup (cutV xs lo hi)))
theorem sl_tup:SlR X (rSlT X.K):=by
 intro pins s σ H x v vl vu lo hi sl Q I rx hs pl pu h
 obtain ⟨a,xs,rfl,hx,hw,q⟩:=h
 cases rx
 obtain ⟨its,r,ht,hz⟩:=I.tuple hx
 have hlen:its.toArray.size=xs.length:=by rw [List.size_toArray];exact r.length.symm
 refine ⟨"tuple",_,PyProof.Rows.slot_tuple_getitem.lookup,ht.typeIs,?_⟩
 refine HT.getItem_tuple_cut ht hs pl pu (by rw [hlen];exact hw) ?_ (by rw [hlen];exact hz)
 rw [hlen]
 refine ⟨.ref s.heap.objs.size,_,I.laid (t':=s.toks) (o:=.tup (cutV xs lo hi)) (fun b ob q=>Heap.get?_push_of_some _ q) (Nat.le_refl _) ?_,rfl,q _ (I.hok.fresh (Nat.le_refl _))⟩
 exact ⟨Nat.le_trans (cutV_length xs lo hi) hz,_,(r.drop (HT.sIx xs.length 0 lo)).take (HT.sIx xs.length xs.length hi - HT.sIx xs.length 0 lo),IsTup.new _ _⟩
end
def ixN (n:Nat) (i:Int):Option Nat:=if 0<=i then (if i < n then some i.toNat else none) else if -(n:Int)<=i then some (i+n).toNat else none
def atI {α:Type} (xs:List α) (i:Int):Option α:=(ixN xs.length i).bind fun j=>xs[j]?
theorem ixN_seq {n:Nat} {i:Int} {j:Nat} (h:ixN n i=some j):seqIndex? i n=some j/\j < n/\-(n:Int)<=i/\i < n:=by
 unfold ixN at h
 by_cases h0:0<=i
 ·rw [if_pos h0] at h
  by_cases h1:i < n
  ·rw [if_pos h1] at h
   have e:i.toNat=j:=Option.some.inj h
   exact ⟨by rw [seqIndex_of h0 h1,e],by omega,by omega,h1⟩
  ·rw [if_neg h1] at h;cases h
 ·rw [if_neg h0] at h
  by_cases h1:-(n:Int)<=i
  ·rw [if_pos h1] at h
   have e:(i+n).toNat=j:=Option.some.inj h
   exact ⟨by rw [seqIndex_neg (by omega) h1,e],by omega,h1,by omega⟩
  ·rw [if_neg h1] at h;cases h
theorem atI_get {α:Type} {xs:List α} {i:Int} {v:α} (h:atI xs i=some v):∃ j,seqIndex? i xs.length=some j/\xs[j]?=some v/\j < xs.length/\-(xs.length:Int)<=i/\i < xs.length:=by
 unfold atI at h
 cases e:ixN xs.length i with
 | none=>rw [e] at h;cases h
 | some j =>
  rw [e] at h
  obtain ⟨h1,h2,h3,h4⟩:=ixN_seq e
  exact ⟨j,h1,h,h2,h3,h4⟩
theorem atI_nat {α:Type} {xs:List α} {j:Nat} {v:α} (h:xs[j]?=some v):atI xs (j:Int)=some v:=by
 have hj:j < xs.length:=(List.getElem?_eq_some_iff.mp h).1
 have e:ixN xs.length (j:Int)=some j:=by
  unfold ixN
  rw [if_pos (by omega),if_pos (by omega)];simp
 unfold atI;rw [e];exact h
theorem atI_last {α:Type} (xs:List α) (v:α):atI (xs++[v]) (-1)=some v:=by
 have hl:(xs++[v]).length=xs.length+1:=by simp
 have e:ixN (xs++[v]).length (-1)=some xs.length:=by
  unfold ixN
  rw [hl,if_neg (by decide),if_pos (by omega)]
  congr 1
  omega
 unfold atI
 rw [e]
 show (xs++[v])[xs.length]?=some v
 simp
def PlainIx (b:Expr):Prop:=∀ o i,subscripted b false o i=operate [o,i] (getItem o i)
def IxR (X:Cx) (r:R2):Prop :=
 ∀ (value slice:Expr) (pins:List (Addr × Obj)) (s:Shared) (σ:St) (H:Hp) (x y:V) (v u:Value) (Q:VK),Inv X pins σ H s->RelV x v->RelV y u->r x y H Q ->
  subscripted slice false v u=operate [v,u] (getItem v u)->wpAny (model X.prog X.w) X.A (subscriptTail value slice v u) (EP X pins σ Q) X.xe s
def MtR (X:Cx) (id:String) (r:V->List V->Hp->VK->Prop):Prop :=
 ∀ (pins:List (Addr × Obj)) (s:Shared) (σ:St) (H:Hp) (x:V) (xs:List V) (v:Value) (us:List Value) (Q:VK),Inv X pins σ H s->RelV x v->Vals xs us->r x xs H Q ->
  wpAny (model X.prog X.w) X.A (call (.builtin id) (v::us)) (EP X pins σ Q) X.xe s
section
variable {X:Cx} {a b:Expr} {ta tb:TE} {pos:Pos}
theorem pe_ix {r:R2} (hr:IxR X r) (ha:PE X a ta) (hb:PE X b tb) (hs:PlainIx b):PE X (.Subscript a b pos) (tOp r ta tb):=by
 intro pins s σ H Q I h
 exact Subscript_ (binT ha hb I h fun v u s2 x y H2 I2 rx ry q=>hr a b pins s2 σ H2 x y v u Q I2 rx ry q (hs _ _))
def rIxL (K:PySem.W.Frag):R2:=fun x y H Q=>∃ p xs i v,x=.ref p/\y=.int i/\SqL K H p xs/\atI xs i=some v/\Q v H
def rIxT (K:PySem.W.Frag):R2:=fun x y H Q=>∃ p xs i v,x=.ref p/\y=.int i/\SqT K H p xs/\atI xs i=some v/\Q v H
def rIxS:R2:=fun x y H Q=>∃ z i c,x=.str z/\y=.int i/\z.length<=sizeLine/\atI z.cps.toList i=some c/\Q (.str ⟨#[c]⟩) H
theorem ix_list:IxR X (rIxL X.K):=by
 intro value slice pins s σ H x y v u Q I rx ry h hs
 obtain ⟨p,xs,i,z,rfl,rfl,hq,he,q⟩:=h
 cases rx
 obtain ⟨t,rfl⟩:=ry
 obtain ⟨its,r,pl,hz⟩:=I.list hq
 obtain ⟨j,h1,h2,h3,h4,h5⟩:=atI_get he
 obtain ⟨w,ew,rw'⟩:=r.get h2
 have hl:=r.length
 have hn:=line63
 have fin:EP X pins σ Q w s:=⟨z,H,I,rw',q⟩
 by_cases h0:0<=i
 ·have hj:i.toNat=j:=by
   rw [seqIndex_of h0 h5] at h1
   exact Option.some.inj h1
  exact item_listR pl.isList h0 (by omega) (by rw [hj];simpa using ew) fin hs
 ·have hj:(i+(its.toArray.size:Int)).toNat=j:=by
   rw [seqIndex_neg (by omega) h4] at h1
   rw [List.size_toArray,<- hl]
   exact Option.some.inj h1
  exact subscriptTail_builtinR (x:=w) pl.isList.typeIs slot_list_getitem.lookup
   (wpAny_getItem_list_neg (Q:=fun r s'=>r=w/\EP X pins σ Q r s') pl.isList (by omega) (by rw [List.size_toArray]<;>omega) (by omega) (by rw [hj];simpa using ew) ⟨rfl,fin⟩) hs
theorem ix_tup:IxR X (rIxT X.K):=by
 intro value slice pins s σ H x y v u Q I rx ry h hs
 obtain ⟨p,xs,i,z,rfl,rfl,hq,he,q⟩:=h
 cases rx
 obtain ⟨t,rfl⟩:=ry
 obtain ⟨its,r,pl,hz⟩:=I.tuple hq
 obtain ⟨j,h1,h2,h3,h4,h5⟩:=atI_get he
 obtain ⟨w,ew,rw'⟩:=r.get h2
 have hl:=r.length
 have hn:=line63
 have fin:EP X pins σ Q w s:=⟨z,H,I,rw',q⟩
 exact subscriptTail_builtinR (x:=w) pl.typeIs slot_tuple_getitem.lookup
  (getItem_tuple (j:=j) (Q:=fun r s'=>r=w/\EP X pins σ Q r s') pl (by omega) (by omega) (by rw [List.size_toArray,<- hl];exact h1) (by simpa using ew) ⟨rfl,fin⟩) hs
theorem ix_str:IxR X rIxS:=by
 intro value slice pins s σ H x y v u Q I rx ry h hs
 obtain ⟨z,i,c,rfl,rfl,hz,he,q⟩:=h
 obtain ⟨t,rfl⟩:=rx
 obtain ⟨t',rfl⟩:=ry
 obtain ⟨j,h1,h2,h3,h4,h5⟩:=atI_get he
 have hl:z.cps.toList.length=z.length:=by simp [Str.length]
 rw [hl] at h1 h4 h5
 have hn:=line63
 exact tail_any (typeIs_str s z t) slot_str_getitem.lookup (getItem_str (c:=c) (by
  have e1:decide (i < -(2 ^ 63:Int))=false:=decide_eq_false (by omega)
  have e2:decide (i ≥ 2 ^ 63)=false:=decide_eq_false (by omega)
  rw [e1,e2,Bool.or_false]) (by rw [h1];simpa using h2) ⟨.str ⟨#[c]⟩,H,I.tok _,⟨_,rfl⟩,q⟩) hs
theorem mapSeq_set (its:List Value) (n j:Nat) (u:Value):Obj.mapSeq (·.setIfInBounds j u) { cls:=.type "list",data:=.seq its.toArray n }={ cls:=.type "list",data:=.seq (its.set j u).toArray n }:=by
 simp [Obj.mapSeq]
theorem Inv.lst {pins:List (Addr × Obj)} {σ:St} {H:Hp} {s:Shared} {p:Addr} {xs:List V} (I:Inv X pins σ H s) (h:H p=some (.lst xs)) :
  ∃ (its:List Value) (n:Nat),Vals xs its/\s.heap.get? p=some { cls:=.type "list",data:=.seq its.toArray n }/\xs.length<=sizeLine:=by
 obtain ⟨z,its,n,r,e⟩:=I.hok p _ h
 exact ⟨its,n,r,e,z⟩
theorem Inv.lstUpd {pins:List (Addr × Obj)} {σ:St} {H:Hp} {s:Shared} {p:Addr} {xs ys:List V} {its its':List Value} {n n':Nat} {f:Obj->Obj} (I:Inv X pins σ H s) (h:H p=some (.lst xs))
  (ho:s.heap.get? p=some { cls:=.type "list",data:=.seq its.toArray n }) (hf:f { cls:=.type "list",data:=.seq its.toArray n }={ cls:=.type "list",data:=.seq its'.toArray n' }) (r:Vals ys its') (hz:ys.length<=sizeLine) (t:Nat) :
  Inv X pins σ (upd H p (.lst ys)) { s with heap:=s.heap.update p f,toks:=t }:=by
 have e:(s.heap.update p f).get? p=some { cls:=.type "list",data:=.seq its'.toArray n' }:=by
  rw [Heap.get?_update_self f ho (by rw [hf]<;>rfl),hf]
 refine I.write (x:=p) (e:=p) (by rw [h];trivial) (.inl rfl) (fun b u hb q=>(Heap.get?_update_other _ _ (Ne.symm hb)).trans q) ⟨_,e⟩ ?_
 exact ⟨hz,its',n',r,e⟩
def rSetL:V->V->V->Hp->(Hp->Prop)->Prop:=fun o i v H Q=>∃ p xs k j,o=.ref p/\i=.int k/\H p=some (.lst xs)/\ixN xs.length k=some j/\Q (upd H p (.lst (xs.set j v)))
theorem set_list:PSet X rSetL:=by
 intro pins s σ H o i v ov iv u Q I ro ri rv h
 obtain ⟨p,xs,k,j,rfl,rfl,hp,hj,q⟩:=h
 cases ro
 obtain ⟨t,rfl⟩:=ri
 obtain ⟨its,n,r,ho,hz⟩:=I.lst hp
 obtain ⟨h1,h2,h3,h4⟩:=ixN_seq hj
 have hl:=r.length
 have hn:=line63
 have I':Inv X pins σ (upd H p (.lst (xs.set j v))) { s with heap:=s.heap.update p (Obj.mapSeq (·.setIfInBounds j u)) } :=
  I.lstUpd hp ho (mapSeq_set its n j u) (r.set rv j) (by rw [List.length_set];exact hz) s.toks
 by_cases h0:0<=k
 ·have hk:k.toNat=j:=by
   rw [seqIndex_of h0 h4] at h1
   exact Option.some.inj h1
  exact PySem.W.ki_setAt ho h0 (by omega) (by rw [List.size_toArray,<- hl];exact h4) (by rw [hk];exact ⟨_,I',q⟩)
 ·have hk:(k+(its.toArray.size:Int)).toNat=j:=by
   rw [seqIndex_neg (by omega) h3] at h1
   rw [List.size_toArray,<- hl]
   exact Option.some.inj h1
  exact PySem.W.ki_setBack ho (by omega) (by rw [List.size_toArray,<- hl];exact h3) (by omega) (by rw [hk];exact ⟨_,I',q⟩)
theorem slice_bounds (lo hi:Option Int) (n:Nat):(sliceBounds lo hi none n).1=((HT.sIx n 0 lo:Nat):Int)/\(sliceBounds lo hi none n).2.1=((HT.sIx n n hi:Nat):Int)/\(sliceBounds lo hi none n).2.2=1:=by
 refine ⟨?_,?_,rfl⟩
 ·cases lo with
  | none=>simp [sliceBounds,HT.sIx]
  | some i =>
   simp only [sliceBounds,HT.sIx,Option.getD_none,show (1:Int) > 0 by decide,if_true]
   by_cases h:i < 0
   ·simp only [h,if_true]<;>omega
   ·simp only [h,if_false]<;>omega
 ·cases hi with
  | none=>simp [sliceBounds,HT.sIx]
  | some i =>
   simp only [sliceBounds,HT.sIx,Option.getD_none,show (1:Int) > 0 by decide,if_true]
   by_cases h:i < 0
   ·simp only [h,if_true]<;>omega
   ·simp only [h,if_false]<;>omega
theorem slicePick_cut (its:List Value) (lo hi:Option Int):slicePick its.toArray lo hi none=((its.drop (HT.sIx its.length 0 lo)).take (HT.sIx its.length its.length hi - HT.sIx its.length 0 lo)).toArray:=by
 obtain ⟨h1,h2,h3⟩:=slice_bounds lo hi its.toArray.size
 unfold slicePick
 rw [h1,h2,h3]
 simp only [sliceRange_one,pick_run,List.size_toArray]<;>rfl
def rSlL (K:PySem.W.Frag):V->Option Int->Option Int->Hp->VK->Prop:=fun x lo hi H Q=>∃ a xs,x=.ref a/\SqL K H a xs/\∀ p,H p=none->Q (.ref p) (upd H p (.lst (cutV xs lo hi)))
theorem sl_list:SlR X (rSlL X.K):=by
 intro pins s σ H x v vl vu lo hi sl Q I rx hs pl pu h
 obtain ⟨a,xs,rfl,hx,q⟩:=h
 cases rx
 obtain ⟨its,r,ht,hz⟩:=I.list hx
 have hlen:=r.length
 refine ⟨"list",_,slot_list_getitem.lookup,ht.isList.typeIs,?_⟩
 refine wpAny_getItem_list_slice ht.isList hs pl pu .none (by simp) ?_ (by rw [List.size_toArray]<;>omega)
 rw [slicePick_cut,<- hlen]
 refine ⟨.ref s.heap.objs.size,_,I.laid (t':=s.toks) (o:=.lst (cutV xs lo hi)) (fun b ob q=>Heap.get?_push_of_some _ q) (Nat.le_refl _) ?_,rfl,q _ (I.hok.fresh (Nat.le_refl _))⟩
 exact ⟨Nat.le_trans (cutV_length xs lo hi) hz,_,0,(r.drop (HT.sIx xs.length 0 lo)).take (HT.sIx xs.length xs.length hi - HT.sIx xs.length 0 lo),Heap.get?_push_size _ rfl⟩
def flatV:V->Bool
 | .non=>true
 | .bl _=>true
 | .int _=>true
 | .str _=>true
 | _=>false
def eqV:V->V->Bool
 | .non,.non=>true
 | .bl a,.bl b=>a == b
 | .bl a,.int b=>(if a then 1 else 0) == b
 | .int a,.bl b=>a == (if b then 1 else 0)
 | .int a,.int b=>a == b
 | .str a,.str b=>a == b
 | _,_=>false
theorem eqAt_V {A:Around} {s:Shared} {y x:V} {u v:Value} (ry:RelV y u) (rx:RelV x v) (fy:flatV y=true) (fx:flatV x=true):SeqAt.EqAt A s u v (eqV y x):=by
 cases y with
 | non =>
  cases ry
  cases x with
  | non=>cases rx;exact SeqAt.EqAt.same _
  | bl b=>cases rx;exact SeqAt.EqAt.none_bool b
  | int b=>obtain ⟨t,rfl⟩:=rx;exact SeqAt.EqAt.none_int b t
  | str b=>obtain ⟨t,rfl⟩:=rx;exact SeqAt.EqAt.none_str b t
  | _=>exact absurd (show false=true from fx) Bool.false_ne_true
 | bl a =>
  cases ry
  cases x with
  | non=>cases rx;exact SeqAt.EqAt.bool_none a
  | bl b=>cases rx;exact SeqAt.EqAt.bool_bool a b
  | int b=>obtain ⟨t,rfl⟩:=rx;exact SeqAt.EqAt.bool_int a b t
  | str b=>obtain ⟨t,rfl⟩:=rx;exact SeqAt.EqAt.bool_str a b t
  | _=>exact absurd (show false=true from fx) Bool.false_ne_true
 | int a =>
  obtain ⟨t',rfl⟩:=ry
  cases x with
  | non=>cases rx;exact SeqAt.EqAt.int_none a t'
  | bl b=>cases rx;exact SeqAt.EqAt.int_bool a t' b
  | int b=>obtain ⟨t,rfl⟩:=rx;exact SeqAt.EqAt.int_int a t' b t
  | str b=>obtain ⟨t,rfl⟩:=rx;exact SeqAt.EqAt.int_str a t' b t
  | _=>exact absurd (show false=true from fx) Bool.false_ne_true
 | str a =>
  obtain ⟨t',rfl⟩:=ry
  cases x with
  | non=>cases rx;exact SeqAt.EqAt.str_none a t'
  | bl b=>cases rx;exact SeqAt.EqAt.str_bool a t' b
  | int b=>obtain ⟨t,rfl⟩:=rx;exact SeqAt.EqAt.str_int a t' b t
  | str b=>obtain ⟨t,rfl⟩:=rx;exact SeqAt.EqAt.str_str a t' b t
  | _=>exact absurd (show false=true from fx) Bool.false_ne_true
 | _=>exact absurd (show false=true from fy) Bool.false_ne_true
def eqU (x:V) (u:Value):Bool:=match u with
 | .none=>eqV .non x
 | .bool b=>eqV (.bl b) x
 | .int i _=>eqV (.int i) x
 | .str z _=>eqV (.str z) x
 | _=>false
theorem eqU_of {x y:V} {u:Value} (r:RelV y u) (f:flatV y=true):eqU x u=eqV y x:=by
 cases y with
 | non=>cases r;rfl
 | bl b=>cases r;rfl
 | int i=>obtain ⟨t,rfl⟩:=r;rfl
 | str z=>obtain ⟨t,rfl⟩:=r;rfl
 | _=>exact absurd (show false=true from f) Bool.false_ne_true
theorem any_eqU {x:V}:∀ {xs:List V} {us:List Value},Vals xs us->xs.all flatV=true->us.any (eqU x)=xs.any fun y=>eqV y x
 | _,_,.nil,_=>rfl
 | y::xs,u::us,.cons r t,f=>by
  rw [List.all_cons,Bool.and_eq_true] at f
  rw [List.any_cons,List.any_cons,eqU_of r f.1,any_eqU t f.2]
theorem mem_eqAt {A:Around} {s:Shared} {x:V} {v:Value} (rx:RelV x v) (fx:flatV x=true):∀ {xs:List V} {us:List Value},Vals xs us->xs.all flatV=true->∀ u∈us,SeqAt.EqAt A s u v (eqU x u)
 | _,_,.nil,_=>fun u hu=>by cases hu
 | y::xs,u::us,.cons r t,f=>fun u' hu=>by
  rw [List.all_cons,Bool.and_eq_true] at f
  rcases List.mem_cons.mp hu with rfl | hu
  ·rw [eqU_of r f.1];exact eqAt_V r rx f.1 fx
  ·exact mem_eqAt rx fx t f.2 u' hu
def inV (x:V) (xs:List V):Bool:=xs.any fun y=>eqV y x
def rIn (K:PySem.W.Frag) (neg:Bool):R2:=fun x y H Q=>∃ p xs,y=.ref p/\(SqL K H p xs\/SqT K H p xs)/\flatV x=true/\xs.all flatV=true/\Q (.bl (if neg then !inV x xs else inV x xs)) H
theorem op_in_seq:OpR X (compareOp .In) (rIn X.K false):=by
 intro pins s σ H x y v u Q I rx ry h
 obtain ⟨p,xs,rfl,hq,fx,fs,q⟩:=h
 cases ry
 rcases hq with hq | hq
 ·obtain ⟨its,r,pl,hz⟩:=I.list hq
  refine SeqAt.in_listAt (eqU x) pl.isList (fun w hw=>mem_eqAt rx fx r fs w (by simpa using hw)) ⟨.bl _,H,I,rfl,?_⟩
  rw [show its.toArray.any (eqU x)=its.any (eqU x) by simp,any_eqU r fs]
  exact q
 ·obtain ⟨its,r,pl,hz⟩:=I.tuple hq
  refine SeqAt.in_tupleAt (eqU x) pl (fun w hw=>mem_eqAt rx fx r fs w (by simpa using hw)) ⟨.bl _,H,I,rfl,?_⟩
  rw [show its.toArray.any (eqU x)=its.any (eqU x) by simp,any_eqU r fs]
  exact q
theorem op_notIn_seq:OpR X (compareOp .NotIn) (rIn X.K true):=by
 intro pins s σ H x y v u Q I rx ry h
 obtain ⟨p,xs,rfl,hq,fx,fs,q⟩:=h
 cases ry
 rcases hq with hq | hq
 ·obtain ⟨its,r,pl,hz⟩:=I.list hq
  refine SeqAt.notIn_listAt (eqU x) pl.isList (fun w hw=>mem_eqAt rx fx r fs w (by simpa using hw)) ⟨.bl _,H,I,rfl,?_⟩
  rw [show its.toArray.any (eqU x)=its.any (eqU x) by simp,any_eqU r fs]
  exact q
 ·obtain ⟨its,r,pl,hz⟩:=I.tuple hq
  refine SeqAt.notIn_tupleAt (eqU x) pl (fun w hw=>mem_eqAt rx fx r fs w (by simpa using hw)) ⟨.bl _,H,I,rfl,?_⟩
  rw [show its.toArray.any (eqU x)=its.any (eqU x) by simp,any_eqU r fs]
  exact q
theorem call_len_seq:CallR X (.builtin "len") (fun xs H Q=>∃ p ys,xs=[.ref p]/\(SqL X.K H p ys\/SqT X.K H p ys)/\Q (.int ys.length) H):=by
 intro pins s σ H xs us Q I r h
 obtain ⟨p,ys,rfl,hq,q⟩:=h
 obtain ⟨u,rfl,rx⟩:=vals1 r
 cases rx
 have hn:=line63
 rcases hq with hq | hq
 ·obtain ⟨its,r',pl,hz⟩:=I.list hq
  have hlen:=r'.length
  exact Calls.call_len_list pl.isList (by simp only [List.size_toArray]<;>omega) ⟨.int ys.length,H,I.tok _,⟨s.toks+1,by rw [List.size_toArray,hlen]⟩,q⟩
 ·obtain ⟨its,r',pl,hz⟩:=I.tuple hq
  have hlen:=r'.length
  exact len_tuple pl (by simp only [List.size_toArray]<;>omega) ⟨.int ys.length,H,I.tok _,⟨s.toks+1,by rw [List.size_toArray,hlen]⟩,q⟩
theorem call_len_str:CallR X (.builtin "len") (fun xs H Q=>∃ z,xs=[.str z]/\z.length<=sizeLine/\Q (.int z.length) H):=by
 intro pins s σ H xs us Q I r h
 obtain ⟨z,rfl,hz,q⟩:=h
 obtain ⟨u,rfl,t,rfl⟩:=vals1 r
 have hn:=line63
 exact len_str (by omega) ⟨.int z.length,H,I.tok _,⟨_,rfl⟩,q⟩
theorem call_list_of:CallR X (.type "list") (fun xs H Q=>∃ p ys,xs=[.ref p]/\(SqL X.K H p ys\/SqT X.K H p ys)/\∀ l,H l=none->Q (.ref l) (upd H l (.lst ys))):=by
 intro pins s σ H xs us Q I r h
 obtain ⟨p,ys,rfl,hq,q⟩:=h
 obtain ⟨u,rfl,rx⟩:=vals1 r
 cases rx
 have fin:∀ (its:List Value),Vals ys its->ys.length<=sizeLine->∀ (h':Heap) (c':Nat),(∀ b o',s.heap.get? b=some o'->h'.get? b=some o') ->
   h'.get? s.heap.objs.size=some { cls:=.type "list",dict:=none,data:=.seq its.toArray c',slots:=#[] }->EP X pins σ Q (.ref s.heap.objs.size) { s with heap:=h' }:=fun its r' hz h' c' kp e =>
  ⟨.ref s.heap.objs.size,_,I.laid (t':=s.toks) kp (Nat.le_refl _) (show ObjOk X.prog X.w _ h' _ (.lst ys) from ⟨hz,its,c',r',e⟩),rfl,q _ (I.hok.fresh (Nat.le_refl _))⟩
 rcases hq with hq | hq
 ·obtain ⟨its,r',pl,hz⟩:=I.list hq
  have hlen:=r'.length
  obtain ⟨o,ho,hc,n,hd⟩:=pl.isList
  exact call_list_seq p (.inl rfl) ho hc hd (fun h' c' kp e=>fin its r' hz h' c' kp e) (by simp only [List.size_toArray]<;>omega)
 ·obtain ⟨its,r',pl,hz⟩:=I.tuple hq
  have hlen:=r'.length
  obtain ⟨o,ho,hc,n,hd⟩:=pl
  exact call_list_seq p (.inr rfl) ho hc hd (fun h' c' kp e=>fin its r' hz h' c' kp e) (by simp only [List.size_toArray]<;>omega)
theorem call_tuple_of:CallR X (.type "tuple") (fun xs H Q=>∃ p ys,xs=[.ref p]/\((SqL X.K H p ys/\∀ l,H l=none->Q (.ref l) (upd H l (.tup ys)))\/(SqT X.K H p ys/\Q (.ref p) H))):=by
 intro pins s σ H xs us Q I r h
 obtain ⟨p,ys,rfl,h⟩:=h
 obtain ⟨u,rfl,rx⟩:=vals1 r
 cases rx
 rcases h with ⟨hq,q⟩ | ⟨hq,q⟩
 ·obtain ⟨its,r',pl,hz⟩:=I.list hq
  have hlen:=r'.length
  refine call_tuple_list pl.isList (fun h' kp=>?_) (by simp only [List.size_toArray]<;>omega)
  have I1:Inv X pins σ H { s with heap:=h' }:=I.kept (t':=s.toks) kp
  have I2:Inv X pins σ (upd H h'.objs.size (.tup ys)) { s with heap:=h'.push { cls:=.type "tuple",data:=.seq its.toArray } } :=
   I1.laid (t':=s.toks) (fun b o e=>Heap.get?_push_of_some _ e) (Nat.le_refl _) (show ObjOk X.prog X.w _ _ _ (.tup ys) from ⟨hz,its,r',IsTup.new _ _⟩)
  exact ⟨.ref h'.objs.size,_,I2,rfl,q _ (I1.hok.fresh (Nat.le_refl _))⟩
 ·obtain ⟨its,r',pl,hz⟩:=I.tuple hq
  exact call_tuple_same pl ⟨.ref p,H,I,rfl,q⟩
def tyV (K:PySem.W.Frag) (T:String) (x:V) (H:Hp):Prop:=match x with
 | .str _=>T="str"
 | .int _=>T="int"
 | .ref p=>(T="list" /\ ∃ xs,SqL K H p xs)\/(T="tuple" /\ ∃ o,K.lookup p=some o/\o.cls=.type "tuple" /\ o.dict=none) \/
   (T="dict" /\ ((∃ kvs,H p=some (.dK kvs))\/∃ kvs,H p=some (.dT kvs)))\/(T="set" /\ ∃ S n,H p=some (.set S n))
 | _=>False
theorem tyV_is {pins:List (Addr × Obj)} {σ:St} {H:Hp} {s:Shared} {T:String} {x:V} {v:Value} (I:Inv X pins σ H s) (r:RelV x v) (ty:tyV X.K T x H) :
  s.TypeIs v T/\∀ a,v=.ref a->∃ ob,s.heap.get? a=some ob/\ob.dict=none:=by
 cases x with
 | str z =>
  obtain ⟨t,rfl⟩:=r
  cases (show T="str" from ty)
  exact ⟨typeIs_str s z t,fun _ e=>nomatch e⟩
 | int i =>
  obtain ⟨t,rfl⟩:=r
  cases (show T="int" from ty)
  exact ⟨typeIs_int s i t,fun _ e=>nomatch e⟩
 | ref p =>
  cases r
  rcases ty with ⟨rfl,xs,hq⟩ | ⟨rfl,o,hk,hc,hd⟩ | ⟨rfl,hk⟩ | ⟨rfl,S,n,hk⟩
  ·obtain ⟨its,_,pl,_⟩:=I.list hq
   refine ⟨pl.isList.typeIs,fun a e=>?_⟩
   cases e
   obtain ⟨o,n,e,c,hd,_⟩:=pl
   exact ⟨o,e,hd⟩
  ·refine ⟨⟨o,I.kIn p o hk,hc⟩,fun a e=>?_⟩
   cases e
   exact ⟨o,I.kIn _ o hk,hd⟩
  ·have z:∃ o,s.heap.get? p=some o/\o.ExactDict:=by
    rcases hk with ⟨kvs,hk⟩ | ⟨kvs,hk⟩
    ·obtain ⟨_,_,_,_,o,_,_,e,ex,_⟩:=I.hok p _ hk
     exact ⟨o,e,ex⟩
    ·obtain ⟨_,_,_,_,o,_,_,e,ex,_⟩:=I.hok p _ hk
     exact ⟨o,e,ex⟩
   obtain ⟨o,e,ex⟩:=z
   refine ⟨⟨o,e,ex.1⟩,fun a e2=>?_⟩
   cases e2
   exact ⟨o,e,ex.2.1⟩
  ·obtain ⟨o,_,_,_,e,ex,_⟩:=I.hok p _ hk
   refine ⟨⟨o,e,ex.1⟩,fun a e2=>?_⟩
   cases e2
   exact ⟨o,e,ex.2.1⟩
 | _=>exact False.elim ty
def tBM0 (K:PySem.W.Frag) (T:String) (r:V->List V->Hp->VK->Prop) (to:TE):TE:=fun σ H Q=>to σ H fun x H1=>tyV K T x H1/\r x [] H1 Q
def tBM (K:PySem.W.Frag) (T:String) (r:V->List V->Hp->VK->Prop) (to:TE) (t:TA):TE:=fun σ H Q=>to σ H fun x H1=>tyV K T x H1/\t σ H1 fun xs H2=>r x xs H2 Q
variable {o e:Expr} {es:List Expr} {to:TE} {t:TA} {name:Str} {apos cpos:Pos} {T id:String} {r:V->List V->Hp->VK->Prop}
theorem pe_bm0 (pa:PlainAttrs T) (slot:Slot T name id) (hty:typeOf (.builtin id)=pure (.type "method_descriptor")) (hm:MtR X id r) (ho:PE X o to)
  (hbase:attributeBase o name X.env (eval o X.env)=eval o X.env:=by rfl) (hline:(apos.endLine == cpos.line)=true:=by rfl):PE X (.Call (.Attribute o name apos) [] [] cpos) (tBM0 X.K T r to):=by
 intro pins s σ H Q I h
 refine wpAny_Call_method0_late hbase hline (thn (ho pins s σ H _ I h) fun v s1 ⟨x,H1,I1,r1,ty,q1⟩=>?_)
 obtain ⟨h1,h2⟩:=tyV_is I1 r1 ty
 exact ⟨T,id,pa,slot,hty,h1,h2,Calls.callWith_builtin rfl (PySem.evalArgs_none (hm pins s1 σ H1 x [] v [] Q I1 r1 .nil q1))⟩
theorem pe_bm (pa:PlainAttrs T) (slot:Slot T name id) (hty:typeOf (.builtin id)=pure (.type "method_descriptor")) (hm:MtR X id r) (ho:PE X o to) (ha:PA X (e::es) t)
  (hbase:attributeBase o name X.env (eval o X.env)=eval o X.env:=by rfl)
  (hfew:((backTo cpos (starEach (e::es) X.env)).all (fun x=>!x.1) && (backToKw cpos (keywordEach [] X.env)).all (fun x=>x.1.isSome)
   && decide ((e::es).length+([]:List Keyword).length+(if ([]:List Keyword).isEmpty then 0 else 1) < 30))=true:=by rfl)
  (hline:(apos.endLine == cpos.line)=true:=by rfl) (hs:starEach (e::es) X.env=(false,eval e X.env)::starEach es X.env:=by rfl) (hplain:(backTo cpos (starEach es X.env)).any (·.1)=false:=by rfl) :
  PE X (.Call (.Attribute o name apos) (e::es) [] cpos) (tBM X.K T r to t):=by
 intro pins s σ H Q I h
 refine wpAny_Call_method_late hbase hfew hline rfl (thn (ho pins s σ H _ I h) fun v s1 ⟨x,H1,I1,r1,ty,q1⟩=>?_)
 obtain ⟨h1,h2⟩:=tyV_is I1 r1 ty
 refine ⟨T,id,pa,slot,hty,h1,h2,?_⟩
 have hA:=ha cpos pins s1 σ H1 _ I1 q1
 rw [hs] at hA ⊢
 refine Calls.callWith_builtin (by show (false || (backTo cpos (starEach es X.env)).any (·.1))=false;rw [hplain]<;>rfl) (Calls.evalArgs_plain ?_)
 exact thn hA fun us s2 ⟨vs,H2,I2,r2,q2⟩=>hm pins s2 σ H2 x vs v us Q I2 r1 r2 q2
end
def MtM (X:Cx) (id:String) (r:V->List V->Hp->VK->Prop):Prop :=
 ∀ (pins:List (Addr × Obj)) (s:Shared) (σ:St) (H:Hp) (x:V) (xs:List V) (v:Value) (us:List Value) (Q:VK),Inv X pins σ H s->RelV x v->Vals xs us->r x xs H Q ->
  wpAny (model X.prog X.w) X.A (call (.builtin id) (v::us)) (EP X pins σ Q) X.xe s
theorem Vals.one:∀ {x:V} {us:List Value},Vals [x] us->∃ u,us=[u]/\RelV x u
 | _,_,.cons r .nil=>⟨_,rfl,r⟩
theorem Vals.zero:∀ {us:List Value},Vals [] us->us=[]
 | _,.nil=>rfl
theorem Vals.dropLast {xs:List V} {us:List Value} (h:Vals xs us):Vals xs.dropLast us.dropLast:=by
 induction h with
 | nil=>exact .nil
 | cons r t ih =>
  cases t with
  | nil=>exact .nil
  | cons q t'=>exact .cons r ih
theorem Vals.rep {xs:List V} {us:List Value} (h:Vals xs us):∀ k:Nat,Vals (List.replicate k xs).flatten (List.replicate k us).flatten
 | 0=>.nil
 | k+1=>by
  rw [List.replicate_succ,List.replicate_succ,List.flatten_cons,List.flatten_cons]
  exact Vals.append h (Vals.rep h k)
theorem erase_last {α:Type} (l:List α):l.eraseIdx (l.length - 1)=l.dropLast:=by
 induction l with
 | nil=>rfl
 | cons a r ih =>
  cases r with
  | nil=>rfl
  | cons b r =>
   have e:(a::b::r).length - 1=((b::r).length - 1)+1:=by
    have h1:(a::b::r).length=r.length+2:=rfl
    have h2:(b::r).length=r.length+1:=rfl
    omega
   rw [e,List.eraseIdx_cons_succ,ih]
   all_goals rfl
theorem foldl_rep (its:List Value):∀ (k:Nat) (acc:List Value),
  List.foldl (fun x1 x2=>x1++x2) acc.toArray (List.replicate k its.toArray)=(acc++(List.replicate k its).flatten).toArray
 | 0,acc=>by simp
 | k+1,acc=>by
  have e:acc.toArray++its.toArray=(acc++its).toArray:=by simp
  have e2:(acc++its)++(List.replicate k its).flatten=acc++(List.replicate (k+1) its).flatten:=by
   rw [List.replicate_succ,List.flatten_cons,List.append_assoc]
  rw [<- e2,<- foldl_rep its k (acc++its),<- e,List.replicate_succ,List.foldl_cons]
section
variable {X:Cx} {pins:List (Addr × Obj)} {σ:St} {H:Hp} {s:Shared} {l b:Addr} {xs ys zs:List V}
theorem Inv.lset {its its':List Value} {n:Nat} {f:Array Value->Array Value} {t':Nat} (I:Inv X pins σ H s) (hH:H l=some (.lst xs))
  (e:s.heap.get? l=some { cls:=.type "list",data:=.seq its.toArray n }) (hf:f its.toArray=its'.toArray) (hv:Vals ys its') (hz:ys.length<=sizeLine) :
  Inv X pins σ (upd H l (.lst ys)) { s with heap:=s.heap.update l (Obj.mapSeq f),toks:=t' }:=by
 have q:=PySem.IsL.update e f
 rw [hf] at q
 refine I.write (x:=l) (e:=l) (by rw [hH];exact trivial) (.inl rfl) (fun b' u hb hu=>(Heap.get?_update_other s.heap (Obj.mapSeq f) (Ne.symm hb)).trans hu) ⟨_,q⟩ ?_
 exact ⟨hz,its',_,hv,q⟩
theorem Inv.lnew {its:List Value} {t':Nat} (I:Inv X pins σ H s) (hv:Vals ys its) (hz:ys.length<=sizeLine) :
  Inv X pins σ (upd H s.heap.objs.size (.lst ys)) { s with heap:=s.heap.push { cls:=.type "list",data:=.seq its.toArray },toks:=t' } :=
 I.laid (fun _ _ q=>Heap.get?_push_of_some _ q) (Nat.le_refl _) ⟨hz,its,0,hv,Heap.get?_push_size _ rfl⟩
theorem Inv.fresh (I:Inv X pins σ H s):H s.heap.objs.size=none:=I.hok.fresh (Nat.le_refl _)
theorem Inv.lstM (I:Inv X pins σ H s) (hH:H l=some (.lst xs)):xs.length<=sizeLine/\∃ (its:List Value) (n:Nat),Vals xs its/\xs.length=its.length/\s.heap.get? l=some { cls:=.type "list",data:=.seq its.toArray n }:=by
 obtain ⟨z,its,n,r,e⟩:=I.hok l _ hH
 exact ⟨z,its,n,r,r.length,e⟩
theorem notLongL {n:Nat} (h:n<=sizeLine):Builtin.List.listTooLong n=false:=by
 unfold Builtin.List.listTooLong
 exact decide_eq_false (by omega)
end
section
variable {X:Cx}
def rAppend:V->List V->Hp->VK->Prop:=fun x vs H Q=>∃ l xs y,x=.ref l/\vs=[y]/\H l=some (.lst xs)/\xs.length < sizeLine/\Q .non (upd H l (.lst (xs++[y])))
theorem mt_append:MtM X "list.append" rAppend:=by
 intro pins s σ H x vs v us Q I rx rv h
 obtain ⟨l,xs,y,rfl,rfl,hH,hz,q⟩:=h
 cases rx
 obtain ⟨u,rfl,ru⟩:=rv.one
 obtain ⟨z,its,n,r,hl,e⟩:=I.lstM hH
 refine call_meets F.slot_list_append ⟨_,e,rfl⟩ F.entry_list_append (F.args_list_append_2 _ _) (PySem.list_append l its.toArray n u (by rw [List.size_toArray];omega)) ⟨e,?_⟩
 refine ⟨.non,_,I.lset (its':=its++[u]) hH e (by simp) (r.append (.cons ru .nil)) ?_,rfl,q⟩
 rw [List.length_append,List.length_singleton]
 omega
def rExtend:V->List V->Hp->VK->Prop:=fun x vs H Q=>∃ l b xs zs,x=.ref l/\vs=[.ref b]/\H l=some (.lst xs)/\H b=some (.lst zs)/\xs.length+zs.length<=sizeLine/\Q .non (upd H l (.lst (xs++zs)))
theorem mt_extend:MtM X "list.extend" rExtend:=by
 intro pins s σ H x vs v us Q I rx rv h
 obtain ⟨l,b,xs,zs,rfl,rfl,hH,hB,hz,q⟩:=h
 cases rx
 obtain ⟨u,rfl,ru⟩:=rv.one
 cases ru
 obtain ⟨z,its,n,r,hl,e⟩:=I.lstM hH
 obtain ⟨z2,its2,n2,r2,hl2,e2⟩:=I.lstM hB
 have hsz:its.toArray.size+its2.toArray.size<=sizeLine:=by rw [List.size_toArray,List.size_toArray];omega
 have hlong:¬ (!its.toArray.isEmpty && Builtin.List.listTooLong (its.toArray.size+its2.toArray.size))=true:=by
  rw [notLongL hsz,Bool.and_false]
  exact Bool.false_ne_true
 refine call_meets F.slot_list_extend ⟨_,e,rfl⟩ F.entry_list_extend (F.args_list_extend_2 _ _)
  (AutoSeq1.list_extend_list_list_0 l its.toArray n b its2.toArray n2 hlong (by rw [List.size_toArray];omega) (by omega)) ⟨e,e2,?_⟩
 refine ⟨.non,_,I.lset (its':=its++its2) hH e (by simp) (r.append r2) ?_,rfl,q⟩
 rw [List.length_append]
 omega
def rPop:V->List V->Hp->VK->Prop:=fun x vs H Q=>∃ l xs y,x=.ref l/\vs=[]/\H l=some (.lst xs)/\xs[xs.length - 1]?=some y/\Q y (upd H l (.lst xs.dropLast))
theorem mt_pop:MtM X "list.pop" rPop:=by
 intro pins s σ H x vs v us Q I rx rv h
 obtain ⟨l,xs,y,rfl,rfl,hH,hy,q⟩:=h
 cases rx
 have hus:=rv.zero
 subst hus
 obtain ⟨z,its,n,r,hl,e⟩:=I.lstM hH
 obtain ⟨u,hu,ru⟩:=r.get hy
 have hy':its.toArray[its.toArray.size - 1]?=some u:=by
  show its.toArray[its.length - 1]?=some u
  rw [<- Array.getElem?_toList,<- hl]
  exact hu
 refine call_meets F.slot_list_pop ⟨_,e,rfl⟩ F.entry_list_pop (F.args_list_pop_1 _) (MeetsSeq.list_pop_last l its.toArray n u hy' (by rw [List.size_toArray];omega)) ⟨e,?_⟩
 refine ⟨y,_,I.lset (its':=its.dropLast) hH e ?_ r.dropLast ?_,ru,q⟩
 ·show its.toArray.eraseIdxIfInBounds (its.toArray.size - 1)=its.dropLast.toArray
  rw [List.size_toArray,List.eraseIdxIfInBounds_toArray,erase_last]
 ·rw [List.length_dropLast]
  omega
def rCat:R2:=fun x y H Q=>∃ l b xs zs,x=.ref l/\y=.ref b/\H l=some (.lst xs)/\H b=some (.lst zs)/\xs.length+zs.length<=sizeLine/\∀ p,H p=none->Q (.ref p) (upd H p (.lst (xs++zs)))
theorem op_cat:OpR X (binaryOp .Add) rCat:=by
 intro pins s σ H x y v u Q I rx ry h
 obtain ⟨l,b,xs,zs,rfl,rfl,hH,hB,hz,q⟩:=h
 cases rx
 cases ry
 obtain ⟨z,its,n,r,hl,e⟩:=I.lstM hH
 obtain ⟨z2,its2,n2,r2,hl2,e2⟩:=I.lstM hB
 refine PySem.P.add_list e e2 ?_ (by rw [List.size_toArray,List.size_toArray];omega)
 have ea:its.toArray++its2.toArray=(its++its2).toArray:=by simp
 rw [ea]
 exact ⟨.ref _,_,I.lnew (t':=s.toks) (r.append r2) (by rw [List.length_append];omega),rfl,q _ I.fresh⟩
def rRep:R2:=fun x y H Q=>∃ l k xs,x=.ref l/\y=.int k/\H l=some (.lst xs)/\-(2 ^ 63)<=k/\k < 2 ^ 63/\xs.length * k.toNat<=sizeLine /\
 ∀ p,H p=none->Q (.ref p) (upd H p (.lst (List.replicate k.toNat xs).flatten))
theorem len_rep {α:Type} (xs:List α) (k:Nat):(List.replicate k xs).flatten.length=k * xs.length:=by
 induction k with
 | zero=>simp
 | succ k ih=>rw [List.replicate_succ,List.flatten_cons,List.length_append,ih,Nat.succ_mul,Nat.add_comm]
theorem op_rep:OpR X (binaryOp .Mult) rRep:=by
 intro pins s σ H x y v u Q I rx ry h
 obtain ⟨l,k,xs,rfl,rfl,hH,h1,h2,hz,q⟩:=h
 cases rx
 obtain ⟨t,rfl⟩:=ry
 obtain ⟨z,its,n,r,hl,e⟩:=I.lstM hH
 have hlen:its.toArray.size * k.toNat<=sizeLine:=by rw [List.size_toArray,<- hl];exact hz
 have hcap:¬ its.toArray.size * k.toNat > (2 ^ 63 - 1) / 8:=by
  have:(sizeLine:Nat)<=(2 ^ 63 - 1) / 8:=by decide
  omega
 have hfit:¬ (!Builtin.List.listFitsIndex k)=true:=by
  rw [fitsIndex_both h1 h2]
  exact Bool.false_ne_true
 have hlong:¬ Builtin.List.listTooLong (its.toArray.size * k.toNat)=true:=by
  rw [notLongL hlen]
  exact Bool.false_ne_true
 have hnew:List.foldl (fun x1 x2=>x1++x2) #[] (List.replicate (if its.toArray.isEmpty=true then 0 else k.toNat) its.toArray)=(List.replicate k.toNat its).flatten.toArray:=by
  have f0:∀ m:Nat,List.foldl (fun x1 x2=>x1++x2) #[] (List.replicate m its.toArray)=(List.replicate m its).flatten.toArray:=fun m=>by
   have:=foldl_rep its m []
   rw [List.nil_append] at this
   exact this
  rw [f0]
  cases its with
  | nil=>simp
  | cons a r'=>rw [if_neg (by simp)]
 refine wpAny_binaryOp_repeat_ref (T:="list") (U:="int") (by decide) ⟨_,e,rfl⟩ (fun s'=>typeIs_int s' k t) noFill_list_mul F.fills_int_mul F.slot_int_rmul repeat_list F.slot_int_index.lookup
  (call_meets F.slot_int_rmul (typeIs_int s k t) F.entry_int_rmul (F.args_int_rmul_2 _ _) (int___rmul___int_list k t l its.toArray n)
   ⟨e,rfl,⟨_,e,rfl⟩,call_meets F.slot_list_mul ⟨_,e,rfl⟩ F.entry_list_mul (F.args_list_mul_2 _ _) (AutoListH.list___mul___list_int_3 l its.toArray n k t hfit hcap hlong) ⟨e,?_⟩⟩)
 rw [hnew]
 exact ⟨.ref _,_,I.lnew (t':=s.toks) (r.rep k.toNat) (by rw [len_rep,Nat.mul_comm];exact hz),rfl,q _ I.fresh⟩
end
section
variable {prog:Program} {w:World} {A:Around} {E:Value->Shared->Prop} {s:Shared}
set_option maxRecDepth 100000 in
end
section
variable {X:Cx}
end
end L2
namespace Att
open PySem PySem.W PySem.Calls PyProof.Rows
theorem ints_of_wellAll {P:Params} {h:Heap}:∀ (ns:List Int) (vs:List Value),WellAll P h vs (ns.map WData.int)->IntsAre vs ns:=by
 intro ns
 induction ns with
 | nil =>
  intro vs w
  rw [List.map_nil] at w
  cases w
  exact .nil
 | cons n ns ih =>
  intro vs w
  rw [List.map_cons] at w
  cases w with
  | cons a b =>
   cases a
   exact .cons _ _ (ih _ b)
theorem script_of {l:OpenLaw} {n:Nat} (hn:l.most=some n) {P:Params} {h:Heap} {args:List WData} {vals:List Value}
  (hpre:l.row.toRowW.claim.pre args=true) (hwl:WellAll P h vals args) :
  ∃ a vs ns,vals=[Value.ref a]/\args=[WData.list (ns.map WData.int)]/\h.get? a=some { cls:=.type "list",data:=.seq vs.toArray }/\IntsAre vs ns/\ns.length<=n:=by
 have hsh:WShape.hasAll [] args [.list .int]=true:=(pre_splitW hpre).1
 have hc:l.pre.holds [] { args:=args }=true:=(pre_splitW hpre).2
 obtain ⟨d,r,rfl,h1,h2⟩:=hasAllW_cons hsh
 obtain rfl:=hasAllW_nil h2
 obtain ⟨xs,rfl,h3⟩:=hasW_list h1
 obtain ⟨ns,rfl⟩:=items_int h3
 have hlen:ns.length<=n:=by
  unfold OpenLaw.pre at hc
  have h4:(WTm.not (.lt (.lit (.int (n:Int))) (.len (.arg 0)))).holds [] { args:=[.list (ns.map .int)] }=true:=by
   have h4:=(holds_andW hc).1
   rw [hn] at h4
   exact h4
  have h5:=condW_of h4 (w_not (w_lt w_lit (w_len_list (w_arg rfl))))
  rw [List.length_map] at h5
  refine Nat.le_of_not_lt fun q=>?_
  have q':(n:Int) < ((ns.length:Nat):Int):=by omega
  first
   | (rw [decide_eq_true q'] at h5;exact absurd h5 (by decide))
   | (simp at h5;omega)
 cases hwl with
 | cons w1 w2 =>
  cases w2
  cases w1 with
  | list ho hall=>exact ⟨_,_,ns,rfl,rfl,ho,ints_of_wellAll ns _ hall,hlen⟩
theorem post_true (l:OpenLaw) (args:List WData):l.row.toRowW.claim.post args (.bool true) args=true :=
 postW_of (r:=l.row.toRowW) (X:=(true == true))
  (show WShape.has [] (.bool true) .bool=true by first | rfl | decide | simp [WShape.has,WShape.arms,WShape.armsAll])
  (show (WTm.eq .res (.lit (.bool true))).value [] { args:=args,res:=some (.bool true),after:=args }=some (.bool (true == true)) from w_eq_bool (w_res rfl) w_lit) rfl
theorem attach_call {l:OpenLaw} {n:Nat} {q:Program} {loose:List Str} {XP:(Str->Option Value)->Heap->Prop} {YP:World->Heap->Prop} {d:DefRec}
  (hn:l.most=some n) (hdf:d.params.defaults=[])
  (call:∀ (w:World) (s₀ s₁:Shared) (mg mb:Str->Option Value) (fa:Addr) (o:Obj) (pm cd doc:Value) (a:Addr) (vs:List Value) (ns:List Int),
   Ground q loose [] XP w s₀ mg mb s₁.heap->YP w s₁.heap ->
   s₁.heap.get? fa=some o->o.data=.func (docDef d.name d.params d.body d.scope pm cd doc)->s₁.heap.CodeRec cd d.name->mg d.name=some (.ref fa) ->
   s₁.heap.get? a=some { cls:=.type "list",data:=.seq vs.toArray }->IntsAre vs ns->ns.length<=n->s₁.gens=#[] ->
   codeAny (model l.prog w) callerA (.call (.ref fa) ⟨[.ref a],[]⟩) (fun r s'=>r=.ok (.ret (.bool true))/\OldK s₁.heap s'.heap/\s'.os=s₁.os/\AllBare s'.gens) s₁) :
  WalkO q loose XP YP l.row.toRowW d [] (fun f vs=>PySem.call f vs):=by
 intro w s₀ s₁ mg mb G Y fa o pm cd doc dV kV ho hd hcd hD hmg hg args vals as hpre hlay hrd hwl hlo
 obtain rfl:dV=.none:=Dflts.none hD hdf
 obtain rfl:kV=.none:=Dflts.noKw hD
 obtain ⟨a,vs,ns,rfl,rfl,hobj,hints,hlen⟩:=script_of hn hpre hwl
 refine enter_call (codeAny_mono (call w s₀ s₁ mg mb fa o pm cd doc a vs ns G Y ho (fd_plain hd) hcd hmg hobj hints hlen hg) fun r s' hq=>?_)
 obtain ⟨rfl,h2,h3,h4⟩:=hq
 exact ⟨.inl ⟨.bool true,.bool true,[],rfl,fun _=>rfl,.bool true,post_true l _,fun _=>⟨List.Pairwise.nil,fun _ hm=>(nomatch hm)⟩⟩,h2,h3,h4⟩
section
variable {prog:Program} {w:World} {A:Around} {E:Value->Shared->Prop} {s:Shared} {K:Frag}
def ledger (h:Heap) (L d:Addr):List (Addr × Obj):=(List.range h.objs.size).filterMap fun a=>if a=L\/a=d then none else (h.get? a).map fun o=>(a,o)
end
end Att
namespace L2
open PySem PySem.Spec PyProof.Rows
theorem vals_ints:∀ {vs:List Value} {ns:List Int},IntsAre vs ns->Vals (ns.map V.int) vs
 | _,_,.nil=>.nil
 | _,_,.cons n t h=>.cons ⟨t,rfl⟩ (vals_ints h)
def Only (H:Hp):Prop:=∀ b,H b=none\/∃ o xs,H b=some (.frz o (.lst xs))
theorem law_call {P:Program} {w:World} {K:PySem.W.Frag} {mg mb:Str->Option Value} {CX:CXT} {k:Nat} {fa a:Addr} {fd:FuncData} {x:Str} {sp:Sp} {s₁:Shared} {vs:List Value} {ns:List Int}
  (KX:K.In s₁.heap) (hns:s₁.heap.Ns mainGlobals mg) (hb:s₁.heap.Ns builtinsNs mb) (hbb:∀ x:Str,x≠"__name__" -> mb x=bootBuiltins x) (hlim:s₁.heap.NoLimit) (hg:s₁.gens=#[])
  (ha:s₁.heap.get? a=some { cls:=.type "list",data:=.seq vs.toArray }) (hi:IntsAre vs ns) (hl:ns.length<=sizeLine) (hr:Room k callerA)
  (F:∀ base:Heap,K.In base->base.Ns mainGlobals mg->FnOk P w K mg base CX k fa fd [x] sp) (hbind:∀ (s:Shared) (u:Value),BindsTo s fd ⟨[u],[]⟩ [(x,u)])
  (hsp:∀ H:Hp,Only H->SqL K H a (ns.map V.int)->sp [.ref a] H (fun v _=>v=.bl true) fun _ _ _=>False)
  (hCX:∀ H e s',CX [] H s₁ (fun _ _ _=>False) e s'->False) :
  codeAny (model P w) callerA (.call (.ref fa) ⟨[.ref a],[]⟩) (fun r s'=>r=.ok (.ret (.bool true))/\OldK s₁.heap s'.heap/\s'.os=s₁.os/\AllBare s'.gens) s₁:=by
 have rv:=vals_ints hi
 have lenV:=hi.length
 have core:∀ H:Hp,Only H->SqL K H a (ns.map V.int)->HOk P w H s₁.heap->(∀ b,H b≠none->b=a)->(H a≠none->K.lookup a=none) ->
   codeAny (model P w) callerA (.call (.ref fa) ⟨[.ref a],[]⟩) (fun r s'=>r=.ok (.ret (.bool true))/\OldK s₁.heap s'.heap/\s'.os=s₁.os/\AllBare s'.gens) s₁:=by
  intro H hO hS hok hA hK
  have base_of:∀ {b:Addr} {o:Obj},s₁.heap.get? b=some o->H b=none->(hidT s₁.heap H).get? b=some o:=fun e n=>hidT_get e n
  have noA:∀ {b:Addr} {o:Obj} {es:Array DictEntry} {ep:Nat},s₁.heap.get? b=some o->o.data=.dict es ep->H b=none:=fun {b o es ep} e d=>by
   cases q:H b with
   | none=>rfl
   | some u =>
    have e':b=a:=hA b (by rw [q];simp)
    subst e'
    rw [ha] at e;cases e
    have d':Data.seq vs.toArray _=Data.dict es ep:=d
    cases d'
  have nsK:∀ {b:Addr} {m:Str->Option Value},s₁.heap.Ns b m->(hidT s₁.heap H).Ns b m:=fun {b m} ⟨o,es,ep,e,d,r⟩=>⟨o,es,ep,base_of e (noA e d),d,r⟩
  have hKb:K.In (hidT s₁.heap H):=fun b o e=>base_of (KX b o e) (by
   cases q:H b with
   | none=>rfl
   | some u =>
    have e':b=a:=hA b (by rw [q];simp)
    subst e'
    rw [hK (by rw [q];simp)] at e;cases e)
  have hM:Mod K mg (hidT s₁.heap H):=⟨hKb,nsK hns,⟨mb,nsK hb,hbb⟩,let ⟨mc,h1,h2⟩:=hlim;⟨mc,nsK h1,h2⟩⟩
  have e0:Env0 P w K mg (hidT s₁.heap H) callerA [] s₁ H:=⟨rfl,hM,fun b o e=>of_hidT e,Nat.le_of_eq (hidT_size _ _),trivial,fun b hb=>absurd (show b∈([]:List Addr) from hb) (by simp),hok,.of_eq hg⟩
  refine codeAny_mono ((F _ hKb (nsK hns)).run callerA [] s₁ H ⟨[.ref a],[]⟩ [.ref a] [.ref a] _ _ hr e0 (hbind s₁ (.ref a)) (.cons rfl .nil) (hsp H hO hS)) fun r s' h=>?_
  cases r with
  | error e=>exact (hCX H e s' h).elim
  | ok fl =>
   cases fl with
   | next=>exact False.elim h
   | brk=>exact False.elim h
   | cont=>exact False.elim h
   | ret u =>
    obtain ⟨v,H',os,bare,un,hok',r',q⟩:=h
    have q':v=.bl true:=q
    subst q'
    obtain rfl:u=Value.bool true:=r'
    refine ⟨rfl,OldK.of_keep fun b o e=>?_,os,bare⟩
    cases q:H b with
    | none=>exact un.keep b o e q (by intro z;exact absurd (show b∈([]:List Addr) from z) (by simp)) (by simp)
    | some u =>
     rcases hO b with z | ⟨ob,xs,z⟩
     ·rw [q] at z;cases z
     ·have z2:=un.frzs b ob _ z
      obtain ⟨e1,_⟩:=hok b _ z
      obtain ⟨e2,_⟩:=hok' b _ z2
      rw [e] at e1;cases e1
      exact e2
 cases hk:K.lookup a with
 | some o =>
  have e:=KX a o hk
  rw [ha] at e
  cases e
  refine core (fun _=>none) (fun _=>.inl rfl) (.inr ⟨_,vs.toArray,_,hk,rfl,rfl,rfl,by rw [List.size_toArray,lenV];exact hl,by simpa using rv⟩) (fun b u z=>by have z':(none:Option HO)=some u:=z;cases z') (fun b z=>absurd rfl z) fun z=>absurd rfl z
 | none =>
  refine core (fun b=>if b=a then some (.frz { cls:=.type "list",data:=.seq vs.toArray } (.lst (ns.map V.int))) else none) (fun b=>?_) (.inl (.inr ⟨{ cls:=.type "list",data:=.seq vs.toArray },if_pos rfl⟩)) (fun b u z=>?_) (fun b z=>?_) fun _=>hk
  ·by_cases hb:b=a
   ·exact .inr ⟨_,_,if_pos hb⟩
   ·exact .inl (if_neg hb)
  ·by_cases hb:b=a
   ·have z':=(if_pos hb).symm.trans z
    cases z'
    subst hb
    exact ⟨ha,by rw [List.length_map];exact hl,vs,_,rv,ha⟩
   ·have z':=(if_neg hb).symm.trans z
    cases z'
  ·by_cases hb:b=a
   ·exact hb
   ·exact absurd (if_neg hb) z
abbrev KOf {K:PySem.W.Frag} {h:Heap} (_:K.In h):PySem.W.Frag:=K
theorem walk_of {l:PySem.W.OpenLaw} {n k:Nat} {q:Program} {loose:List Str} {XP:(Str->Option Value)->Heap->Prop} {YP:World->Heap->Prop} {d:DefRec} {K:Params->PySem.W.Frag} {CX:World->CXT} {sp:World->Sp} {x:Str}
  (hn:l.most=some n) (hn2:n<=sizeLine) (hdf:d.params.defaults=[]) (hr:Room k callerA)
  (hY:∀ (w:World) (h:Heap),YP w h->(K w.params).In h)
  (F:∀ (w:World) (mg:Str->Option Value) (fa:Addr) (h:Heap),(K w.params).In h->h.Ns mainGlobals mg->mg d.name=some (.ref fa) ->
   ∃ fd:FuncData,(∀ (s:Shared) (u:Value),BindsTo s fd ⟨[u],[]⟩ [(x,u)]) /\
    ∀ base:Heap,(K w.params).In base->base.Ns mainGlobals mg->FnOk l.prog w (K w.params) mg base (CX w) k fa fd [x] (sp w))
  (hsp:∀ (w:World) (H:Hp) (a:Addr) (ns:List Int),ns.length<=n->Only H->SqL (K w.params) H a (ns.map V.int)->sp w [.ref a] H (fun v _=>v=.bl true) fun _ _ _=>False)
  (hCX:∀ (w:World) (H:Hp) (s:Shared) (e:Value) (s':Shared),CX w [] H s (fun _ _ _=>False) e s'->False) :
  PySem.W.WalkO q loose XP YP l.row.toRowW d [] (fun f vs=>PySem.call f vs):=by
 refine Att.attach_call hn hdf fun w s₀ s₁ mg mb fa o pm cd doc a vs ns G Y ho hd hcd hmg hobj hints hlen hg=>?_
 have KX:=hY w _ Y
 obtain ⟨fd,hb,hF⟩:=F w mg fa _ KX G.T.g hmg
 exact law_call KX G.T.g G.T.b G.T.builtins G.T.nolimit hg hobj hints (Nat.le_trans hlen hn2) hr hF hb (fun H hO hS=>hsp w H a ns hlen hO hS) fun H e s'=>hCX w H s₁ e s'
def inClass (s:Stmt) (j:Nat):Stmt:=match s with
 | .ClassDef _ _ _ body _ _ _ _ _ _ _=>body.getD j (.Pass ⟨0,0,0,0⟩)
 | _=>.Pass ⟨0,0,0,0⟩
def defArgs (s:Stmt):Arguments:=match s with
 | .FunctionDef _ a _ _ _ _ _ _ _ _=>a
 | _=>{ posonlyargs:=[],args:=[],vararg:=none,kwonlyargs:=[],kw_defaults:=[],kwarg:=none,defaults:=[] }
def defBody (s:Stmt):List Stmt:=match s with
 | .FunctionDef _ _ b _ _ _ _ _ _ _=>b
 | _=>[]
def defScope (s:Stmt):Scope:=match s with
 | .FunctionDef _ _ _ _ _ _ sc _ _ _=>sc
 | _=>{ kind:=.function,names:=[],isGenerator:=false,isCoroutine:=false }
abbrev CX0:CXT:=fun _ _ _ _ _ _=>False
abbrev E0:XK:=fun _ _ _=>False
theorem pass0 {X:Cx}:Passes CX0 X E0:=fun _ _ _ _ _ _ _ h=>h.elim
structure Fun (K:PySem.W.Frag) (x qual:Str) (st:Stmt) (f:Addr) (fd:FuncData):Prop where
 ex:∃ (oc:Value) (od:Option Addr) (kV doc pm:Value) (an:Option Addr) (cdv ct:Value) (osl:Array (Option Value)),
  fd=PySem.W.fnOf x qual (defArgs st) (defBody st) (defScope st) .none kV doc pm an cdv ct/\K.lookup f=some ⟨oc,od,.func fd,osl⟩/\PySem.W.codeIn K cdv qual=true
 kp:PySem.W.keepIn K (.ref f)=true
section
variable {P:Program} {w:World} {K:PySem.W.Frag} {mg:Str->Option Value} {base:Heap}
theorem Fun.ok {x qual:Str} {st:Stmt} {f:Addr} {fd:FuncData} {N ps:List Str} {k:Nat} {sp:Sp} (F:Fun K x qual st f fd) (S:FnScope N ps (defScope st)) (len:∀ vs H Q E,sp vs H Q E->vs.length=ps.length)
  (hbody:∀ (cdv:Value) (A:Around) (outer:List Env) (s:Shared) (H:Hp) (vs:List V) (Q:VK) (E:XK),Room k (A.deeper (envOfC qual (defScope st) s.heap.objs.size f cdv))->sp vs H Q E ->
   ∃ t,PSs (cxOf CX0 P w K mg base N qual (defScope st) f cdv A outer s H E).nox (defBody st) t/\t { nx:=fun _ H'=>Q .non H',rt:=Q } (start N vs) H):FnOk P w K mg base CX0 (k+1) f fd ps sp:=by
 obtain ⟨oc,od,kV,doc,pm,an,cdv,ct,osl,rfl,lk,hcd⟩:=F.ex
 refine fn_of lk hcd S len fun A outer s H vs Q E hr hsp=>?_
 obtain ⟨t,h,q⟩:=hbody cdv A outer s H vs Q E hr hsp
 exact ⟨t,h.nox,q⟩
theorem Fun.binds {x qual:Str} {st:Stmt} {f:Addr} {fd:FuncData} {ps:List Str} (F:Fun K x qual st f fd)
  (h:∀ (kV doc pm:Value) (an:Option Addr) (cdv ct:Value) (us:List Value),us.length=ps.length->bindArgs (PySem.W.fnOf x qual (defArgs st) (defBody st) (defScope st) .none kV doc pm an cdv ct) ⟨us,[]⟩=pure (ps.zip us)):Binds K fd ps []:=by
 obtain ⟨oc,od,kV,doc,pm,an,cdv,ct,osl,rfl,lk,hcd⟩:=F.ex
 exact .all (h kV doc pm an cdv ct)
theorem fun_mk {x qual:Str} {st:Stmt} {f:Addr} {oc:Value} {od an:Option Addr} {osl:Array (Option Value)} {kV doc pm cdv ct:Value} (l:K.lookup f=some ⟨oc,od,.func (PySem.W.fnOf x qual (defArgs st) (defBody st) (defScope st) .none kV doc pm an cdv ct),osl⟩)
  (c:W.codeIn K cdv qual=true) (k:W.keepIn K (.ref f)=true):Fun K x qual st f (W.fnOf x qual (defArgs st) (defBody st) (defScope st) .none kV doc pm an cdv ct):=⟨⟨oc,od,kV,doc,pm,an,cdv,ct,osl,rfl,l,c⟩,k⟩
end
theorem hu_of {A:Around} {k:Nat} (hr:Room k A):A.units+1 < cLine:=Nat.lt_of_le_of_lt (Nat.add_le_add_left (by decide:1<=64) _) hr.units
theorem small1000 {n:Nat} (h:n<=1000):n < sizeLine:=Nat.lt_of_le_of_lt h (by decide)
section
variable {X:Cx}
theorem pv (i:Nat) {x:Str} {pos:Pos} (hN:X.N[i]?=some x:=by rfl) (hv:Vis X.env.scope x:=by first | exact Or.inl rfl | exact Or.inr (Or.inl rfl) | exact Or.inr (Or.inr rfl)) (hd:(x == ("__debug__" : Str))=false:=by decide)
  (hcd:(x == ("__classdict__" : Str))=false:=by decide):PE X (.Name x pos) (tVar i):=pe_var hN hv hd hcd
end
theorem iteF {A B:Prop} (h:B):if false=true then A else B:=by
 rw [if_neg Bool.false_ne_true]
 exact h
theorem iteT {A B:Prop} (h:A):if true=true then A else B:=by
 rw [if_pos rfl]
 exact h
theorem ite2 {c A B:Prop} [Decidable c] (h1:c->A) (h2:¬ c->B):if c then A else B:=by
 by_cases h:c
 ·rw [if_pos h]
  exact h1 h
 ·rw [if_neg h]
  exact h2 h
def Same (H H':Hp):Prop:=∀ b o,H b=some o->H' b=some o
theorem Same.refl (H:Hp):Same H H:=fun _ _ h=>h
theorem Same.trans {H H1 H2:Hp} (a:Same H H1) (b:Same H1 H2):Same H H2:=fun c o h=>b c o (a c o h)
theorem Same.free {H H':Hp} (e:Same H H') {l:Addr} (h:H' l=Option.none):H l=Option.none:=by
 cases q:H l with
 | none=>rfl
 | some o =>
  rw [e l o q] at h
  cases h
theorem Same.seq {K:PySem.W.Frag} {H H':Hp} {a:Addr} {xs:List V} (e:Same H H') (h:SqL K H a xs):SqL K H' a xs:=by
 rcases h with (h | ⟨o,h⟩) | h
 ·exact .inl (.inl (e _ _ h))
 ·exact .inl (.inr ⟨o,e _ _ h⟩)
 ·exact .inr h
end L2
set_option maxHeartbeats 4000000
namespace L2
open PySem PySem.Spec PyProof.Rows
section
variable {κ:Type} [DecidableEq κ]
def valV (kvs:List (κ × V)) (k:κ):Option V:=(kvs.find? fun kv=>decide (kv.1=k)).map (·.2)
def putK (kvs:List (κ × V)) (k:κ) (v:V):List (κ × V) :=
 if (kvs.any fun kv=>decide (kv.1=k))=true then kvs.map (fun kv=>if kv.1=k then (kv.1,v) else kv) else kvs++[(k,v)]
theorem valV_pos {p:κ × V} {r:List (κ × V)} {k:κ} (e:p.1=k):valV (p::r) k=some p.2:=by simp [valV,List.find?_cons,e]
theorem valV_neg {p:κ × V} {r:List (κ × V)} {k:κ} (e:¬ p.1=k):valV (p::r) k=valV r k:=by simp [valV,List.find?_cons,e]
theorem valV_any (k:κ):∀ kvs:List (κ × V),(kvs.any fun kv=>decide (kv.1=k))=(valV kvs k).isSome
 | []=>rfl
 | p::r=>by
  rw [List.any_cons]
  by_cases e:p.1=k
  ·simp only [valV_pos e,decide_eq_true e,Bool.true_or,Option.isSome_some]
  ·rw [valV_neg e,decide_eq_false e,Bool.false_or];exact valV_any k r
theorem length_putK (kvs:List (κ × V)) (k:κ) (v:V):(putK kvs k v).length<=kvs.length+1:=by
 unfold putK
 split
 ·rw [List.length_map];omega
 ·rw [List.length_append,List.length_cons,List.length_nil];omega
theorem putK_new {kvs:List (κ × V)} {k:κ} (v:V) (h:valV kvs k=none):putK kvs k v=kvs++[(k,v)]:=by
 unfold putK
 rw [valV_any,h]
 exact if_neg (by decide)
theorem RelO.isSome_eq {o:Option V} {u:Option Value} (r:RelO o u):o.isSome=u.isSome:=by
 cases o with
 | none=>cases u with
  | none=>rfl
  | some _=>exact (show False from r).elim
 | some _=>cases u with
  | none=>exact (show False from r).elim
  | some _=>rfl
theorem RelO.getD {o:Option V} {u:Option Value} {d:V} {d':Value} (r:RelO o u) (rd:RelV d d'):RelV (o.getD d) (u.getD d'):=by
 cases o with
 | none=>cases u with
  | none=>exact rd
  | some _=>exact (show False from r).elim
 | some _=>cases u with
  | none=>exact (show False from r).elim
  | some _=>exact r
theorem KV.val {kvs:List (κ × V)} {vs:List (κ × Value)} (r:KV kvs vs) (k:κ):RelO (valV kvs k) (valueAt vs k):=by
 unfold KV at r
 induction r with
 | nil=>exact True.intro
 | @cons p q ps qs h t ih =>
  obtain ⟨h1,h2⟩:=h
  by_cases e:p.1=k
  ·have e':q.1=k:=h1.symm.trans e
   have b:valueAt (q::qs) k=some q.2:=by simp [valueAt,List.find?_cons,e']
   rw [valV_pos e,b];exact h2
  ·have e':¬ q.1=k:=fun z=>e (h1.trans z)
   have b:valueAt (q::qs) k=valueAt qs k:=by simp [valueAt,List.find?_cons,e']
   rw [valV_neg e,b];exact ih
theorem KV.any {kvs:List (κ × V)} {vs:List (κ × Value)} (r:KV kvs vs) (k:κ):(kvs.any fun kv=>decide (kv.1=k))=vs.any fun kv=>decide (kv.1=k):=by
 unfold KV at r
 induction r with
 | nil=>rfl
 | cons h t ih=>rw [List.any_cons,List.any_cons,ih,h.1]
theorem KV.repl {kvs:List (κ × V)} {vs:List (κ × Value)} (r:KV kvs vs) (k:κ) {y:V} {u:Value} (ry:RelV y u) :
  KV (kvs.map fun kv=>if kv.1=k then (kv.1,y) else kv) (vs.map fun kv=>if kv.1=k then (kv.1,u) else kv):=by
 unfold KV at r ⊢
 induction r with
 | nil=>exact .nil
 | @cons p q ps qs h t ih =>
  rw [List.map_cons,List.map_cons]
  refine .cons ?_ ih
  obtain ⟨h1,h2⟩:=h
  by_cases e:p.1=k
  ·rw [if_pos e,if_pos (h1.symm.trans e)];exact ⟨h1,ry⟩
  ·rw [if_neg e,if_neg (fun z=>e (h1.trans z))];exact ⟨h1,h2⟩
theorem KV.put {kvs:List (κ × V)} {vs:List (κ × Value)} (r:KV kvs vs) (k:κ) {y:V} {u:Value} (ry:RelV y u):KV (putK kvs k y) (stored vs k u):=by
 unfold putK stored
 rw [r.any k]
 by_cases e:(vs.any fun kv=>decide (kv.1=k))=true
 ·rw [if_pos e,if_pos e];exact r.repl k ry
 ·rw [if_neg e,if_neg e];exact Paired.snoc r ⟨rfl,ry⟩
theorem KV.keys {kvs:List (κ × V)} {vs:List (κ × Value)} (r:KV kvs vs):kvs.map (·.1)=vs.map (·.1):=by
 unfold KV at r
 induction r with
 | nil=>rfl
 | cons h t ih=>rw [List.map_cons,List.map_cons,ih,h.1]
theorem KV.length {kvs:List (κ × V)} {vs:List (κ × Value)} (r:KV kvs vs):kvs.length=vs.length:=Paired.length r
end
theorem kV_is {P:Program} {w:World} {k:Key} {u:Value} (r:RelV (kV k) u):(mixKind P w).is k u=true:=by
 cases k with
 | inl i=>obtain ⟨t,e⟩:=(show ∃ t,u=Value.int i t from r);subst e;exact mixKind_int P w i t
 | inr x=>obtain ⟨t,e⟩:=(show ∃ t,u=Value.str x t from r);subst e;exact mixKind_str P w x t
theorem items_are {P:Program} {w:World}:∀ {ks:List Key} {us:List Value},Vals (ks.map kV) us->ItemsAre (mixKind P w) ks us
 | [],_,r=>by rw [List.map_nil] at r;cases r;exact .nil
 | k::ks,_,r=>by
  rw [List.map_cons] at r
  cases r with
  | cons h t=>exact .cons (kV_is h) (items_are t)
abbrev KT (H:Hp):List (List Key × V)->List (List Key × Addr × Value)->Prop:=Paired fun p q=>p.1=q.1/\H q.2.1=some (.tup (p.1.map kV))/\RelV p.2 q.2.2
theorem KT.val {H:Hp} {kvs:List (List Key × V)} {xs:List (List Key × Addr × Value)} (r:KT H kvs xs) (k:List Key):RelO (valV kvs k) ((atKey xs k).map (·.2)):=by
 induction r with
 | nil=>exact True.intro
 | @cons p q ps qs h t ih =>
  obtain ⟨h1,_,h2⟩:=h
  by_cases e:p.1=k
  ·have e':q.1=k:=h1.symm.trans e
   have b:atKey (q::qs) k=some q.2:=by simp [atKey,List.find?_cons,e']
   rw [valV_pos e,b];exact h2
  ·have e':¬ q.1=k:=fun z=>e (h1.trans z)
   have b:atKey (q::qs) k=atKey qs k:=by simp [atKey,List.find?_cons,e']
   rw [valV_neg e,b];exact ih
theorem KT.repl {H:Hp} {kvs:List (List Key × V)} {xs:List (List Key × Addr × Value)} (r:KT H kvs xs) (k:List Key) {y:V} {u:Value} (ry:RelV y u) :
  KT H (kvs.map fun kv=>if kv.1=k then (kv.1,y) else kv) (xs.map (putAt k u)):=by
 induction r with
 | nil=>exact .nil
 | @cons p q ps qs h t ih =>
  rw [List.map_cons,List.map_cons]
  refine .cons ?_ ih
  obtain ⟨h1,h2,h3⟩:=h
  unfold putAt
  by_cases e:p.1=k
  ·rw [if_pos e,if_pos (h1.symm.trans e)];exact ⟨h1,h2,ry⟩
  ·rw [if_neg e,if_neg (fun z=>e (h1.trans z))];exact ⟨h1,h2,h3⟩
theorem KT.put {H:Hp} {kvs:List (List Key × V)} {xs:List (List Key × Addr × Value)} (r:KT H kvs xs) (k:List Key) {b:Addr} {y:V} {u:Value} (hb:H b=some (.tup (k.map kV))) (ry:RelV y u) :
  KT H (putK kvs k y) (storedH xs k b u):=by
 have e:(kvs.any fun kv=>decide (kv.1=k))=(atKey xs k).isSome:=by
  rw [valV_any,(r.val k).isSome_eq,Option.isSome_map]
 unfold putK storedH
 rw [e]
 by_cases q:(atKey xs k).isSome=true
 ·rw [if_pos q,if_pos q];exact r.repl k ry
 ·rw [if_neg q,if_neg q];exact Paired.snoc r ⟨rfl,hb,ry⟩
theorem KT.keeps {H H':Hp} {kvs:List (List Key × V)} {xs:List (List Key × Addr × Value)} (r:KT H kvs xs) (ht:∀ b ys,H b=some (.tup ys)->H' b=some (.tup ys)):KT H' kvs xs :=
 Paired.mapP r fun _ _ z=>⟨z.1,ht _ _ z.2.1,z.2.2⟩
section
variable {P:Program} {w:World} {H:Hp} {h:Heap} {a:Addr}
theorem rd_of {u:HO} (ok:HOk P w H h) (e:Rd H a u):ObjOk P w H h a u:=e.ok ok
theorem dk_rd {kvs:List (Key × V)} (ok:HOk P w H h) (e:Rd H a (.dK kvs)):kvs.length<=sizeLine/\(a == sysModules)=false/\∃ vs,KV kvs vs/\h.DictOf (mixKind P w) a vs :=
 show ObjOk P w H h a (.dK kvs) from rd_of ok e
theorem dk_of {kvs:List (Key × V)} (ok:HOk P w H h) (e:H a=some (.dK kvs)):kvs.length<=sizeLine/\(a == sysModules)=false/\∃ vs,KV kvs vs/\h.DictOf (mixKind P w) a vs:=dk_rd ok (.inl e)
theorem key_of {ks:List Key} (ok:HOk P w H h) (e:H a=some (.tup (ks.map kV))):(tupleKind (mixKind P w)).is h ks a:=by
 obtain ⟨_,its,r,o,h1,h2,n,h3⟩:=(show ObjOk P w H h a (.tup (ks.map kV)) from ok a _ e)
 exact ⟨o,its.toArray,n,h1,h2,h3,by simpa using items_are r⟩
theorem dt_rd {kvs:List (List Key × V)} (ok:HOk P w H h) (e:Rd H a (.dT kvs)):kvs.length<=sizeLine/\(a == sysModules)=false /\
  ∃ xs,KT H kvs xs/\h.DictOfH (tupleKind (mixKind P w)) a xs:=by
 obtain ⟨z,y,xs,r,o,es,ep,h1,h2,h3,h4,h5⟩:=(show ObjOk P w H h a (.dT kvs) from rd_of ok e)
 refine ⟨z,y,xs,r,o,es,ep,h1,h2,h3,h4,fun x hx=>?_,h5⟩
 have all:∀ {l:List (List Key × V)} {m:List (List Key × Addr × Value)},KT H l m->∀ x∈m,(tupleKind (mixKind P w)).is h x.1 x.2.1:=by
  intro l m q
  induction q with
  | nil=>intro x hx;exact nomatch hx
  | @cons p q ps qs hq t ih =>
   intro x hx
   rcases List.mem_cons.mp hx with e | hx
   ·subst e
    exact key_of ok (by rw [<- hq.1];exact hq.2.1)
   ·exact ih x hx
 exact all r x hx
theorem dt_of {kvs:List (List Key × V)} (ok:HOk P w H h) (e:H a=some (.dT kvs)):kvs.length<=sizeLine/\(a == sysModules)=false /\
  ∃ xs,KT H kvs xs/\h.DictOfH (tupleKind (mixKind P w)) a xs:=dt_rd ok (.inl e)
end
def DGet (H:Hp) (a:Addr) (y:V) (r:Option V):Prop :=
 (∃ kvs k,Rd H a (.dK kvs)/\y=kV k/\r=valV kvs k)\/∃ kvs k b,Rd H a (.dT kvs)/\y=.ref b/\H b=some (.tup (k.map kV))/\r=valV kvs k
def DPut (H:Hp) (a:Addr) (y v:V) (H':Hp):Prop :=
 (∃ kvs k,H a=some (.dK kvs)/\y=kV k/\kvs.length < sizeLine/\H'=upd H a (.dK (putK kvs k v))) \/
 ∃ kvs k b,H a=some (.dT kvs)/\y=.ref b/\H b=some (.tup (k.map kV))/\kvs.length < sizeLine/\H'=upd H a (.dT (putK kvs k v))
theorem DGet.k {H:Hp} {a:Addr} {kvs:List (Key × V)} {k:Key} (e:H a=some (.dK kvs)):DGet H a (kV k) (valV kvs k):=.inl ⟨kvs,k,.inl e,rfl,rfl⟩
theorem DPut.k {H:Hp} {a:Addr} {kvs:List (Key × V)} {k:Key} {v:V} (e:H a=some (.dK kvs)) (hl:kvs.length < sizeLine):DPut H a (kV k) v (upd H a (.dK (putK kvs k v))):=.inl ⟨kvs,k,e,rfl,hl,rfl⟩
section
variable {X:Cx} {pins:List (Addr × Obj)} {σ:St} {H:Hp} {s:Shared} {a:Addr} {y v:V} {u r:Value} {o:Option V} {A:Around} {E:Value->Shared->Prop}
theorem Inv.big (I:Inv X pins σ H s):sysModules < s.heap.objs.size:=by
 have h:mainGlobals < s.heap.objs.size:=(I.mod.glob.keeps I.bk).lt
 exact Nat.lt_trans (by decide) h
theorem d_getItem {Q:Value->Shared->Prop} (hu:A.units+1 < cLine) (I:Inv X pins σ H s) (g:DGet H a y (some v)) (ry:RelV y u) (h:∀ w' s',Inv X pins σ H s'->RelV v w'->Q w' s') :
  wpAny (model X.prog X.w) A (getItem (.ref a) u) Q E s:=by
 rcases g with ⟨kvs,k,e,ey,l⟩ | ⟨kvs,k,b,e,ey,eb,l⟩
 ·subst ey
  obtain ⟨z,hd,vs,rel,dd⟩:=dk_rd I.hok e
  obtain ⟨w',hw,rw'⟩:=RelO.some_of (v:=v) (o:=valueAt vs k) (by rw [l];exact rel.val k)
  exact wpAny_getItem_of (kV_is ry) dd.mapOf hw (h w' _ (I.tok _) rw')
 ·subst ey
  cases (show u=Value.ref b from ry)
  obtain ⟨z,hd,xs,rel,dd⟩:=dt_rd I.hok e
  obtain ⟨w',hw,rw'⟩:=RelO.some_of (v:=v) (o:=(atKey xs k).map (·.2)) (by rw [l];exact rel.val k)
  obtain ⟨p,hp,hp2⟩:=Option.map_eq_some_iff.mp hw
  refine wpAny_getItem_heap (tupleKind_room_in1 hu) (key_of I.hok eb) dd hp ?_
  rw [hp2]
  exact h w' _ (I.tok _) rw'
theorem d_in {Q:Value->Shared->Prop} (hu:A.units+1 < cLine) (I:Inv X pins σ H s) (g:DGet H a y o) (ry:RelV y u) (h:∀ s',Inv X pins σ H s'->Q (.bool o.isSome) s') :
  wpAny (model X.prog X.w) A (compareOp .In u (.ref a)) Q E s:=by
 rcases g with ⟨kvs,k,e,ey,l⟩ | ⟨kvs,k,b,e,ey,eb,l⟩
 ·subst ey
  obtain ⟨z,hd,vs,rel,dd⟩:=dk_rd I.hok e
  refine wpAny_in_of (kV_is ry) hd dd.mapOf ?_
  rw [<- (rel.val k).isSome_eq,<- l]
  exact h _ (I.tok _)
 ·subst ey
  cases (show u=Value.ref b from ry)
  obtain ⟨z,hd,xs,rel,dd⟩:=dt_rd I.hok e
  refine wpAny_in_heap (tupleKind_room_in1 hu) (key_of I.hok eb) hd dd ?_
  have q:=(rel.val k).isSome_eq
  rw [Option.isSome_map] at q
  rw [<- q,<- l]
  exact h _ (I.tok _)
theorem d_notIn {Q:Value->Shared->Prop} (hu:A.units+1 < cLine) (I:Inv X pins σ H s) (g:DGet H a y o) (ry:RelV y u) (h:∀ s',Inv X pins σ H s'->Q (.bool (!o.isSome)) s') :
  wpAny (model X.prog X.w) A (compareOp .NotIn u (.ref a)) Q E s:=by
 rcases g with ⟨kvs,k,e,ey,l⟩ | ⟨kvs,k,b,e,ey,eb,l⟩
 ·subst ey
  obtain ⟨z,hd,vs,rel,dd⟩:=dk_rd I.hok e
  refine wpAny_notIn_of (kV_is ry) hd dd.mapOf ?_
  rw [<- (rel.val k).isSome_eq,<- l]
  exact h _ (I.tok _)
 ·subst ey
  cases (show u=Value.ref b from ry)
  obtain ⟨z,hd,xs,rel,dd⟩:=dt_rd I.hok e
  refine wpAny_notIn_heap (tupleKind_room_in1 hu) (key_of I.hok eb) hd dd ?_
  have q:=(rel.val k).isSome_eq
  rw [Option.isSome_map] at q
  rw [<- q,<- l]
  exact h _ (I.tok _)
theorem d_write {h':Heap} {t':Nat} {ob:HO} (I:Inv X pins σ H s) (mu:Mut (H a)) (hs:Heap.SameBut a s.heap h') (he:∃ q,h'.get? a=some q) (new:ObjOk X.prog X.w (upd H a ob) h' a ob) :
  Inv X pins σ (upd H a ob) { s with heap:=h',toks:=t' } :=
 I.write (x:=a) (e:=a) mu (.inl rfl) (fun b q hb z=>(hs.2 b hb).trans z) he new
theorem dk_new {P:Program} {w:World} {H':Hp} {h':Heap} {kvs:List (Key × V)} {vs:List (Key × Value)} (z:kvs.length<=sizeLine) (hd:(a == sysModules)=false) (rel:KV kvs vs) (dd:h'.DictOf (mixKind P w) a vs) :
  ObjOk P w H' h' a (.dK kvs):=⟨z,hd,vs,rel,dd⟩
theorem d_setItem {H':Hp} {Q:Unit->Shared->Prop} (hu:A.units+1 < cLine) (I:Inv X pins σ H s) (g:DPut H a y v H') (ry:RelV y u) (rv:RelV v r) (h:∀ s',Inv X pins σ H' s'->Q () s') :
  wpAny (model X.prog X.w) A (setItem (.ref a) u r) Q E s:=by
 rcases g with ⟨kvs,k,e,ey,l,eH⟩ | ⟨kvs,k,b,e,ey,eb,l,eH⟩
 ·subst ey eH
  obtain ⟨z,hd,vs,rel,dd⟩:=dk_of I.hok e
  have hz:vs.length<=sizeLine:=by rw [<- rel.length];exact z
  have hl:(putK kvs k v).length<=sizeLine:=by have:=length_putK kvs k v;omega
  refine wpAny_setItem_pairs (hsz:=hz) (kV_is ry) dd fun h' dd' hs=>h _ ?_
  have he:∃ q,h'.get? a=some q:=let ⟨q,_,_,hq,_⟩:=dd';⟨q,hq⟩
  exact d_write I (by rw [e];exact True.intro) hs he (dk_new hl hd (rel.put k rv) dd')
 ·subst ey eH
  cases (show u=Value.ref b from ry)
  obtain ⟨z,hd,xs,rel,dd⟩:=dt_of I.hok e
  have hz:xs.length<=sizeLine:=by rw [<- Paired.length rel];exact z
  have hl:(putK kvs k v).length<=sizeLine:=by have:=length_putK kvs k v;omega
  refine wpAny_setItem_heap (hsz:=hz) (tupleKind_room_in1 hu) (key_of I.hok eb) dd fun h' dd' hs=>h _ ?_
  obtain ⟨q,es,ep,hq,h2,h3,h4,_,h5⟩:=dd'
  refine d_write I (by rw [e];exact True.intro) hs ⟨q,hq⟩ ⟨hl,hd,_,(rel.put k eb rv).keeps fun c ys ec=>?_,q,es,ep,hq,h2,h3,h4,h5⟩
  rw [upd_ne (ne_of ec e (fun z=>nomatch z))]
  exact ec
end
section
variable {X:Cx} {pins:List (Addr × Obj)} {σ:St} {H:Hp} {s:Shared} {a:Addr} {kvs:List (Key × V)} {k:Key} {u:Value} {A:Around} {E:Value->Shared->Prop}
end
def NoSl (i:Expr):Prop:=∀ ov iv,subscripted i false ov iv=operate [ov,iv] (getItem ov iv)
theorem subD_of {prog:Program} {w:World} {A:Around} {E:Value->Shared->Prop} {s:Shared} {env:Env} {value slice:Expr} {pos:Pos} {T id:String} {Q:Value->Shared->Prop}
  (hl:typeLookup (.type T) "__getitem__" = pure (some (.builtin id))) (hs:NoSl slice)
  (h:wpAny (model prog w) A (eval value env) (fun o s₁=>wpAny (model prog w) A (eval slice env) (fun i s₂=>s₂.TypeIs o T/\wpAny (model prog w) A (getItem o i) Q E s₂) E s₁) E s) :
  wpAny (model prog w) A (eval (.Subscript value slice pos) env) Q E s:=by
 refine Subscript_ (wpAny_mono h (fun o s₁ h₁=>wpAny_mono h₁ (fun i s₂ h₂=>?_) fun _ _ x=>x) fun _ _ x=>x)
 obtain ⟨hT,h₂⟩:=h₂
 unfold subscriptTail
 refine wpAny_bind ?_
 rw [getitemInPython_of_ne hT.not_modules]
 refine wpAny_bind (wpAny_specialOf hT hl ?_)
 have fin:wpAny (model prog w) A (subscripted slice false o i) (fun r s₃=>wpAny (model prog w) A (letTemporaryGo value o r >>= fun _=>pure r) Q E s₃) E s₂:=by
  rw [hs o i]
  exact wpAny_operating (wpAny_mono h₂ (fun r s₃ h₃=>wpAny_bind (wpAny_letTemporaryGo (wpAny_pure h₃))) fun _ _ x=>x)
 first
  | exact wpAny_pure (wpAny_bind fin)
  | exact wpAny_bind (wpAny_pure (wpAny_bind fin))
  | exact wpAny_bind fin
theorem dict_typeIs {X:Cx} {pins:List (Addr × Obj)} {σ:St} {H:Hp} {s:Shared} {a:Addr} {y:V} {o:Option V} (I:Inv X pins σ H s) (g:DGet H a y o):s.TypeIs (.ref a) "dict" := by
 rcases g with ⟨kvs,k,e,_,_⟩ | ⟨kvs,k,b,e,_,_,_⟩
 ·obtain ⟨_,_,vs,_,dd⟩:=dk_rd I.hok e
  exact dd.typeIs
 ·obtain ⟨_,_,xs,_,dd⟩:=dt_rd I.hok e
  exact dd.typeIs
def tDGet (td ty:TE):TE:=fun σ H Q=>td σ H fun x H1=>ty σ H1 fun y H2=>∃ a v,x=.ref a/\DGet H2 a y (some v)/\Q v H2
def tDIn (ty td:TE):TE:=fun σ H Q=>ty σ H fun y H1=>td σ H1 fun x H2=>∃ a o,x=.ref a/\DGet H2 a y o/\Q (.bl o.isSome) H2
def tDNotIn (ty td:TE):TE:=fun σ H Q=>ty σ H fun y H1=>td σ H1 fun x H2=>∃ a o,x=.ref a/\DGet H2 a y o/\Q (.bl (!o.isSome)) H2
def sDPut (td ty tv:TE):TS:=fun D σ H=>tv σ H fun v H1=>td σ H1 fun x H2=>ty σ H2 fun y H3=>∃ a H4,x=.ref a/\DPut H3 a y v H4/\D.nx σ H4
section
variable {X:Cx} {o i e value:Expr} {pos pos' tpos:Pos} {td ty tv:TE}
theorem pe_dget (hu:X.A.units+1 < cLine) (ho:PE X o td) (hi:PE X i ty) (hs:NoSl i):PE X (.Subscript o i pos) (tDGet td ty):=by
 intro pins s σ H Q I h
 refine subD_of PySem.F.slot_dict_getitem.lookup hs (thn (ho pins s σ H _ I h) fun u s1 ⟨x,H1,I1,rx,q1⟩=>thn (hi pins s1 σ H1 _ I1 q1) fun iv s2 ⟨y,H2,I2,ry,a,v,ex,g,q2⟩=>?_)
 subst ex
 obtain rfl:u=Value.ref a:=rx
 exact ⟨dict_typeIs I2 g,d_getItem hu I2 g ry fun w' s3 I3 rw'=>⟨v,H2,I3,rw',q2⟩⟩
theorem pc_din (hu:X.A.units+1 < cLine) (hi:PE X i ty) (ho:PE X o td):PC X .In i o (tDIn ty td):=by
 intro pins s σ H Q I h
 refine thn (hi pins s σ H _ I h) fun iv s1 ⟨y,H1,I1,ry,q1⟩=>thn (ho pins s1 σ H1 _ I1 q1) fun u s2 ⟨x,H2,I2,rx,a,ov,ex,g,q2⟩=>?_
 subst ex
 obtain rfl:u=Value.ref a:=rx
 exact d_in hu I2 g ry fun s3 I3=>⟨.bl ov.isSome,H2,I3,rfl,q2⟩
theorem pc_dnotin (hu:X.A.units+1 < cLine) (hi:PE X i ty) (ho:PE X o td):PC X .NotIn i o (tDNotIn ty td):=by
 intro pins s σ H Q I h
 refine thn (hi pins s σ H _ I h) fun iv s1 ⟨y,H1,I1,ry,q1⟩=>thn (ho pins s1 σ H1 _ I1 q1) fun u s2 ⟨x,H2,I2,rx,a,ov,ex,g,q2⟩=>?_
 subst ex
 obtain rfl:u=Value.ref a:=rx
 exact d_notIn hu I2 g ry fun s3 I3=>⟨.bl (!ov.isSome),H2,I3,rfl,q2⟩
theorem ps_dput (hu:X.A.units+1 < cLine) (ho:PE X o td) (hi:PE X i ty) (hv:PE X value tv) (hs:swapsWith value (some (.Subscript o i pos')) pos.line X.env=pure false) :
  PS X (.Assign [.Subscript o i pos'] value pos) (sDPut td ty tv):=by
 intro pins s σ H D I h
 refine wpAny_Assign_Subscript (thn (hv pins s σ H _ I h) fun r s1 ⟨v,H1,I1,rv,q1⟩=>thn (ho pins s1 σ H1 _ I1 q1) fun u s2 ⟨x,H2,I2,rx,q2⟩=>thn (hi pins s2 σ H2 _ I2 q2) fun iv s3 ⟨y,H3,I3,ry,a,H4,ex,g,q3⟩=>?_) hs
 subst ex
 obtain rfl:u=Value.ref a:=rx
 exact d_setItem hu I3 g ry rv fun s4 I4=>⟨σ,H4,I4,q3⟩
end
theorem dk_empty {P:Program} {w:World} {H:Hp} (h:Heap) (hb:sysModules < h.objs.size):ObjOk P w H (h.push { cls:=.type "dict",data:=.dict #[] }) h.objs.size (.dK []) :=
 ⟨Nat.zero_le _,beq_eq_false_iff_ne.mpr (Ne.symm (Nat.ne_of_lt hb)),[],.nil,Heap.DictOf.new h⟩
def tDNewK:TE:=fun _ H Q=>∀ p,H p=none->Q (.ref p) (upd H p (.dK []))
section
variable {X:Cx} {pos:Pos}
theorem pe_dnewK:PE X (.Dict [] [] pos) tDNewK:=fun pins s σ H Q I h =>
 wpAny_Dict_empty ⟨.ref s.heap.objs.size,_,I.laid (a:=s.heap.objs.size) (o:=.dK []) (t':=s.toks) (fun _ _ q=>Heap.get?_push_of_some _ q) (Nat.le_refl _) (dk_empty s.heap I.big),rfl,h _ (I.hok.fresh (Nat.le_refl _))⟩
end
def tPairs:List (TE × TE)->St->Hp->(List (V × V)->Hp->Prop)->Prop
 | [],_,H,Q=>Q [] H
 | (tk,tv)::r,σ,H,Q=>tk σ H fun x H1=>tv σ H1 fun y H2=>tPairs r σ H2 fun ps H3=>Q ((x,y)::ps) H3
abbrev VV:List (V × V)->List (Value × Value)->Prop:=Paired fun p q=>RelV p.1 q.1/\RelV p.2 q.2
def PPs (X:Cx) (pos:Pos) (keys:List (Option Expr)) (values:List Expr) (trs:List (TE × TE)):Prop :=
 ∀ (pins:List (Addr × Obj)) (s:Shared) (σ:St) (H:Hp) (Q:List (V × V)->Hp->Prop),Inv X pins σ H s->tPairs trs σ H Q ->
  wpAny (model X.prog X.w) X.A (evalPairs (pairTrees keys values X.env pos)) (fun vs s'=>∃ ps H',Inv X pins σ H' s'/\VV ps vs/\Q ps H') X.xe s
theorem pps_nil {X:Cx} {pos:Pos}:PPs X pos [] [] []:=fun pins s σ H Q I h=>pairTrees_nil_walk ⟨[],H,I,.nil,h⟩
theorem pps_cons {X:Cx} {pos:Pos} {k v:Expr} {ks:List (Option Expr)} {vs:List Expr} {tk tv:TE} {trs:List (TE × TE)} (hk:PE X k tk) (hv:PE X v tv) (hr:PPs X pos ks vs trs) :
  PPs X pos (some k::ks) (v::vs) ((tk,tv)::trs):=fun pins s σ H Q I h =>
 pairTrees_cons_walk (thn (hk pins s σ H _ I h) fun u s1 ⟨x,H1,I1,rx,q1⟩=>thn (hv pins s1 σ H1 _ I1 q1) fun w2 s2 ⟨y,H2,I2,ry,q2⟩ =>
  thn (hr pins s2 σ H2 _ I2 q2) fun ws s3 ⟨ps,H3,I3,rel,q3⟩=>⟨(x,y)::ps,H3,I3,.cons ⟨rx,ry⟩ rel,q3⟩)
def mergeK (kvs more:List (Key × V)):List (Key × V):=more.foldl (fun acc kv=>putK acc kv.1 kv.2) kvs
theorem KV.merge:∀ {more:List (Key × V)} {rs:List (Key × Value)} {kvs:List (Key × V)} {vs:List (Key × Value)},KV more rs->KV kvs vs->KV (mergeK kvs more) (merged vs rs):=by
 intro more rs kvs vs r
 unfold KV at r
 induction r generalizing kvs vs with
 | nil=>intro q;exact q
 | @cons p q ps qs h t ih =>
  intro r0
  have e:KV (putK kvs p.1 p.2) (stored vs q.1 q.2):=by
   have:=r0.put p.1 h.2
   rw [<- h.1];exact this
  exact ih e
theorem length_mergeK:∀ (more kvs:List (Key × V)),(mergeK kvs more).length<=kvs.length+more.length
 | [],kvs=>by show kvs.length<=kvs.length+0;omega
 | p::r,kvs=>by
  have h1:=length_mergeK r (putK kvs p.1 p.2)
  have h2:=length_putK kvs p.1 p.2
  show (mergeK (putK kvs p.1 p.2) r).length<=_
  rw [List.length_cons];omega
theorem carries_of {P:Program} {w:World}:∀ {kvs:List (Key × V)} {ws:List (Value × Value)},VV (kvs.map fun kv=>(kV kv.1,kv.2)) ws->∃ rs,Carries (mixKind P w) ws rs/\KV kvs rs
 | [],_,r=>by rw [List.map_nil] at r;cases r;exact ⟨[],True.intro,.nil⟩
 | p::kvs,_,r=>by
  rw [List.map_cons] at r
  cases r with
  | @cons a b as bs h t =>
   obtain ⟨rs,c,q⟩:=carries_of (P:=P) (w:=w) t
   obtain ⟨b1,b2⟩:=b
   exact ⟨(p.1,b2)::rs,⟨kV_is h.1,rfl,c⟩,.cons ⟨rfl,h.2⟩ q⟩
def tDisp (trs:List (TE × TE)):TE:=fun σ H Q=>∀ p,H p=none->tPairs trs σ (upd H p (.dK [])) fun ps H2=>H2 p=some (.dK [])/\∃ kvs:List (Key × V),ps=kvs.map (fun kv=>(kV kv.1,kv.2))/\kvs.length<=15/\Q (.ref p) (upd H2 p (.dK (mergeK [] kvs)))
theorem pe_disp {X:Cx} {pos:Pos} {keys:List (Option Expr)} {values:List Expr} {trs:List (TE × TE)} (h:PPs X pos keys values trs) (hall:keys.all (·.isSome)=true) (hl:keys.length=values.length) (h0:keys≠[])
  (h15:keys.length<=15):PE X (.Dict keys values pos) (tDisp trs):=by
 intro pins s σ H Q I q
 have hn:=I.hok.fresh (Nat.le_refl s.heap.objs.size)
 have I1:=I.laid (a:=s.heap.objs.size) (o:=.dK []) (h':=s.heap.push { cls:=.type "dict",data:=.dict #[] }) (t':=s.toks) (fun _ _ q=>Heap.get?_push_of_some _ q) (Nat.le_refl _) (dk_empty s.heap I.big)
 refine wpAny_Dict_walk (knd:=mixKind X.prog X.w) hall hl h0 h15 (thn (h pins _ σ _ _ I1 (q _ hn)) fun ws s2 ⟨ps,H2,I2,rel,e,kvs,ep,lk,q2⟩=>?_)
 subst ep
 obtain ⟨rs,c,rk⟩:=carries_of (P:=X.prog) (w:=X.w) rel
 obtain ⟨z,hd,vs0,r0,dd⟩:=dk_of I2.hok e
 cases r0
 refine ⟨rs,c,dd,fun h' dd' hs=>⟨.ref s.heap.objs.size,_,?_,rfl,q2⟩⟩
 have hz:(mergeK [] kvs).length<=sizeLine:=by
  have h1:=length_mergeK kvs []
  rw [List.length_nil] at h1
  rw [sizeLine_eq];omega
 have he:∃ q,h'.get? s.heap.objs.size=some q:=let ⟨q,_,_,hq,_⟩:=dd';⟨q,hq⟩
 exact d_write I2 (by rw [e];exact True.intro) hs he (dk_new hz hd (rk.merge .nil) dd')
structure M1 (X:Cx) (o:Expr) (m:Str) (apos:Pos) (e:Expr) (cpos:Pos):Prop where
 base:attributeBase o m X.env (eval o X.env)=eval o X.env
 few:((backTo cpos (starEach [e] X.env)).all (fun x=>!x.1) && (backToKw cpos (keywordEach [] X.env)).all (fun x=>x.1.isSome)
  && decide (([e]:List Expr).length+([]:List Keyword).length+(if ([]:List Keyword).isEmpty then 0 else 1) < 30))=true
 line:(apos.endLine == cpos.line)=true
 trees:backTo cpos (starEach [e] X.env)=[(false,eval e X.env)]
def IsD (H:Hp) (a:Addr):Prop:=(∃ kvs,Rd H a (.dK kvs))\/∃ kvs,Rd H a (.dT kvs)
theorem isD_at {X:Cx} {pins:List (Addr × Obj)} {σ:St} {H:Hp} {s:Shared} {a:Addr} (I:Inv X pins σ H s) (d:IsD H a) :
  s.TypeIs (.ref a) "dict" /\ (∀ b,Value.ref a=.ref b->∃ ob,s.heap.get? b=some ob/\ob.dict=none)/\(a == sysModules)=false:=by
 rcases d with ⟨kvs,e⟩ | ⟨kvs,e⟩
 ·obtain ⟨_,hd,vs,_,dd⟩:=dk_rd I.hok e
  refine ⟨dd.typeIs,fun b q=>?_,hd⟩
  cases q
  obtain ⟨ob,_,_,h1,h2,_⟩:=dd
  exact ⟨ob,h1,h2.2.1⟩
 ·obtain ⟨_,hd,xs,_,dd⟩:=dt_rd I.hok e
  refine ⟨dd.typeIs,fun b q=>?_,hd⟩
  cases q
  obtain ⟨ob,_,_,h1,h2,_⟩:=dd
  exact ⟨ob,h1,h2.2.1⟩
section
variable {X:Cx} {pins:List (Addr × Obj)} {σ:St} {H:Hp} {s:Shared} {a:Addr} {y d:V} {u r:Value} {o:Option V} {A:Around} {E:Value->Shared->Prop}
theorem d_get1 {Q:Value->Shared->Prop} (hu:A.units+1 < cLine) (I:Inv X pins σ H s) (g:DGet H a y o) (ry:RelV y u) (h:∀ w' s',Inv X pins σ H s'->RelV (o.getD .non) w'->Q w' s') :
  wpAny (model X.prog X.w) A (call (.builtin "dict.get") [.ref a,u]) Q E s:=by
 rcases g with ⟨kvs,k,e,ey,l⟩ | ⟨kvs,k,b,e,ey,eb,l⟩
 ·subst ey
  obtain ⟨z,hd,vs,rel,dd⟩:=dk_rd I.hok e
  refine call_meetsIn PySem.F.slot_dict_get dd.typeIs PySem.F.entry_dict_get (PySem.F.args_dict_get_2 _ _) (meets_dict_get (mixKind X.prog X.w) a (kV_is ry) hd) ⟨_,dd.mapOf,h _ _ (I.tok _) ?_⟩
  rw [l]
  exact (rel.val k).getD rfl
 ·subst ey
  cases (show u=Value.ref b from ry)
  obtain ⟨z,hd,xs,rel,dd⟩:=dt_rd I.hok e
  refine call_meetsIn PySem.F.slot_dict_get dd.typeIs PySem.F.entry_dict_get (PySem.F.args_dict_get_2 _ _) (meetsH_dict_get (tupleKind (mixKind X.prog X.w)) a b hd) ⟨tupleKind_room_in1 hu,k,xs,key_of I.hok eb,dd,h _ _ (I.tok _) ?_⟩
  rw [l]
  exact (rel.val k).getD rfl
end
section
variable {X:Cx} {o e f:Expr} {apos cpos:Pos} {td ty tx:TE}
end
section
variable {X:Cx} {pins:List (Addr × Obj)} {σ:St} {H:Hp} {s:Shared} {a:Addr} {kvs:List (Key × V)} {A:Around} {E:Value->Shared->Prop}
end
section
variable {X:Cx} {pins:List (Addr × Obj)} {σ:St} {H:Hp} {s:Shared} {a:Addr} {y:V} {u:Value} {A:Around} {E:Value->Shared->Prop}
end
section
variable {X:Cx}
end
section
variable {κ:Type} [DecidableEq κ]
theorem nd_snoc:∀ {l:List κ} {k:κ},l.Nodup->¬ k∈l->(l++[k]).Nodup
 | [],k,_,_=>by simp
 | a::r,k,h,hk=>by
  obtain ⟨h1,h2⟩:=List.nodup_cons.mp h
  show (a::(r++[k])).Nodup
  refine List.nodup_cons.mpr ⟨fun m=>?_,nd_snoc h2 fun m=>hk (List.mem_cons.mpr (Or.inr m))⟩
  rcases List.mem_append.mp m with q | q
  ·exact h1 q
  ·exact hk (List.mem_cons.mpr (Or.inl (List.mem_singleton.mp q).symm))
end
section
variable {M:Model} {A:Around} {E:Value->Shared->Prop} {s:Shared}
def clOf (env:Env):List (Str × NameKind)->List (Str × Addr)->List (Str × Addr)
 | [],acc=>acc
 | (n,k)::r,acc=>if (k == NameKind.free)=true then clOf env r ((n,(env.cells.lookup n).getD 0)::acc) else clOf env r acc
theorem clOf_loop {env:Env} (f:Str × NameKind->List (Str × Addr)->Sem (ForInStep (List (Str × Addr))))
  (hf:∀ n k cs,f (n,k) cs=if (k == NameKind.free)=true then (do let a <- cellOf env n;pure (.yield ((n,a)::cs))) else pure (.yield cs)) :
  ∀ (names:List (Str × NameKind)) (acc:List (Str × Addr)),(∀ p∈names,p.2=.free->∃ c,env.cells.lookup p.1=some c)->forIn names acc f=pure (clOf env names acc)
 | [],acc,_=>by rw [List.forIn_nil];rfl
 | (n,k)::r,acc,h=>by
  have hr:∀ p∈r,p.2=.free->∃ c,env.cells.lookup p.1=some c:=fun p hp=>h p (List.mem_cons_of_mem _ hp)
  rw [List.forIn_cons,hf,clOf]
  by_cases hk:(k == NameKind.free)=true
  ·obtain ⟨c,hc⟩:=h (n,k) List.mem_cons_self (by simpa using hk)
   have hc':env.cells.lookup n=some c:=hc
   rw [if_pos hk,if_pos hk]
   have e:cellOf env n=pure c:=by unfold cellOf;rw [hc']
   rw [e,hc']
   exact clOf_loop f hf r _ hr
  ·rw [if_neg hk,if_neg hk]
   exact clOf_loop f hf r _ hr
theorem closureFor_of {sc:Scope} {env:Env} (h:∀ p∈sc.names,p.2=.free->∃ c,env.cells.lookup p.1=some c):closureFor sc env=pure (clOf env sc.names []):=by
 unfold closureFor
 have e:=clOf_loop (env:=env) (fun (x:Str × NameKind) (r:List (Str × Addr))=>if (x.2 == NameKind.free)=true then (do let a <- cellOf env x.1;pure (ForInStep.yield ((x.1,a)::r))) else pure (ForInStep.yield r)) (fun _ _ _=>rfl) sc.names [] h
 exact (congrArg (fun m=>m >>= fun cs=>pure cs) e)
theorem clOf_mem {env:Env} {x:Str} {c:Addr}:∀ {names:List (Str × NameKind)} {acc:List (Str × Addr)},(x,c)∈clOf env names acc->(x,c)∈acc\/((x,NameKind.free)∈names/\c=(env.cells.lookup x).getD 0)
 | [],_,h=>.inl h
 | (n,k)::r,acc,h=>by
  unfold clOf at h
  split at h
  ·rename_i hk
   have hk':k=.free:=by simpa using hk
   rcases clOf_mem h with q | ⟨q,e⟩
   ·rcases List.mem_cons.mp q with q | q
    ·cases q;exact .inr ⟨by rw [hk'];exact List.mem_cons_self,rfl⟩
    ·exact .inl q
   ·exact .inr ⟨List.mem_cons_of_mem _ q,e⟩
  ·rcases clOf_mem h with q | ⟨q,e⟩
   ·exact .inl q
   ·exact .inr ⟨List.mem_cons_of_mem _ q,e⟩
theorem lookup_mem_some {β:Type} {x:Str} {c:β}:∀ {l:List (Str × β)},(x,c)∈l->∃ c',l.lookup x=some c'
 | [],h=>nomatch h
 | (n,k)::r,h=>by
  cases hx:x == n with
  | true=>exact ⟨k,by simp [List.lookup_cons,hx]⟩
  | false =>
   rcases List.mem_cons.mp h with q | q
   ·cases q;simp at hx
   ·obtain ⟨c',e⟩:=lookup_mem_some q
    exact ⟨c',by simp [List.lookup_cons,hx,e]⟩
theorem clOf_has {env:Env} {x:Str}:∀ {names:List (Str × NameKind)} {acc:List (Str × Addr)},((x,NameKind.free)∈names\/∃ c,(x,c)∈acc)->∃ c,(x,c)∈clOf env names acc
 | [],acc,h=>by
  rcases h with h | ⟨c,h⟩
  ·exact nomatch h
  ·exact ⟨c,h⟩
 | (n,k)::r,acc,h=>by
  unfold clOf
  split
  ·rename_i hk
   apply clOf_has
   rcases h with h | ⟨c,h⟩
   ·rcases List.mem_cons.mp h with q | q
    ·cases q;exact .inr ⟨_,List.mem_cons_self⟩
    ·exact .inl q
   ·exact .inr ⟨c,List.mem_cons_of_mem _ h⟩
  ·rename_i hk
   apply clOf_has
   rcases h with h | ⟨c,h⟩
   ·rcases List.mem_cons.mp h with q | q
    ·cases q;simp at hk
    ·exact .inl q
   ·exact .inr ⟨c,h⟩
theorem cellsFrom_append:∀ (names:List (Str × NameKind)) (n:Nat) (acc:List (Str × Addr)),cellsFrom n names acc=cellsFrom n names []++acc
 | [],_,_=>rfl
 | (x,k)::r,n,acc=>by
  unfold cellsFrom
  split
  ·rw [cellsFrom_append r (n+1) ((x,n)::acc),cellsFrom_append r (n+1) [(x,n)]];simp
  ·exact cellsFrom_append r n acc
theorem cellsFrom_mem {x:Str} {c:Addr}:∀ {names:List (Str × NameKind)} {n:Nat} {acc:List (Str × Addr)},(x,c)∈cellsFrom n names acc->(x,c)∈acc\/(x,NameKind.cell)∈names
 | [],_,_,h=>.inl h
 | (m,k)::r,n,acc,h=>by
  unfold cellsFrom at h
  split at h
  ·rename_i hk
   have hk':k=.cell:=by simpa using hk
   rcases cellsFrom_mem h with q | q
   ·rcases List.mem_cons.mp q with q | q
    ·cases q;exact .inr (by rw [hk'];exact List.mem_cons_self)
    ·exact .inl q
   ·exact .inr (List.mem_cons_of_mem _ q)
  ·rcases cellsFrom_mem h with q | q
   ·exact .inl q
   ·exact .inr (List.mem_cons_of_mem _ q)
theorem cellsFrom_has {x:Str}:∀ {names:List (Str × NameKind)} {n:Nat} {acc:List (Str × Addr)},((x,NameKind.cell)∈names\/∃ c,(x,c)∈acc)->∃ c,(x,c)∈cellsFrom n names acc
 | [],n,acc,h=>by
  rcases h with h | ⟨c,h⟩
  ·exact nomatch h
  ·exact ⟨c,h⟩
 | (m,k)::r,n,acc,h=>by
  unfold cellsFrom
  split
  ·apply cellsFrom_has
   rcases h with h | ⟨c,h⟩
   ·rcases List.mem_cons.mp h with q | q
    ·cases q;exact .inr ⟨_,List.mem_cons_self⟩
    ·exact .inl q
   ·exact .inr ⟨c,List.mem_cons_of_mem _ h⟩
  ·rename_i hk
   apply cellsFrom_has
   rcases h with h | ⟨c,h⟩
   ·rcases List.mem_cons.mp h with q | q
    ·cases q;simp at hk
    ·exact .inl q
   ·exact .inr ⟨c,h⟩
theorem lookup_app {β:Type} {x:Str}:∀ (l1 l2:List (Str × β)),(l1++l2).lookup x=(l1.lookup x).or (l2.lookup x)
 | [],_=>by simp
 | (n,k)::r,l2=>by
  cases hx:x == n with
  | true=>simp [List.lookup_cons,hx]
  | false=>simp [List.lookup_cons,hx,lookup_app r l2]
theorem newEnv_comp {scope:Scope} {globals:Addr} {cl:List (Str × Addr)} {qual:Str} {env:Env} {Q:Env->Shared->Prop}
  (hQ:Q { scope,locals:=s.heap.objs.size,globals,cells:=cellsFrom (s.heap.objs.size+1) scope.names cl,qual,func:=none,code:=env.code,frame:=env.frame,builtins:=env.builtins }
   { s with heap:=pushCells (s.heap.push { cls:=.type "dict",data:=.dict #[] }) scope.names }) :
  wpAny M A (newFunctionEnv scope globals cl [] qual none .none (some env)) Q E s:=by
 have z:(s.heap.push { cls:=.type "dict",data:=.dict #[] }).objs.size=s.heap.objs.size+1:=Heap.size_push ..
 show wpAny M A (alloc { cls:=.type "dict",data:=.dict #[] } >>= _) Q E s
 apply wpAny_bind;apply wpAny_alloc;apply wpAny_bind
 refine wpAny_layCells _ (fun _ k _=>by by_cases y:k=NameKind.cell<;>simp [y]) _ _ _ _ ?_
 dsimp only
 rw [List.forIn_nil,z]
 exact wpAny_bind (wpAny_pure (wpAny_pure hQ))
theorem lookup_relabel {env:Env} {x:Str}:∀ (names:List (Str × NameKind)),
  (names.map fun (n,k)=>if (k == NameKind.free && env.scope.kind == .function && env.kindOf n == some .cell) then (n,NameKind.cell) else (n,k)).lookup x =
   (names.lookup x).map fun k=>if (k == NameKind.free && env.scope.kind == .function && env.kindOf x == some .cell)=true then NameKind.cell else k
 | []=>by simp
 | (n,k)::r=>by
  have ih:=lookup_relabel (env:=env) (x:=x) r
  cases hx:x == n with
  | true =>
   have e:x=n:=by simpa using hx
   subst e
   rw [List.map_cons]
   dsimp only
   by_cases hc:(k == NameKind.free && env.scope.kind == .function && env.kindOf x == some .cell)=true
   ·rw [if_pos hc,List.lookup_cons,List.lookup_cons,hx];dsimp only [Option.map_some];rw [if_pos hc]
   ·rw [if_neg hc,List.lookup_cons,List.lookup_cons,hx];dsimp only [Option.map_some];rw [if_neg hc]
  | false =>
   rw [List.map_cons]
   dsimp only
   by_cases hc:(k == NameKind.free && env.scope.kind == .function && env.kindOf n == some .cell)=true
   ·rw [if_pos hc,List.lookup_cons,List.lookup_cons,hx];exact ih
   ·rw [if_neg hc,List.lookup_cons,List.lookup_cons,hx];exact ih
end
def cxC (X:Cx) (own:List Str) (fr:List Nat) (scope:Scope) (s2:Shared) (H2:Hp) (fp:List Addr):Cx where
 prog:=X.prog
 w:=X.w
 K:=X.K
 mg:=X.mg
 base:=X.base
 A:=X.A
 N:=own++fr.map (fun i=>X.N.getD i Str.empty)
 s₀:=s2
 H₀:=H2
 env:={ scope:=relabel scope X.env,locals:=s2.heap.objs.size+1,globals:=X.env.globals,cells:=cellsFrom (s2.heap.objs.size+2) scope.names (clOf X.env scope.names []),qual:=X.env.qual,func:=none,code:=X.env.code,frame:=X.env.frame,builtins:=X.env.builtins }
 outer:=X.stack
 stack:=X.stack
 ex:=fp
 fn:=fun x=>scope.names.lookup x == some .cell
 calm:=X.calm
 pn:=[]
 xe:=fun _ _=>False
def cSt (own:List Str) (fr:List Nat) (σ:St):St:=List.replicate own.length none++fr.map fun i=>(σ[i]?).join
def compOk (osc:List (Str × NameKind)) (N:List Str) (own:List Str) (fr:List Nat) (sc:Scope):Bool :=
 decide (sc.kind=.function) && decide ((sc.names.map (·.1)).Nodup) &&
 sc.names.all (fun y=>!(y.2 == .free) || (osc.lookup y.1 == some .cell || osc.lookup y.1 == some .free)) &&
 fr.all (fun i=>decide (i < N.length) && (sc.names.lookup (N.getD i Str.empty) == some .free))
structure CompSc (X:Cx) (own:List Str) (fr:List Nat) (sc:Scope):Prop where
 kind:sc.kind=.function
 nd:(sc.names.map (·.1)).Nodup
 fre:∀ y∈sc.names,y.2=.free->X.env.scope.names.lookup y.1=some .cell\/X.env.scope.names.lookup y.1=some .free
 frl:∀ i∈fr,i < X.N.length
 frv:∀ i∈fr,sc.names.lookup (X.N.getD i Str.empty)=some .free
theorem compSc {X:Cx} {own:List Str} {fr:List Nat} {sc:Scope} {osc:List (Str × NameKind)} {N:List Str} (h1:X.env.scope.names=osc) (h2:X.N=N) (h:compOk osc N own fr sc=true):CompSc X own fr sc:=by
 unfold compOk at h
 simp only [Bool.and_eq_true,decide_eq_true_eq,List.all_eq_true] at h
 obtain ⟨⟨⟨h3,h4⟩,h5⟩,h6⟩:=h
 refine ⟨h3,h4,fun y hy hf=>?_,fun i hi=>?_,fun i hi=>?_⟩
 ·have:=h5 y hy
  rw [h1]
  simpa [hf] using this
 ·rw [h2];exact (h6 i hi).1
 ·rw [h2];simpa using (h6 i hi).2
theorem lookup_of_mem_nd {x:Str} {k:NameKind}:∀ {l:List (Str × NameKind)},(l.map (·.1)).Nodup->(x,k)∈l->l.lookup x=some k
 | [],_,h=>nomatch h
 | (n,q)::r,nd,h=>by
  rcases List.mem_cons.mp h with e | e
  ·cases e;simp [List.lookup_cons]
  ·have nd':=List.nodup_cons.mp nd
   have hne:(x == n)=false:=by
    have:x≠n:=fun z=>nd'.1 (by rw [<- z];exact List.mem_map.mpr ⟨_,e,rfl⟩)
    simpa using this
   rw [List.lookup_cons,hne]
   exact lookup_of_mem_nd nd'.2 e
section
variable {X:Cx} {pins:List (Addr × Obj)} {σ:St} {H:Hp} {s:Shared} {own:List Str} {fr:List Nat} {sc:Scope} {fp:List Addr}
abbrev hC (s:Shared) (sc:Scope) (h1:Heap):Heap:=pushCells (h1.push { cls:=.type "dict",data:=.dict #[] }) sc.names
theorem inv_comp (I : Inv X pins σ H s) (S : CompSc X own fr sc) (hfp : ∀ b ∈ fp, FpOk X pins H b) {h1 : Heap} (hz : h1.objs.size = s.heap.objs.size + 1) (hk : ∀ b o, s.heap.get? b = some o → h1.get? b = some o) (hfl : ∀ b ∈ fp, @LT.lt Nat _ b s.heap.objs.size) :
    Inv (cxC X own fr sc s H fp) [] (cSt own fr σ) H { s with heap := hC s sc h1 } := by
  have kk : ∀ b o, s.heap.get? b = some o → (hC s sc h1).get? b = some o := fun b o e => pushCells_keeps _ _ b o (Heap.get?_push_of_some _ (hk b o e))
  have nsC : (hC s sc h1).Ns (s.heap.objs.size + 1) (fun _ => none) := by
    have q := (Heap.Ns.new h1 (.type "dict")).keeps (pushCells_keeps sc.names _)
    rw [hz] at q
    exact q
  have ok := cellsFrom_ok sc.names (h1.push { cls := .type "dict", data := .dict #[] }) (s.heap.objs.size + 2) [] ⟨fun _ _ hm => (nomatch hm), List.Pairwise.nil⟩ (by rw [Heap.size_push, hz]; exact Nat.le_refl _)
  rw [Heap.size_push, hz] at ok
  have fcell : ∀ y ∈ sc.names, y.2 = .free → ∃ c, X.env.cells.lookup y.1 = some c := fun y hy hf => I.ok.has y.1 (by
    rcases S.fre y hy hf with q | q
    · exact .inl q
    · exact .inr q)
  have old : ∀ x c, (clOf X.env sc.names []).lookup x = some c → X.env.cells.lookup x = some c ∧ (x, NameKind.free) ∈ sc.names := fun x c e => by
    rcases clOf_mem (PySem.mem_of_lookup e) with q | ⟨q, e2⟩
    · exact nomatch q
    · obtain ⟨c', e3⟩ := fcell _ q rfl
      have e3' : X.env.cells.lookup x = some c' := e3
      rw [e3'] at e2
      have : c = c' := e2
      subst this
      exact ⟨e3', q⟩
  have cs : ∀ x c, (cxC X own fr sc s H fp).env.cells.lookup x = some c → ((cellsFrom (s.heap.objs.size + 2) sc.names []).lookup x = some c ∧ @LE.le Nat _ (s.heap.objs.size + 2) c) ∨ (X.env.cells.lookup x = some c ∧ (x, NameKind.free) ∈ sc.names ∧ @LT.lt Nat _ c s.heap.objs.size) := fun x c e => by
    have e' : (cellsFrom (s.heap.objs.size + 2) sc.names (clOf X.env sc.names [])).lookup x = some c := e
    rw [cellsFrom_append, lookup_app] at e'
    cases q : (cellsFrom (s.heap.objs.size + 2) sc.names []).lookup x with
    | some c' =>
      rw [q] at e'
      have : c' = c := by simpa using e'
      subst this
      exact .inl ⟨rfl, (ok.empty x c' (PySem.mem_of_lookup q)).2⟩
    | none =>
      rw [q] at e'
      obtain ⟨e1, e2⟩ := old x c (by simpa using e')
      obtain ⟨v, hv⟩ := I.cell x c e1
      exact .inr ⟨e1, e2, hv.lt⟩
  have okY : (cxC X own fr sc s H fp).Ok := by
    refine ⟨I.ok.mod, S.kind, I.ok.glob, I.ok.blt, Nat.le_succ _, fun x y c h1 h2 => ?_, fun x hx => ?_, fun x c hf e => ?_, I.ok.hd, I.ok.frames, .inl rfl, fun b hb => ⟨?_, fun x c e => ?_⟩, fun b o e => I.bs b o e, Nat.le_trans I.ok.bsz I.sz, fun b o e hb => ?_, fun b hb z => ?_, I.stack, I.stkFree⟩
    · rcases cs x c h1 with ⟨q1, g1⟩ | ⟨q1, _, g1⟩
      · rcases cs y c h2 with ⟨q2, g2⟩ | ⟨q2, _, g2⟩
        · exact name_of_addr ok.apart (PySem.mem_of_lookup q1) (PySem.mem_of_lookup q2)
        · omega
      · rcases cs y c h2 with ⟨q2, g2⟩ | ⟨q2, _, g2⟩
        · omega
        · exact I.ok.inj x y c q1 q2
    · -- a cell or free name of the block has its cell
      have hx' : (relabel sc X.env).names.lookup x = some .cell ∨ (relabel sc X.env).names.lookup x = some .free := hx
      have hl : sc.names.lookup x = some .cell ∨ sc.names.lookup x = some .free := by
        unfold relabel at hx'
        rw [lookup_relabel] at hx'
        cases q : sc.names.lookup x with
        | none => rw [q] at hx'; simp at hx'
        | some k =>
          rw [q] at hx'
          cases k <;> simp at hx' ⊢
      have hm : ∃ c, (x, c) ∈ cellsFrom (s.heap.objs.size + 2) sc.names (clOf X.env sc.names []) := by
        rcases hl with hl | hl
        · exact cellsFrom_has (.inl (PySem.mem_of_lookup hl))
        · exact cellsFrom_has (.inr (clOf_has (.inl (PySem.mem_of_lookup hl))))
      obtain ⟨c, hm⟩ := hm
      exact lookup_mem_some hm
    · have hf' : sc.names.lookup x = some .cell := by simpa using (show (sc.names.lookup x == some .cell) = true from hf)
      show @LE.le Nat _ s.heap.objs.size c
      rcases cs x c e with ⟨_, g⟩ | ⟨_, q, _⟩
      · omega
      · rw [lookup_of_mem_nd S.nd q] at hf'; cases hf'
    · have := hfl b hb
      show @Ne Nat b (s.heap.objs.size + 1)
      omega
    · intro z
      subst z
      rcases cs x c e with ⟨_, g⟩ | ⟨q, _, _⟩
      · have := hfl c hb; omega
      · exact (hfp c hb).2.2.2.2.1 x c q rfl
    · rcases (hfp b hb).2.2.2.1 with z | z
      · exact I.ok.noex b o e z
      · have z1 : @LT.lt Nat _ b X.base.objs.size := Heap.lt_size e
        have z2 : X.base.objs.size ≤ X.s₀.heap.objs.size := I.ok.bsz
        have z3 : @LE.le Nat _ X.s₀.heap.objs.size b := z
        omega
    · rcases List.mem_cons.mp (I.stkSub b z) with e | e
      · exact (hfp b hb).2.1 e
      · exact (hfp b hb).2.2.1 e
  refine ⟨okY, rfl, I.bare, Un.kept kk, ⟨_, nsC, fun i x v h1 h2 h3 => ?_⟩, fun x c e => ?_, I.hok.fresh (Nat.le_succ _), fun x c e => ?_, fun p hp => absurd (show p ∈ ([] : List (Addr × Obj)) from hp) (by simp), I.hok.kept kk, ?_⟩
  · -- an outer name that is read
    have hi : own.length ≤ i := by
      by_cases hi : i < own.length
      · exfalso
        unfold cSt at h2
        rw [List.getElem?_append_left (by simpa using hi), List.getElem?_replicate] at h2
        split at h2 <;> cases h2
      · omega
    have h1' : (own ++ fr.map (fun i => X.N.getD i Str.empty))[i]? = some x := h1
    rw [List.getElem?_append_right hi, List.getElem?_map] at h1'
    unfold cSt at h2
    rw [List.getElem?_append_right (by simpa using hi), List.getElem?_map, List.length_replicate] at h2
    cases e : fr[i - own.length]? with
    | none => rw [e] at h1'; cases h1'
    | some k =>
      rw [e] at h1' h2
      have hkm : k ∈ fr := List.mem_of_getElem? e
      have ex : X.N.getD k Str.empty = x := by simpa using h1'
      have ev : (σ[k]?).join = some v := by simpa using h2
      have hkl := S.frl k hkm
      have eN : X.N[k]? = some x := by rw [← ex]; simp [List.getD, hkl]
      have eσ : σ[k]? = some (some v) := by
        cases q : σ[k]? with
        | none => rw [q] at ev; cases ev
        | some o => rw [q] at ev; cases o with
          | none => cases ev
          | some v' => have : v' = v := by simpa using ev
                       subst this; rfl
      have hfr := S.frv k hkm
      rw [ex] at hfr
      have hmem : (x, NameKind.free) ∈ sc.names := PySem.mem_of_lookup hfr
      have hkd := S.fre _ hmem rfl
      have hkd' : X.env.scope.names.lookup x = some .cell ∨ X.env.scope.names.lookup x = some .free := hkd
      obtain ⟨m, hn, hl⟩ := I.loc
      obtain ⟨u, r, l⟩ := hl k x v eN eσ (hkd'.elim (fun z => .inr (.inl z)) fun z => .inr (.inr z))
      refine ⟨u, r, ?_⟩
      rcases l with ⟨z, _⟩ | ⟨_, c, hc, hcell⟩
      · exfalso
        have z' : X.env.scope.names.lookup x = some .local := z
        rcases hkd' with q | q <;> (rw [q] at z'; cases z')
      · refine .inr ⟨?_, c, ?_, hcell.keeps kk⟩
        · show (relabel sc X.env).names.lookup x = some .cell ∨ (relabel sc X.env).names.lookup x = some .free
          unfold relabel
          rw [lookup_relabel, hfr]
          simp only [Option.map_some]
          split
          · exact .inl rfl
          · exact .inr rfl
        · show (cellsFrom (s.heap.objs.size + 2) sc.names (clOf X.env sc.names [])).lookup x = some c
          rw [cellsFrom_append, lookup_app]
          have h0 : (cellsFrom (s.heap.objs.size + 2) sc.names []).lookup x = none := by
            cases q : (cellsFrom (s.heap.objs.size + 2) sc.names []).lookup x with
            | none => rfl
            | some c' =>
              exfalso
              rcases cellsFrom_mem (PySem.mem_of_lookup q) with z | z
              · exact nomatch z
              · rw [lookup_of_mem_nd S.nd z] at hfr; cases hfr
          rw [h0]
          obtain ⟨c', hm'⟩ := clOf_has (env := X.env) (acc := []) (.inl hmem)
          obtain ⟨c2, e2⟩ := lookup_mem_some hm'
          obtain ⟨e3, _⟩ := old x c2 e2
          rw [hc] at e3
          rw [e2]
          simpa using e3.symm
  · rcases cs x c e with ⟨q, _⟩ | ⟨q, _, _⟩
    · exact ⟨_, (ok.empty x c (PySem.mem_of_lookup q)).1⟩
    · obtain ⟨v, hv⟩ := I.cell x c q
      exact ⟨v, hv.keeps kk⟩
  · rcases cs x c e with ⟨_, g⟩ | ⟨q, _, _⟩
    · exact I.hok.fresh (by omega)
    · exact I.freeC x c q
  · unfold cSt
    show _ = (own ++ fr.map (fun i => X.N.getD i Str.empty)).length
    simp
theorem inv_back {own:List Str} {fr:List Nat} {sc:Scope} {fp:List Addr} {H1:Hp} {s1:Shared} {σ1:St} {pins1:List (Addr × Obj)} {h':Heap} {o:HO} {D:Addr}
  (I:Inv X pins σ H s) (hfp:∀ b∈fp,FpOk X pins H b) (I1:Inv (cxC X own fr sc s H fp) pins1 σ1 H1 s1) (hD:@LE.le Nat _ s.heap.objs.size D) (hDn:H1 D=none) (hDC:D≠s.heap.objs.size+1)
  (hs:Heap.SameBut (s.heap.objs.size+1) s1.heap h') (hO:ObjOk X.prog X.w (upd H1 D o) h' D o) (tk:Nat):Inv X pins σ (upd H1 D o) { s1 with heap:=h',toks:=tk }:=by
 have u:=I1.base
 have hCn:H1 (s.heap.objs.size+1)=none:=I1.free
 have hDo:∀ b ob,s.heap.get? b=some ob->b≠D:=fun b ob e z=>by
  have:=Heap.lt_size e
  have z':@Eq Nat b D:=z
  have q:@LT.lt Nat _ b s.heap.objs.size:=this
  omega
 have hCo:∀ b ob,s.heap.get? b=some ob->b≠s.heap.objs.size+1:=fun b ob e z=>by
  have q:@LT.lt Nat _ b s.heap.objs.size:=Heap.lt_size e
  have z':@Eq Nat b (s.heap.objs.size+1):=z
  omega
 have hDs:H D=none:=I.hok.fresh hD
 have cut:∀ b ob,s.heap.get? b=some ob->∀ oc,s1.heap.get? b=some oc->h'.get? b=some oc:=fun b ob e oc q=>(hs.2 b (hCo b ob e)).trans q
 refine Inv.call' (ch:=fp) I (s':={ s1 with heap:=h',toks:=tk }) I1.os ?_ ?_ I1.bare fun b hb=>⟨(hfp b hb).2.2.2.1,(hfp b hb).2.1,(hfp b hb).2.2.2.2.1,(hfp b hb).2.2.2.2.2⟩
 ·refine ⟨fun b ob e n hb hx=>cut b ob e _ (u.keep b ob e n hb hx),fun b ob e n hb hx=>?_,fun b ob e n hx=>?_,fun b ob e hx=>?_,fun b xs e=>?_,fun b ob xs e=>?_,fun b ps e=>?_⟩
  ·obtain ⟨sl,q⟩:=u.slot b ob e n hb hx
   exact ⟨sl,cut b ob e _ q⟩
  ·rw [upd_ne (hDo b ob e)];exact u.free b ob e n hx
  ·obtain ⟨o',q⟩:=u.there b ob e hx
   exact ⟨o',cut b ob e _ q⟩
  ·rw [upd_ne (ne_of_none e hDs)];exact u.tups b xs e
  ·rw [upd_ne (ne_of_none e hDs)];exact u.frzs b ob xs e
  ·rw [upd_ne (ne_of_none e hDs)];exact u.tbls b ps e
 ·intro b ob e
  by_cases hb:b=D
  ·subst hb;rw [upd_same] at e;cases e;exact hO
  ·rw [upd_ne hb] at e
   refine (I1.hok b ob e).stay (fun c q hc g=>?_) (fun c q=>by rw [upd_ne (ne_of_none q hDn)];exact q) fun c xs q=>by rw [upd_ne (ne_of_none q hDn)];exact q
   refine (hs.2 c ?_).trans g
   rcases hc with z | z
   ·rw [z];exact ne_of_none e hCn
   ·exact ne_of_none z hCn
end
abbrev Nev:Value->Shared->Prop:=fun _ _=>False
def oneTest (env:Env) (c:Expr) (b:Bool):Sem (ForInStep Bool) :=
 if b=true then (isTrue c env (eval c env) >>= fun b'=>pure (.yield b')) else pure (.yield b)
def allTests (env:Env) (cs:List Expr):Sem Bool:=forIn cs true (oneTest env)
structure Blk where
 add:Expr
 tgt:Expr
 src:Expr
 cs:List Expr
 sc:Scope
 pos:Pos
namespace Blk
variable (B:Blk)
abbrev expr:Expr:=.ListComp B.add [⟨B.tgt,B.src,B.cs,0⟩] B.sc B.pos
section
variable (prog:Program) (w:World) (A:Around) (env:Env) (it acc:Value)
abbrev Tame {α:Type} (e:Sem α) (Q:α->Shared->Prop) (s:Shared):Prop:=wpAny (model prog w) A e Q Nev s
def Lays (J:Shared->Prop):Bool->Shared->Prop
 | false,s=>J s
 | true,s=>Tame prog w A (eval B.add env) (fun x=>Tame prog w A (call (.builtin "list.append") [acc,x]) fun _=>J) s
def Takes (J:Shared->Prop) (v:Value):Shared->Prop :=
 Tame prog w A (letOwnedTupleGo B.tgt it v) fun _=>Tame prog w A (assign B.tgt env v) fun _=>Tame prog w A (allTests env B.cs) (B.Lays prog w A env acc J)
def Next (D J:Shared->Prop):Option Value->Shared->Prop
 | none=>D
 | some v=>B.Takes prog w A env it acc J v
end
theorem loops {B:Blk} {prog:Program} {w:World} {A:Around} {env:Env} {it acc:Value} {R:Result->Shared->Prop} (G:Nat->Shared->Prop)
  (turn:∀ k t,G k t->Tame prog w A (pyNext it) (B.Next prog w A env it acc (R (.ok .next)) fun u=>∃ j,j < k/\G j u) t)
  {k:Nat} {t:Shared} (g:G k t):codeAny (model prog w) A (.compLoop B.expr 0 it acc env) R t:=by
 have one:∀ k t,G k t->Tame prog w A (compTurn B.expr 0 it acc env) (fun x t'=>match x with | .done r=>R (.ok r) t' | .again c=>c=.compLoop B.expr 0 it acc env/\∃ j,j < k/\G j t') t:=by
  intro k t g
  rw [show B.expr=.ListComp B.add [⟨B.tgt,B.src,B.cs,0⟩] B.sc B.pos from rfl,compTurn_list]
  apply wpAny_bind;apply wpAny_standAt;apply wpAny_bind
  refine thn (turn k t g) fun x t1 h1=>?_
  match x,h1 with
  | none,h1=>exact wpAny_pure h1
  | some v,h1 =>
   apply wpAny_bind;refine thn h1 fun _ t2 h2=>?_
   apply wpAny_bind;refine thn h2 fun _ t3 h3=>?_
   apply wpAny_bind;refine thn h3 fun b t4 h4=>?_
   match b,h4 with
   | false,h4=>exact wpAny_pure ⟨rfl,h4⟩
   | true,h4 =>
    apply wpAny_bind;apply wpAny_bind
    refine thn h4 fun y t5 h5=>?_
    apply wpAny_bind
    refine thn h5 fun _ t6 h6=>?_
    exact wpAny_pure (wpAny_pure ⟨rfl,h6⟩)
 exact codeAny_loop rfl G (fun k t g=>wpAny_noted (wpAny_mono (one k t g) (fun _ _ q=>q) fun _ _ f=>f.elim)) k g
end Blk
def PIfs (X:Cx) (ifs:List Expr) (t:TT):Prop :=
 ∀ (pins:List (Addr × Obj)) (s:Shared) (σ:St) (H:Hp) (Q:Bool->Hp->Prop),Inv X pins σ H s->t σ H Q ->
  wpAny (model X.prog X.w) X.A (allTests X.env ifs) (TP X pins σ Q) X.xe s
def tYes:TT:=fun _ H Q=>Q true H
theorem pifs_nil {X:Cx}:PIfs X [] tYes:=fun _ _ _ H _ I h=>wpAny_tests_nil ⟨H,I,h⟩
theorem pifs_one {X:Cx} {c:Expr} {t:TT} (h:PT X c t):PIfs X [c] t:=fun pins s σ H Q I q=>wpAny_tests_one (h pins s σ H Q I q)
def GK (n:Nat) (g:TG):Prop:=∀ v σ H Q,g v σ H Q->g v σ H fun σ' H'=>Q σ' H'/\σ'.length=σ.length/\∀ j,n<=j->σ'[j]?=σ[j]?
def GKs (n:Nat) (g:TGs):Prop:=∀ vs σ H Q,g vs σ H Q->g vs σ H fun σ' H'=>Q σ' H'/\σ'.length=σ.length/\∀ j,n<=j->σ'[j]?=σ[j]?
theorem gk_name {n i:Nat} (h:i < n):GK n (gName i):=fun v σ H Q q=>⟨q,by simp,fun j hj=>by rw [List.getElem?_set_ne (by omega)]⟩
theorem gks_nil {n:Nat}:GKs n gNil:=fun vs σ H Q q=>⟨q.1,q.2,rfl,fun _ _=>rfl⟩
theorem gks_cons {n:Nat} {t:TG} {u:TGs} (m:∀ v σ H Q Q',(∀ σ' H',Q σ' H'->Q' σ' H')->t v σ H Q->t v σ H Q') (mu:∀ v σ H Q Q',(∀ σ' H',Q σ' H'->Q' σ' H')->u v σ H Q->u v σ H Q') (h1:GK n t) (h2:GKs n u):GKs n (gCons t u):=fun vs σ H Q ⟨v,r,e,q⟩ =>
 ⟨v,r,e,m _ _ _ _ _ (fun σ' H' ⟨q',l1,k1⟩=>mu _ _ _ _ _ (fun σ2 H2 ⟨q2,l2,k2⟩=>⟨q2,l2.trans l1,fun j hj=>(k2 j hj).trans (k1 j hj)⟩) (h2 _ _ _ _ q')) (h1 _ _ _ _ q)⟩
theorem gk_tup {K:PySem.W.Frag} {n k:Nat} {t:TGs} (h:GKs n t):GK n (gTup K k t):=fun v σ H Q ⟨a,xs,e,sq,l,q⟩=>⟨a,xs,e,sq,l,h _ _ _ _ q⟩
theorem gn_mono {i:Nat}:∀ v σ H Q Q',(∀ σ' H',Q σ' H'->Q' σ' H')->gName i v σ H Q->gName i v σ H Q':=fun _ _ _ _ _ m q=>m _ _ q
theorem gnil_mono:∀ v σ H Q Q',(∀ σ' H',Q σ' H'->Q' σ' H')->gNil v σ H Q->gNil v σ H Q':=fun _ _ _ _ _ m q=>⟨q.1,m _ _ q.2⟩
theorem gcons_mono {t:TG} {u:TGs} (m:∀ v σ H Q Q',(∀ σ' H',Q σ' H'->Q' σ' H')->t v σ H Q->t v σ H Q') (mu:∀ v σ H Q Q',(∀ σ' H',Q σ' H'->Q' σ' H')->u v σ H Q->u v σ H Q'):∀ v σ H Q Q',(∀ σ' H',Q σ' H'->Q' σ' H')->gCons t u v σ H Q->gCons t u v σ H Q' :=
 fun _ _ _ _ _ mq ⟨v,r,e,q⟩=>⟨v,r,e,m _ _ _ _ _ (fun _ _ q'=>mu _ _ _ _ _ mq q') q⟩
theorem gk_two {K:PySem.W.Frag} {n k i j:Nat} (h1:i < n) (h2:j < n):GK n (gTup K k (gCons (gName i) (gCons (gName j) gNil))) :=
 gk_tup (gks_cons gn_mono (gcons_mono gn_mono gnil_mono) (gk_name h1) (gks_cons gn_mono gnil_mono (gk_name h2) gks_nil))
def lcLoop (own : List Str) (fr : List Nat) (g : TG) (tt : TT) (te : TE) (σ : St) (Q : VK) (J : It) (H1 : Hp) : Prop :=
  ∃ W : Nat → Nat → List V → Hp → Prop, (∃ m, W 0 m [] H1) ∧ ∀ i m ys H2, W i m ys H2 → ys.length ≤ sizeLine ∧
    ((J.stop i H2 ∧ ∀ D, H2 D = none → Q (.ref D) (upd H2 D (.lst ys))) ∨
     (J.go i H2 ∧ ∀ x H3, J.yld i H2 x H3 → g x (cSt own fr σ) H3 fun σ4 H4 => tt σ4 H4 fun b H5 => if b = true then te σ4 H5 fun y H6 => ∃ m', m' < m ∧ W (i + 1) m' (ys ++ [y]) H6 else ∃ m', m' < m ∧ W (i + 1) m' ys H5))
def tLC (own:List Str) (fr:List Nat) (wi:TI) (g:TG) (tt:TT) (te:TE):TE:=fun σ H Q=>wi σ H (lcLoop own fr g tt te σ Q)
section
variable {X:Cx} {own:List Str} {fr:List Nat} {sc:Scope} {tg iter elt:Expr} {ifs:List Expr} {pos:Pos} {wi:TI} {g:TG} {tt:TT} {te:TE}
theorem lc_core {pins:List (Addr × Obj)} {σ:St} {H2:Hp} {s2:Shared} {Q:VK} {it:Addr} {fp:List Addr} {tn:Nat->Heap->Prop} {J:It} {RR:Value->Addr->Result->Shared->Prop} {E:Value->Shared->Prop} (hc:X.calm=true) (S:CompSc X own fr sc) (gk:GK own.length g)
  (hg:∀ s H fp,PG (cxC X own fr sc s H fp) tg g) (ht:∀ s H fp,PIfs (cxC X own fr sc s H fp) ifs tt) (he:∀ s H fp,PE (cxC X own fr sc s H fp) elt te)
  (I2:Inv X pins σ H2 s2) (T:Turn X.prog X.w X.K tg J fp it tn) (st2:tn 0 s2.heap) (f2:∀ b∈fp,FpOk X pins H2 b) (L:lcLoop own fr g tt te σ Q J H2)
  (hRR:∀ D C s',(∃ m,s'.heap.Ns C m)->@LE.le Nat _ s2.heap.objs.size C->(∃ H',H' C=none/\Q (.ref D) H'/\∀ h' tk,Heap.SameBut C s'.heap h'->Inv X pins σ H' { s' with heap:=h',toks:=tk })->RR (.ref D) C (.ok .next) s') :
  wpAny (model X.prog X.w) X.A (newList []) (fun acc s₃=>wpAny (model X.prog X.w) X.A (newFunctionEnv sc X.env.globals (clOf X.env sc.names []) [] X.env.qual none .none (some X.env)) (fun cenv s₄ =>
   codeAny (model X.prog X.w) X.A (.compStart (.ListComp elt [⟨tg,iter,ifs,0⟩] sc pos) 0 (.ref it) acc { cenv with scope:=relabel sc X.env }) (RR acc cenv.locals) s₄) E s₃) E s2:=by
 obtain ⟨W,⟨m0,w0⟩,turn⟩:=L
 refine wpAny_newObj_type (newEnv_comp ?_)
 dsimp only
 generalize hh1:s2.heap.push { cls:=.type "list",dict:=none,data:=.seq ([]:List Value).toArray }=h1
 have hz:h1.objs.size=s2.heap.objs.size+1:=by rw [<- hh1,Heap.size_push]
 have hk1:∀ b o,s2.heap.get? b=some o->h1.get? b=some o:=fun b o e=>by rw [<- hh1];exact Heap.get?_push_of_some _ e
 have hD1:h1.get? s2.heap.objs.size=some { cls:=.type "list",data:=.seq ([]:List Value).toArray }:=by rw [<- hh1];exact Heap.get?_push_size _ rfl
 have hfl:∀ b∈fp,@LT.lt Nat _ b s2.heap.objs.size:=fun b hb=>by
  obtain ⟨o,e,_⟩:=T.obj _ _ st2 b hb
  exact Heap.lt_size e
 have I3:=inv_comp I2 S f2 hz hk1 hfl
 rw [hz]
 generalize hY:cxC X own fr sc s2 H2 fp=Y at I3
 have hD3:(hC s2 sc h1).get? s2.heap.objs.size=some { cls:=.type "list",data:=.seq ([]:List Value).toArray }:=pushCells_keeps _ _ _ _ (Heap.get?_push_of_some _ hD1)
 have st3:tn 0 (hC s2 sc h1):=T.keep _ _ _ st2 fun b _ o e=>pushCells_keeps _ _ _ _ (Heap.get?_push_of_some _ (hk1 b o e))
 have eP:Y.prog=X.prog:=by rw [<- hY];rfl
 have eW:Y.w=X.w:=by rw [<- hY];rfl
 have eK:Y.K=X.K:=by rw [<- hY];rfl
 have eA:Y.A=X.A:=by rw [<- hY];rfl
 have eX:Y.xe=Nev:=by rw [<- hY];rfl
 have ecm:Y.calm=true:=by rw [<- hY];exact hc
 have eEnv:({ scope:=relabel sc X.env,locals:=s2.heap.objs.size+1,globals:=X.env.globals,cells:=cellsFrom (s2.heap.objs.size+1+1) sc.names (clOf X.env sc.names []),qual:=X.env.qual,func:=none,code:=X.env.code,frame:=X.env.frame,builtins:=X.env.builtins }:Env)=Y.env:=by rw [<- hY];rfl
 have eL:Y.env.locals=s2.heap.objs.size+1:=by rw [<- hY];rfl
 rw [eEnv]
 have hg':PG Y tg g:=hY ▸ hg s2 H2 fp
 have ht':PIfs Y ifs tt:=hY ▸ ht s2 H2 fp
 have he':PE Y elt te:=hY ▸ he s2 H2 fp
 have dfp:s2.heap.objs.size ∉ fp:=fun z=>Nat.lt_irrefl _ (hfl _ z)
 have dC:s2.heap.objs.size≠s2.heap.objs.size+1:=Nat.ne_of_lt (Nat.lt_succ_self _)
 have cellN:∀ x c,Y.env.cells.lookup x=some c->c≠s2.heap.objs.size:=fun x c e z=>by
  obtain ⟨v,o,q,d⟩:=I3.cell x c e
  rw [z] at q
  have q':=hD3.symm.trans q
  cases q'
  cases d
 have hDfs:s2.heap.objs.size ∉ Y.fs:=by
  rw [<- hY]
  intro z
  rcases List.mem_cons.mp (I2.stkSub _ z) with e | e
  ·exact Nat.lt_irrefl _ (by have:=I2.lt;rw [<- e] at this;exact this)
  ·exact I2.nofs (Nat.le_refl _) e
 have hD0:@LE.le Nat _ Y.s₀.heap.objs.size s2.heap.objs.size:=by rw [<- hY];exact Nat.le_refl _
 have fpY:∀ {H':Hp} {pp:List (Addr × Obj)},(∀ b∈fp,H' b=none)->(∀ p∈pp,p.1 ∉ fp)->∀ b∈fp,FpOk Y pp H' b:=fun {H' pp} hn hp b hb=>by
  refine ⟨hn b hb,?_,?_,?_,?_,fun p hq z=>?_⟩
  ·have:=hfl b hb;rw [eL];intro z;have z':@Eq Nat b (s2.heap.objs.size+1):=z;omega
  ·rw [<- hY]
   intro z
   rcases List.mem_cons.mp (I2.stkSub _ z) with e | e
   ·exact (f2 b hb).2.1 e
   ·exact (f2 b hb).2.2.1 e
  ·exact .inl (by rw [<- hY];exact hb)
  ·exact (I3.ok.exf b (by rw [<- hY];exact hb)).2
  ·rcases List.mem_append.mp hq with q | q
   ·have:p∈([]:List (Addr × Obj)):=by rw [<- hY] at q;exact q
    exact nomatch this
   ·exact hp p q (z ▸ hb)
 have pinD:∀ {H':Hp} {s':Shared} {σ':St} {ob:Obj},Inv Y [] σ' H' s'->H' s2.heap.objs.size=none->s'.heap.get? s2.heap.objs.size=some ob->(∀ v,ob.data≠.cell v)->Inv Y [(s2.heap.objs.size,ob)] σ' H' s':=fun {H' s' σ' ob} J0 hn e d =>
  J0.pins_of fun p hp=>by
   have:p=(s2.heap.objs.size,ob):=by simpa using hp
   subst this
   exact ⟨e,hn,by rw [eL];exact dC,hDfs,d⟩
 have fpp:∀ {ob:Obj} (p:Addr × Obj),p∈[(s2.heap.objs.size,ob)]->p.1 ∉ fp:=fun {ob} p hp=>by
  have:p=(s2.heap.objs.size,ob):=by simpa using hp
  subst this;exact dfp
 have loop:codeAny (model X.prog X.w) X.A (.compLoop (.ListComp elt [⟨tg,iter,ifs,0⟩] sc pos) 0 (.ref it) (.ref s2.heap.objs.size) Y.env) (RR (.ref s2.heap.objs.size) (s2.heap.objs.size+1)) { s2 with heap:=hC s2 sc h1 }:=by
  refine Blk.loops (B:=⟨elt,tg,iter,ifs,sc,pos⟩) (fun n s'=>∃ i ys us k H',W i n ys H'/\Inv Y [] (cSt own fr σ) H' s'/\tn i s'.heap/\(∀ b∈fp,H' b=none)/\H' s2.heap.objs.size=none/\s'.heap.get? s2.heap.objs.size=some { cls:=.type "list",data:=.seq (List.toArray us) k }/\Vals ys us) ?_ (k:=m0)
   ⟨0,[],[],_,H2,w0,I3,st3,fun b hb=>(f2 b hb).1,I2.hok.fresh (Nat.le_refl _),hD3,.nil⟩
  rintro n s' ⟨i,ys,us,k,H',w',J0,st',fr',hDn,hDo,rv⟩
  obtain ⟨hyl,cases'⟩:=turn i n ys H' w'
  have J1:=pinD J0 hDn hDo (fun v z=>nomatch z)
  rcases cases' with ⟨stop,fin⟩ | ⟨go,step⟩
  ·have d0:=T.done Y eP eW eK ecm i _ s' _ H' Nev J1 (fpY fr' fpp) st' stop
   rw [eA] at d0
   refine wpAny_mono d0 (fun r s4 ⟨hr,J4⟩=>?_) fun _ _ z=>z
   subst hr
   have pD:=(J4.pin (s2.heap.objs.size,_) (List.mem_append_right _ List.mem_cons_self)).1
   refine hRR _ _ s4 ?_ (Nat.le_succ _) ⟨upd H' s2.heap.objs.size (.lst ys),?_,fin _ hDn,fun h' tk hs=>?_⟩
   ·obtain ⟨m,hn,_⟩:=J4.loc
    rw [eL] at hn
    exact ⟨m,hn⟩
   ·rw [upd_ne (Ne.symm dC),<- eL];exact J4.free
   ·subst hY
    have hO:ObjOk X.prog X.w (upd H' s2.heap.objs.size (.lst ys)) h' s2.heap.objs.size (.lst ys):=⟨hyl,us,k,rv,(hs.2 _ dC).trans pD⟩
    exact inv_back I2 f2 J4 (Nat.le_refl _) hDn dC hs hO tk
  ·have d0:=T.item Y eP eW eK ecm i _ s' _ H' Nev J1 (fpY fr' fpp) st' go
   rw [eA] at d0
   refine wpAny_mono d0 (fun r s4 ⟨u,hr,h4⟩=>?_) fun _ _ z=>z
   subst hr
   refine wpAny_mono h4 (fun _ s5 ⟨x,H5,J5,r5,y5,st5,fr5⟩=>?_) fun _ _ z=>z
   have J5':=J5.pinned (fpY fr5 fpp) (T.obj _ _ st5)
   have s1:=hg' _ s5 _ H5 x u _ J5' r5 (gk _ _ _ _ (step x H5 y5))
   rw [eP,eW,eA,eX] at s1
   refine wpAny_mono s1 (fun _ s6 ⟨σ6,H6,J6,q6,kp6⟩=>?_) fun _ _ z=>z
   have s2':=ht' _ s6 σ6 H6 _ J6 q6
   rw [eP,eW,eA,eX] at s2'
   refine wpAny_mono s2' (fun ok s7 ⟨H7,J7,q7⟩=>?_) fun _ _ z=>z
   have low:∀ {H8:Hp} {s8:Shared},Inv Y ([(s2.heap.objs.size,({ cls:=.type "list",data:=.seq (List.toArray us) k }:Obj))]++pinsAt fp s5.heap) σ6 H8 s8 ->
     Inv Y (pinsAt fp s5.heap) σ6 H8 s8/\H8 s2.heap.objs.size=none/\s8.heap.get? s2.heap.objs.size=some { cls:=.type "list",data:=.seq (List.toArray us) k }/\(∀ b∈fp,H8 b=none)/\tn (i+1) s8.heap:=fun {H8 s8} J8=>by
    have p8:=J8.pin (s2.heap.objs.size,_) (List.mem_append_right _ (List.mem_append_left _ List.mem_cons_self))
    refine ⟨J8.pins_of fun p hp=>J8.pin p (List.mem_append_right _ (List.mem_append_right _ hp)),p8.2.1,p8.1,fun b hb=>?_,T.keep _ _ _ st5 fun b hb o e=>(J8.pin (b,o) (List.mem_append_right _ (List.mem_append_right _ (mem_pinsAt hb e)))).1⟩
    obtain ⟨o,e,d⟩:=T.obj _ _ st5 b hb
    exact (J8.pin (b,o) (List.mem_append_right _ (List.mem_append_right _ (mem_pinsAt hb e)))).2.1
   have weak:∀ {H8:Hp} {s8:Shared} {pp:List (Addr × Obj)},Inv Y pp σ6 H8 s8->Inv Y [] (cSt own fr σ) H8 s8:=fun {H8 s8 pp} J8=>(J8.weak kp6.1.symm (fun j v e=>by
    by_cases hj:j < own.length
    ·exfalso
     unfold cSt at e
     rw [List.getElem?_append_left (by simpa using hj),List.getElem?_replicate] at e
     split at e<;>cases e
    ·rw [kp6.2 j (Nat.not_lt.mp hj)];exact e)).pins_of fun p hp=>nomatch hp
   cases ok with
   | false =>
    obtain ⟨m',hm,w7⟩:=(show ∃ m',m' < n/\W (i+1) m' ys H7 by simpa using q7)
    obtain ⟨_,l1,l2,l3,l4⟩:=low J7
    exact ⟨m',hm,i+1,ys,us,k,H7,w7,weak J7,l4,l3,l1,l2,rv⟩
   | true =>
    have q7':te σ6 H7 fun y H6=>∃ m',m' < n/\W (i+1) m' (ys++[y]) H6:=by simpa using q7
    have s3:=he' _ s7 σ6 H7 _ J7 q7'
    rw [eP,eW,eA,eX] at s3
    show wpAny _ _ _ _ _ _
    refine wpAny_mono s3 (fun xv s8 ⟨y,H8,J8,r8,m',hm,w8⟩=>?_) fun _ _ z=>z
    obtain ⟨J8a,l1,l2,l3,l4⟩:=low J8
    refine append_at (hsz:=by rw [List.size_toArray,<- rv.length];exact hyl) l2 fun h' hs' hD'=>?_
    have J9:Inv Y [] (cSt own fr σ) H8 { s8 with heap:=h' }:=by
     refine (weak J8a).turned (t':=s8.toks) (it:=s2.heap.objs.size) (fun b o hb e=>(hs'.2 b hb).trans e) l1 (by rw [eL];exact dC) (.inr hD0) cellN fun p hp=>?_
     have:p∈([]:List (Addr × Obj)):=by rw [<- hY] at hp;exact hp
     exact nomatch this
    refine ⟨m',hm,i+1,ys++[y],us++[xv],k+1,H8,w8,J9,?_,l3,l1,?_,rv.append (.cons r8 .nil)⟩
    ·exact T.keep _ _ _ l4 fun b hb o e=>(hs'.2 b (fun z=>dfp (z ▸ hb))).trans e
    ·rw [hD'];simp
 exact codeAny_compStart_list loop (T.self X.A 0 _ _ _ st3 loop)
theorem pe_lc (own:List Str) (fr:List Nat) (hc:X.calm=true) (S:CompSc X own fr sc) (gk:GK own.length g) (hi:PI X tg iter wi)
  (hg:∀ s H fp,PG (cxC X own fr sc s H fp) tg g) (ht:∀ s H fp,PIfs (cxC X own fr sc s H fp) ifs tt) (he:∀ s H fp,PE (cxC X own fr sc s H fp) elt te)
  (hs:∀ x,foldedSetIterable iter X.env x=pure x:=by intro _;rfl):PE X (.ListComp elt [⟨tg,iter,ifs,0⟩] sc pos) (tLC own fr wi g tt te):=by
 intro pins s σ H Q I h
 rw [eval_ListComp]
 have hclos:closureFor sc X.env=pure (clOf X.env sc.names []):=closureFor_of fun y hy hf=>I.ok.has y.1 (by
  rcases S.fre y hy hf with q | q
  ·exact .inl q
  ·exact .inr q)
 refine wpAny_comprehension_free (use:=none) rfl hs hclos S.kind (fun y hy hl=>lookup_of_mem_nd S.nd (by rw [<- hl];exact hy)) ?_
 refine thn (hi pins s σ H _ I h) fun v s1 h1=>thn h1 fun itv s2 h2=>?_
 obtain ⟨it,fp,tn,J,H2,e,I2,T,st2,f2,L⟩:=h2
 subst e
 exact lc_core hc S gk hg ht he I2 T st2 f2 L fun D C s' ⟨m,hn⟩ _ ⟨H',_,q,hi⟩=>⟨m,hn,fun h' hs'=>⟨.ref D,H',hi h' s'.toks hs',rfl,q⟩⟩
end
theorem stored_use {X:Cx} {pins:List (Addr × Obj)} {σ:St} {H2:Hp} {s2 s':Shared} {i:Nat} {x:Str} {pos':Pos} {D:Addr} {C:Addr} {R:St->Hp->Prop} {E:Value->Shared->Prop} (I2:Inv X pins σ H2 s2) (hN:X.N.Nodup) (hi:X.N[i]?=some x) (hx:X.env.scope.names.lookup x=some .local)
  (ns:∃ m,s'.heap.Ns C m) (le:@LE.le Nat _ s2.heap.objs.size C) (h:∃ H',H' C=none/\R (σ.set i (some (.ref D))) H'/\∀ h' tk,Heap.SameBut C s'.heap h'->Inv X pins σ H' { s' with heap:=h',toks:=tk }) :
  wpAny (model X.prog X.w) X.A (assign (.Name x pos') X.env (.ref D)) (fun _ s''=>∃ m,s''.heap.Ns C m/\∀ h',Heap.SameBut C s''.heap h'->∃ σ1 H1,Inv X pins σ1 H1 { s'' with heap:=h' }/\R σ1 H1) E s':=by
 obtain ⟨H',hC,q,hv⟩:=h
 have I':Inv X pins σ H' s':=hv s'.heap s'.toks (Heap.SameBut.refl _ _)
 have lt:∀ {b:Addr} {o:Obj},s2.heap.get? b=some o->b≠C:=fun {b o} e z=>by
  have l1:@LT.lt Nat _ b s2.heap.objs.size:=Heap.lt_size e
  have z':@Eq Nat b C:=z
  omega
 have hLC:X.env.locals≠C:=by
  obtain ⟨m,⟨o,_,_,e,_⟩,_⟩:=I2.loc
  exact lt e
 have hcell:∀ y c,X.env.cells.lookup y=some c->c≠C:=fun y c e=>by
  obtain ⟨v,o,e1,_⟩:=I2.cell y c e
  exact lt e1
 refine wpAny_assign_Name (store_ok2 I' hN hi (.inl hx) (show RelV (.ref D) (.ref D) from rfl) (fun s3 I3 ⟨a,hs,ha⟩=>?_) (.inr hx))
 have aC:a≠C:=by
  rcases ha with e | e
  ·rw [e];exact hLC
  ·exact hcell _ _ e
 obtain ⟨m,hn⟩:=ns
 refine ⟨m,hn.sameBut hs (Ne.symm aC),fun h' hs'=>⟨_,H',?_,q⟩⟩
 refine I3.turned (t':=s3.toks) (it:=C) (fun b o hb e=>(hs'.2 b hb).trans e) hC (Ne.symm hLC) (.inr ?_) hcell fun p hp=>?_
 ·have:=I2.sz
  exact Nat.le_trans this le
 ·exact lt (I2.pin p hp).1
theorem ps_setL {X:Cx} {sc:Scope} {tg iter elt:Expr} {ifs:List Expr} {pos spos pos':Pos} {wi:TI} {g:TG} {tt:TT} {te:TE} {i:Nat} {x:Str} (own:List Str) (fr:List Nat) (hN:X.N.Nodup) (hix:X.N[i]?=some x) (hx:X.env.scope.names.lookup x=some .local) (hc:X.calm=true) (S:CompSc X own fr sc) (gk:GK own.length g) (hi:PI X tg iter wi)
  (hg:∀ s H fp,PG (cxC X own fr sc s H fp) tg g) (ht:∀ s H fp,PIfs (cxC X own fr sc s H fp) ifs tt) (he:∀ s H fp,PE (cxC X own fr sc s H fp) elt te)
  (hsw:swapsWith (.ListComp elt [⟨tg,iter,ifs,0⟩] sc pos) (some (.Name x pos')) spos.line X.env=pure true:=by rfl)
  (hs:∀ x,foldedSetIterable iter X.env x=pure x:=by intro _;rfl):PS X (.Assign [.Name x pos'] (.ListComp elt [⟨tg,iter,ifs,0⟩] sc pos) spos) (tAsg (tLC own fr wi g tt te) (gName i)):=by
 intro pins s σ H D I h
 rw [exec_Assign_Name_used _ _ _ _ hsw]
 apply wpAny_bind;apply wpAny_standAt;apply wpAny_bind
 show wpAny _ _ (comprehension (.ListComp elt [⟨tg,iter,ifs,0⟩] sc pos) sc X.env _ (newList []) false (eval iter X.env) (some (assign (.Name x pos') X.env)) >>= _) _ _ s
 apply wpAny_bind
 have hclos:closureFor sc X.env=pure (clOf X.env sc.names []):=closureFor_of fun y hy hf=>I.ok.has y.1 (by
  rcases S.fre y hy hf with q | q
  ·exact .inl q
  ·exact .inr q)
 refine wpAny_mono (wpAny_comprehension_free (use:=some (assign (.Name x pos') X.env)) (Q:=fun _ s'=>SP X pins D .next s') rfl hs hclos S.kind (fun y hy hl=>lookup_of_mem_nd S.nd (by rw [<- hl];exact hy)) ?_) (fun _ s' q=>wpAny_pure (wpAny_pure q)) fun _ _ z=>z
 refine thn (hi pins s σ H _ I h) fun v s1 h1=>thn h1 fun itv s2 h2=>?_
 obtain ⟨it,fp,tn,J,H2,e,I2,T,st2,f2,L⟩:=h2
 subst e
 exact lc_core hc S gk hg ht he I2 T st2 f2 L fun D0 C s' ns le h=>stored_use (R:=D.nx) I2 hN hix hx ns le h
def Its (x:Str):It:=⟨fun i _=>i < x.cps.size,fun i H v H'=>H'=H/\∃ c,x.cps[i]?=some c/\v=.str ⟨#[c]⟩,fun i _=>i=x.cps.size⟩
theorem go_str {M:Model} {A:Around} {E:Value->Shared->Prop} {s:Shared} {tg:Expr} {it:Addr} {x:Str} {t:Tok} {Q:Unit->Shared->Prop} (hQ:Q () s):wpAny M A (letOwnedTupleGo tg (.ref it) (.str x t)) Q E s:=by
 unfold letOwnedTupleGo
 cases tg<;>exact wpAny_pure hQ
theorem turn_str {P:Program} {w:World} {K:PySem.W.Frag} {tg:Expr} {it:Addr} {x:Str} {t:Tok} {ty:String} (W:∀ A:Around,A.handled=none->Walks P w A it [it] [it] x.cps.size (SignAt x) (fun i h=>h.IsStrIter it ty x t i))
  (hself:∀ (A:Around) (i:Nat) (s:Shared) (Q:Value->Shared->Prop) (E:Value->Shared->Prop),s.heap.IsStrIter it ty x t i->Q (.ref it) s->wpAny (model P w) A (pyIter (.ref it)) Q E s) :
  Turn P w K tg (Its x) [it] it (fun i h=>h.IsStrIter it ty x t i) where
 mem:=by simp
 obj:=fun i h st b hb=>by
  have e:b=it:=by simpa using hb
  subst e
  obtain ⟨o,e,c,d⟩:=st
  exact ⟨o,e,fun v z=>by rw [d] at z;cases z⟩
 keep:=fun i h h' st k=>by
  obtain ⟨o,e,r⟩:=st
  exact ⟨o,k it (by simp) o e,r⟩
 item:=by
  intro X hP hw hK hc i pins s σ H E I hf st hg
  subst hP hw hK
  obtain ⟨f0,f1,f2,f3,f4,f5⟩:=hf it (by simp)
  refine (W X.A (I.ok.hd hc)).item i s _ _ hg st fun v h' tk hv st' kk=>?_
  obtain ⟨c,u,hx,rfl⟩:=hv
  have I1:Inv X pins σ H { s with heap:=h',toks:=tk }:=I.turned (fun b o hb e=>kk b o (by simpa using hb) e) f0 f1 f3 f4 f5
  exact ⟨_,rfl,go_str ⟨.str ⟨#[c]⟩,H,I1,⟨u,rfl⟩,⟨rfl,c,hx,rfl⟩,st',fun b hb=>(hf b hb).1⟩⟩
 done:=by
  intro X hP hw hK hc i pins s σ H E I hf st hg
  subst hP hw hK
  obtain ⟨f0,f1,f2,f3,f4,f5⟩:=hf it (by simp)
  have hg':i=x.cps.size:=hg
  subst hg'
  exact (W X.A (I.ok.hd hc)).done s _ _ st fun h' tk kk=>⟨rfl,I.turned (fun b o hb e=>kk b o (by simpa using hb) e) f0 f1 f3 f4 f5⟩
 self:=hself
section
variable {X:Cx} {tg:Expr}
def iStr (tl:TE):TI:=fun σ H R=>tl σ H fun x H1=>∃ z,x=.str z/\R (Its z) H1
theorem pi_str {l:Expr} {tl:TE} (hl:PE X l tl):PI X tg l (iStr tl):=by
 intro pins s σ H R I h
 refine thn (hl pins s σ H _ I h) fun v s1 ⟨x,H1,I1,r1,q1⟩=>?_
 obtain ⟨z,rfl,q⟩:=q1
 obtain ⟨t,rfl⟩:=r1
 have fin:∀ ty:String,(∀ A:Around,A.handled=none->Walks X.prog X.w A s1.heap.objs.size [s1.heap.objs.size] [s1.heap.objs.size] z.cps.size (SignAt z) (fun i h=>h.IsStrIter s1.heap.objs.size ty z t i)) ->
   (∀ (A:Around) (i:Nat) (s:Shared) (Q:Value->Shared->Prop) (E:Value->Shared->Prop),s.heap.IsStrIter s1.heap.objs.size ty z t i->Q (.ref s1.heap.objs.size) s->wpAny (model X.prog X.w) A (pyIter (.ref s1.heap.objs.size)) Q E s) ->
   PIE X pins σ tg R (.ref s1.heap.objs.size) { s1 with heap:=s1.heap.push { cls:=.type ty,data:=.fields #[.str z t,.int 0 0] } }:=fun ty W hself=>by
  refine ⟨s1.heap.objs.size,[s1.heap.objs.size],_,_,H1,rfl,I1.kept (t':=s1.toks) fun b o e=>Heap.get?_push_of_some _ e,turn_str W hself,⟨_,Heap.get?_push_size _ rfl,rfl,rfl⟩,fun b hb=>?_,q⟩
  have e:b=s1.heap.objs.size:=by simpa using hb
  subst e
  exact I1.fpOk (Nat.le_refl _) (I1.hok.fresh (Nat.le_refl _))
 cases ha:z.cps.all (· < 128)
 ·exact wpAny_pyIter_wide ha (fin _ (fun A hA=>Walks.strWide hA _ z t) fun A i s Q E st q=>wpAny_pyIter_striter_wide st q)
 ·exact wpAny_pyIter_ascii ha (fin _ (fun A hA=>Walks.strAscii hA _ z t) fun A i s Q E st q=>wpAny_pyIter_striter_ascii st q)
theorem vals_bl_get:∀ {bs:List Bool} {us:List Value} {i:Nat} {u:Value},Vals (bs.map V.bl) us->us[i]?=some u->∃ b,bs[i]?=some b/\u=.bool b
 | [],_,i,u,.nil,e=>by simp at e
 | b::bs,_,0,u,.cons r _,e=>by simp at e;subst e;exact ⟨b,rfl,r⟩
 | b::bs,_,i+1,u,.cons _ t,e=>by
  obtain ⟨b',h1,h2⟩:=vals_bl_get (i:=i) (u:=u) t (by simpa using e)
  exact ⟨b',by simpa using h1,h2⟩
theorem range_all (bs:List Bool):((List.range bs.length).all fun i=>bs.getD i false)=bs.all id:=by
 induction bs with
 | nil=>rfl
 | cons b bs ih =>
  rw [List.length_cons,List.range_succ_eq_map,List.all_cons,List.all_map,List.all_cons]
  have e:((fun i=>(b::bs).getD i false) ∘ Nat.succ)=fun i=>bs.getD i false:=by funext i;simp
  rw [e,ih];simp
theorem call_all (hc:X.calm=true):CallR X (.builtin "all") (fun xs H Q=>∃ (p:Addr) (bs:List Bool),xs=[.ref p]/\SqL X.K H p (bs.map V.bl)/\Q (.bl (bs.all id)) H):=by
 intro pins s σ H xs us Q I r h
 obtain ⟨p,bs,rfl,hq,q⟩:=h
 obtain ⟨u,rfl,rx⟩:=vals1 r
 cases rx
 obtain ⟨its,rv,pl,hz⟩:=I.list hq
 have hlt:p < s.heap.objs.size:=by obtain ⟨o,n,e,_⟩:=pl;exact Heap.lt_size e
 have hlen:its.length=bs.length:=by rw [<- rv.length,List.length_map]
 refine call_all_walk (wpAny_pyIter_list pl.isList ?_)
 refine ⟨s.heap.objs.size,_,_,its.toArray.size,_,_,fun i=>bs.getD i false,rfl,Walks.list (A:=X.A.in1) (I.ok.hd hc) s.heap.objs.size p (Nat.ne_of_lt hlt) its.toArray,⟨⟨_,Heap.get?_push_size _ rfl,rfl,rfl⟩,pl.isList.push _⟩,fun i v s' Q' E' hP hQ=>?_,fun h' tk hk=>?_⟩
 ·obtain ⟨b,h1,rfl⟩:=vals_bl_get rv (by simpa using hP)
  refine wpAny_truthy_bool ?_
  have e:bs.getD i false=b:=by rw [List.getD,h1];rfl
  rw [<- e];exact hQ
 ·rw [List.size_toArray,hlen,range_all]
  refine ⟨.bl _,H,?_,rfl,q⟩
  have J:Inv X pins σ H { s with heap:=h',toks:=tk }:=I.kept fun b o e=>hk b o (fun z=>absurd (Heap.lt_size e) (by rw [List.mem_singleton.mp z];exact Nat.lt_irrefl _)) (Heap.get?_push_of_some _ e)
  exact J
theorem call_isinst {T:String}:CallR X (.builtin "isinstance") (fun xs H Q=>∃ x t b,xs=[x,.ty T]/\TyOf X.K H x t/\PySem.W.kitOne X.K t (.type T)=some b/\Q (.bl b) H):=by
 intro pins s σ H xs us Q I r h
 obtain ⟨x,t,b,rfl,ty,e,q⟩:=h
 obtain ⟨u,v,rfl,ru,rv⟩:=vals2 r
 cases rv
 exact isinst_ok I ru ty e fun tk=>⟨.bl b,H,I.tok _,rfl,q⟩
theorem strs_of:∀ {ys:List Str} {us:List Value},Vals (ys.map V.str) us->StrsAre us ys
 | [],_,.nil=>.nil
 | y::ys,_,.cons r t=>by obtain ⟨k,rfl⟩:=(show ∃ k,_=Value.str y k from r);exact .cons y k (strs_of t)
theorem mt_join:MtR X "str.join" (fun x vs H Q=>∃ (sep:Str) (p:Addr) (ys:List Str),x=.str sep/\vs=[.ref p]/\SqL X.K H p (ys.map V.str)/\(ys.map (·.length)).sum+ys.length * sep.length<=16777216/\Q (.str (Txt.join sep ys)) H):=by
 intro pins s σ H x xs v us Q I rx r h
 obtain ⟨sep,p,ys,rfl,rfl,hq,hl,q⟩:=h
 obtain ⟨u,rfl,ru⟩:=vals1 r
 cases ru
 obtain ⟨t,rfl⟩:=rx
 obtain ⟨its,rv,pl,hz⟩:=I.list hq
 exact join_list pl.isList (by simpa using strs_of rv) hl fun t' k=>⟨.str _,H,I.tok _,⟨t',rfl⟩,q⟩
theorem op_le_str:OpR X (compareOp .LtE) (fun x y H Q=>∃ i j,x=.str i/\y=.str j/\Q (.bl (!decide (j.cps.toList < i.cps.toList))) H):=by
 intro pins s σ H x y v u Q I rx ry h
 obtain ⟨i,j,rfl,rfl,q⟩:=h
 obtain ⟨t,rfl⟩:=rx
 obtain ⟨t',rfl⟩:=ry
 exact PySem.P.le_str ⟨.bl _,H,I,rfl,by simpa using q⟩
end
theorem lc_range {own:List Str} {fr:List Nat} {g:TG} {tt:TT} {te:TE} {σ:St} {Q:VK} {lo:Int} {n:Nat} {H:Hp} (Pv:Nat->List V->Hp->Prop) (h0:Pv 0 [] H) (hlen:∀ i ys H,i<=n->Pv i ys H->ys.length<=sizeLine)
  (hs:∀ i ys H (R:List V->Hp->Prop),i < n->Pv i ys H->(∀ ys' H',Pv (i+1) ys' H'->R ys' H')->g (.int (lo+i)) (cSt own fr σ) H fun σ4 H4=>tt σ4 H4 fun b H5=>if b=true then te σ4 H5 fun y H6=>R (ys++[y]) H6 else R ys H5)
  (hd:∀ ys H,Pv n ys H->∀ D,H D=none->Q (.ref D) (upd H D (.lst ys))):lcLoop own fr g tt te σ Q (Itr lo n) H:=by
 refine ⟨fun i m ys H=>m=n - i/\i<=n/\Pv i ys H,⟨n,rfl,Nat.zero_le _,h0⟩,?_⟩
 rintro i m ys H2 ⟨rfl,hi,p⟩
 refine ⟨hlen i ys H2 hi p,?_⟩
 by_cases h:i < n
 ·refine .inr ⟨h,fun x H3 hy=>?_⟩
  obtain ⟨rfl,rfl⟩:=hy
  exact hs i ys _ (fun ys' H'=>∃ m',m' < n - i/\(m'=n - (i+1)/\i+1<=n/\Pv (i+1) ys' H')) h p fun ys' H' q=>⟨n - (i+1),by omega,rfl,h,q⟩
 ·have e:i=n:=by omega
  subst e
  exact .inl ⟨Nat.le_refl _,hd ys H2 p⟩
theorem lc_list {K:PySem.W.Frag} {a:Addr} {xs:List V} {own:List Str} {fr:List Nat} {g:TG} {tt:TT} {te:TE} {σ:St} {Q:VK} {H:Hp} (Pv:Nat->List V->Hp->Prop) (h0:Pv 0 [] H) (hlen:∀ i ys H,i<=xs.length->Pv i ys H->ys.length<=sizeLine)
  (hl:∀ i ys H,i<=xs.length->Pv i ys H->SqL K H a xs)
  (hs:∀ i x ys H (R:List V->Hp->Prop),xs[i]?=some x->Pv i ys H->(∀ ys' H',Pv (i+1) ys' H'->R ys' H')->g x (cSt own fr σ) H fun σ4 H4=>tt σ4 H4 fun b H5=>if b=true then te σ4 H5 fun y H6=>R (ys++[y]) H6 else R ys H5)
  (hd:∀ ys H,Pv xs.length ys H->∀ D,H D=none->Q (.ref D) (upd H D (.lst ys))):lcLoop own fr g tt te σ Q (Itl K a) H:=by
 refine ⟨fun i m ys H=>m=xs.length - i/\i<=xs.length/\Pv i ys H,⟨xs.length,rfl,Nat.zero_le _,h0⟩,?_⟩
 rintro i m ys H2 ⟨rfl,hi,p⟩
 refine ⟨hlen i ys H2 hi p,?_⟩
 have q:=hl i ys H2 hi p
 by_cases h:i < xs.length
 ·refine .inr ⟨⟨xs,xs[i],q,by simp [h]⟩,fun x H3 hy=>?_⟩
  obtain ⟨rfl,hy⟩:=hy
  exact hs i x ys _ (fun ys' H'=>∃ m',m' < xs.length - i/\(m'=xs.length - (i+1)/\i+1<=xs.length/\Pv (i+1) ys' H')) (hy xs q) p fun ys' H' q=>⟨xs.length - (i+1),by omega,rfl,h,q⟩
 ·have e:i=xs.length:=by omega
  subst e
  exact .inl ⟨⟨xs,q,Nat.le_refl _⟩,hd ys H2 p⟩
theorem ObjOk.there {P:Program} {w:World} {H:Hp} {h:Heap} {a:Addr} {o:HO} (x:ObjOk P w H h a o):∃ u,h.get? a=some u:=by
 cases o with
 | lst xs=>obtain ⟨_,_,_,_,e⟩:=x;exact ⟨_,e⟩
 | tup xs=>obtain ⟨_,_,_,o,e,_⟩:=x;exact ⟨_,e⟩
 | dK kvs=>obtain ⟨_,_,_,_,o,_,_,e,_⟩:=x;exact ⟨_,e⟩
 | dT kvs=>obtain ⟨_,_,_,_,o,_,_,e,_⟩:=x;exact ⟨_,e⟩
 | set S n=>obtain ⟨o,_,_,_,e,_⟩:=x;exact ⟨_,e⟩
 | ins C dx fs=>obtain ⟨_,_,_,e,_⟩:=x;exact ⟨_,e⟩
 | own y=>exact x
 | xd fs=>obtain ⟨_,⟨_,_,_,e,_⟩,_⟩:=x;exact ⟨_,e⟩
 | rng lo hi=>obtain ⟨_,_,_,e⟩:=x;exact ⟨_,e⟩
 | frz ob u=>obtain ⟨e,_⟩:=x;exact ⟨_,e⟩
 | tbl ps=>exact ⟨_,(show h.get? a=some _ from x)⟩
 | met f y=>exact ⟨_,(show h.get? a=some _ from x)⟩
 | ext φ=>obtain ⟨_,e,_⟩:=x;exact e
structure Fly (P:Program) (w:World) (outer:List Env) (H:Hp) (s:Shared) (H':Hp) (a:Addr) (cls:Value) (s':Shared):Prop where
 os:s'.os=s.os
 bare:AllBare s'.gens
 un:Un (frs outer) [] H H' s.heap s'.heap
 hok:HOk P w H' s'.heap
 an:H' a=none
 fly:∃ (B:Heap) (a0:Value),Heap.FlyingW B outer a cls a0 s'.heap/\∀ b o,s'.heap.get? b=some o->((∃ q,s.heap.get? b=some q)\/∃ u,H' b=some u)->b ∉ frs outer->B.get? b=some o
def CXO (P:Program) (w:World):CXT:=fun outer H s E e s'=>∃ a cls H',e=.ref a/\Fly P w outer H s H' a cls s'/\E cls none H'
section
variable {CX:CXT} {P:Program} {w:World} {K:PySem.W.Frag} {mg:Str->Option Value} {base:Heap} {N:List Str} {qual:Str} {scope:Scope} {f:Addr} {cdv:Value} {A:Around} {outer:List Env} {s s1 s2:Shared} {H H1 H2:Hp} {E:XK}
 {pins:List (Addr × Obj)} {σ:St} {a:Addr} {cls a0:Value} {B h':Heap}
theorem fly_out (I:Inv (cxOf CX P w K mg base N qual scope f cdv A outer s H E) pins σ H1 s1) (os:s2.os=s1.os) (bare:AllBare s2.gens)
  (un:Un (frs (envOfC qual scope s.heap.objs.size f cdv::outer)) [] H1 H2 s1.heap s2.heap) (hok:HOk P w H2 s2.heap) (an:H2 a=none)
  (hB:∀ b o,s2.heap.get? b=some o->((∃ q,s1.heap.get? b=some q)\/∃ u,H2 b=some u)->b ∉ frs (envOfC qual scope s.heap.objs.size f cdv::outer)->B.get? b=some o)
  (hfl:Heap.FlyingW B outer a cls a0 h') (hsl:∀ b∈frs outer,∀ o,s2.heap.get? b=some o->∃ sl,h'.get? b=some { o with slots:=sl }):Fly P w outer H s H2 a cls { s2 with heap:=h' }:=by
 have fr:frs (envOfC qual scope s.heap.objs.size f cdv::outer)=s.heap.objs.size::frs outer:=rfl
 have old:∀ b o,s.heap.get? b=some o->b≠s.heap.objs.size:=fun b o e=>Nat.ne_of_lt (Heap.lt_size e)
 have nin:∀ b,b≠s.heap.objs.size->b ∉ frs outer->b ∉ frs (envOfC qual scope s.heap.objs.size f cdv::outer):=fun b h1 h2 z=>by
  rw [fr] at z
  rcases List.mem_cons.mp z with z | z
  ·exact h1 z
  ·exact h2 z
 have u1:Un (frs outer) [] H H1 s.heap s1.heap:=I.base
 have hst:∀ b∈frs (envOfC qual scope s.heap.objs.size f cdv::outer),H2 b=none:=fun b hb=>by
  obtain ⟨_,o,e,_⟩:=I.stack.mem (show b∈(envOfC qual scope s.heap.objs.size f cdv::outer).filterMap (·.frame) from hb)
  exact un.free b o e (I.stkFree b hb) (by simp)
 have there2:∀ b o,s.heap.get? b=some o->∃ o',s2.heap.get? b=some o':=fun b o e=>by
  obtain ⟨o1,e1⟩:=u1.there b o e (by simp)
  exact un.there b o1 e1 (by simp)
 have inB:∀ b o,s.heap.get? b=some o->b ∉ frs outer->∀ o2,s2.heap.get? b=some o2->h'.get? b=some o2:=fun b o e hb o2 e2=>by
  obtain ⟨o1,e1⟩:=u1.there b o e (by simp)
  exact hfl.1 b o2 (hB b o2 e2 (.inl ⟨o1,e1⟩) (nin b (old b o e) hb))
 have trB:∀ b u,H2 b=some u->∀ o2,s2.heap.get? b=some o2->h'.get? b=some o2:=fun b u e o2 e2 =>
  hfl.1 b o2 (hB b o2 e2 (.inr ⟨u,e⟩) fun z=>by rw [hst b z] at e;cases e)
 refine ⟨os.trans I.os,bare,⟨fun b o e n hb hx=>?_,fun b o e n hb hx=>?_,fun b o e n hx=>?_,fun b o e hx=>?_,fun b xs e=>un.tups b xs (u1.tups b xs e),fun b o u e=>un.frzs b o u (u1.frzs b o u e),fun b ps e=>?_⟩,fun b u e=>?_,an,⟨B,a0,hfl,fun b o e hh hb=>?_⟩⟩
 ·exact inB b o e hb o (un.keep b o (u1.keep b o e n hb hx) (u1.free b o e n hx) (nin b (old b o e) hb) hx)
 ·obtain ⟨sl,e1⟩:=u1.slot b o e n hb hx
  obtain ⟨sl2,e2⟩:=un.any e1 (u1.free b o e n hx) hx
  obtain ⟨sl3,e3⟩:=hsl b hb _ e2
  exact ⟨sl3,e3⟩
 ·obtain ⟨o1,e1⟩:=u1.there b o e hx
  exact un.free b o1 e1 (u1.free b o e n hx) hx
 ·obtain ⟨o2,e2⟩:=there2 b o e
  by_cases hb:b∈frs outer
  ·obtain ⟨sl,e3⟩:=hsl b hb _ e2
   exact ⟨_,e3⟩
  ·exact ⟨o2,inB b o e hb o2 e2⟩
 ·obtain ⟨m1,e1⟩:=u1.tbls b ps e
  obtain ⟨m2,e2⟩:=un.tbls b _ e1
  exact ⟨m1++m2,by rw [e2,Array.append_assoc]⟩
 ·refine (hok b u e).stay (fun c v hc q=>?_) (fun _ q=>q) fun _ _ q=>q
  rcases hc with z | z
  ·subst z;exact trB c u e v q
  ·exact trB c _ z v q
 ·rcases hh with ⟨q,hq⟩ | ⟨u,hu⟩
  ·obtain ⟨o2,e2⟩:=there2 b q hq
   have e3:=inB b q hq hb o2 e2
   have e':h'.get? b=some o:=e
   rw [e3] at e';cases e'
   obtain ⟨o1,e1⟩:=u1.there b q hq (by simp)
   exact hB b _ e2 (.inl ⟨o1,e1⟩) (nin b (old b q hq) hb)
  ·obtain ⟨o2,e2⟩:=(hok b u hu).there
   have e3:=trB b u hu o2 e2
   have e':h'.get? b=some o:=e
   rw [e3] at e';cases e'
   exact hB b _ e2 (.inr ⟨u,hu⟩) fun z=>by rw [hst b z] at hu;cases hu
theorem passO:Passes (CXO P w) (cxOf (CXO P w) P w K mg base N qual scope f cdv A outer s H E) E:=by
 intro pins σ H1 s1 e s2 I ⟨a,cls,H2,he,F,hE⟩
 subst he
 obtain ⟨B,a0,hfl,hB⟩:=F.fly
 have hfr:(A.deeper (envOfC qual scope s.heap.objs.size f cdv)).frames=some (envOfC qual scope s.heap.objs.size f cdv::outer):=I.ok.frames
 show wpAny _ _ (leaving _ _) _ _ _
 refine wpAny_leaves_onW hfr rfl hfl fun h' x1 x2=>⟨a,cls,H2,rfl,?_,hE⟩
 refine fly_out I F.os F.bare F.un F.hok F.an hB x1 fun b hb o e=>x2 b o e ?_
 obtain ⟨_,o',e',d⟩:=hfl.2.2.1.mem (show b∈(envOfC qual scope s.heap.objs.size f cdv::outer).filterMap (·.frame) from List.mem_cons_of_mem _ hb)
 rw [e] at e';cases e'
 exact d
theorem own_cls {K:PySem.W.Frag} {h:Heap} {mg:Str->Option Value} {x:Str} {C:Addr} {bmB:List Value} {newId:String} (X:K.In h) (b:mg x=some (.ref C)) (q:PySem.W.excIn K C bmB newId=true):OwnCls x C bmB newId mg h:=by
 have no:∀ {P:Prop},false=true->P:=fun z=>absurd z Bool.false_ne_true
 unfold PySem.W.excIn at q
 split at q<;>first | exact no q | skip
 next dict data slots found =>
 split at q<;>first | exact no q | skip
 next first above w0 w1 w2 w3 made w5 order listed =>
 simp only [Bool.and_eq_true] at q
 obtain ⟨⟨⟨⟨⟨isC,isNew⟩,noDel⟩,tail⟩,ok⟩,noInit⟩:=q
 have eC:first=C:=beq_iff_eq.mp isC
 have eN:made=newId:=beq_iff_eq.mp isNew
 have eD:data.hasDel=false:=by simpa using noDel
 have eS:slots=#[w0,w1,w2,w3,some (.builtin made),w5]:=Array.toList_inj.mp (by rw [listed])
 cases data
 simp only at order eD
 subst eC eN order eD eS
 exact { bound:=b,obj:=⟨above,_,_,_,_,_,_,_,_,_,dict,w0,w1,w2,w3,w5,_,X _ _ found,.of_isNs (PySem.W.isNs_of_in X ok),PySem.W.nsMap_none_of_in X ok (by simpa using noInit),PySem.W.tail_of_in X tail⟩ }
def tRaise (C:Addr) (t:TA) (E:XK):TS:=fun D σ H=>t σ H fun vs H1=>vs.length<=sizeLine/\E (.ref C) none H1
theorem ps_raise {x:Str} {C:Addr} {bm:List Value} {Bn newId initId:String} {np cpos pos:Pos} {e₀:Expr} {rest:List Expr} {t:TA} (hx:Gl (cxOf (CXO P w) P w K mg base N qual scope f cdv A outer s H E) x) (b:mg x=some (.ref C)) (q:PySem.W.excIn K C bm newId=true) (FB:ExcBaseFacts Bn newId initId bm)
  (ha:PA (cxOf (CXO P w) P w K mg base N qual scope f cdv A outer s H E) (e₀::rest) t) (hd:(x == ("__debug__" : Str))=false:=by decide)
  (he:starEach (e₀::rest) (envOfC qual scope s.heap.objs.size f cdv)=(false,eval e₀ (envOfC qual scope s.heap.objs.size f cdv))::starEach rest (envOfC qual scope s.heap.objs.size f cdv):=by rfl)
  (hplain:(backTo cpos (starEach rest (envOfC qual scope s.heap.objs.size f cdv))).any (·.1)=false:=by rfl) :
  PS (cxOf (CXO P w) P w K mg base N qual scope f cdv A outer s H E) (.Raise (some (.Call (.Name x np) (e₀::rest) [] cpos)) none pos) (tRaise C t E):=by
 intro pins s0 σ H0 D I h
 obtain ⟨tl,Nn,nm,q',bs,hdct,sn,sub,ab,col,dd,k0,k1,k2,k3,k5,mN,hC,hN,hni,T⟩:=(own_cls I.mod.kin b q).obj
 refine wpAny_Raise_call_subT (C:=C) (nm:=nm) (q:=q') (N:=Nn) (bs:=bs) (bm:=tl) (hdct:=hdct) (sn:=sn) (sub:=sub) (ab:=ab) (col:=col) (dd:=dd) (k0:=k0) (k1:=k1) (k2:=k2) (k3:=k3) (k5:=k5)
  FB (mN:=mN) (T.hasType FB.hasBase) (I.ok.hd rfl) (by show (backTo cpos (starEach (e₀::rest) (envOfC qual scope s.heap.objs.size f cdv))).any _=false;rw [he];show (false || (backTo cpos (starEach rest (envOfC qual scope s.heap.objs.size f cdv))).any (·.1))=false;rw [hplain];rfl) hni (ld_glob I hx b ⟨rfl,?_⟩ hd)
 have hA:=ha cpos pins s0 σ H0 _ I h
 have he':starEach (e₀::rest) (cxOf (CXO P w) P w K mg base N qual scope f cdv A outer s H E).env=(false,eval e₀ (cxOf (CXO P w) P w K mg base N qual scope f cdv A outer s H E).env)::starEach rest (cxOf (CXO P w) P w K mg base N qual scope f cdv A outer s H E).env:=he
 rw [he'] at hA ⊢
 refine Calls.evalArgs_plain (wpAny_mono hA (fun us s2 ⟨vs,H2,I2,rv,hz,hE⟩=>⟨rfl,by rw [<- rv.length];exact hz,I2.bk _ _ hC,hN.keeps I2.bk,T.keeps I2.bk,fun h' e hx'=>?_⟩) fun _ _ y=>y)
 have hfr:(A.deeper (envOfC qual scope s.heap.objs.size f cdv)).frames=some (envOfC qual scope s.heap.objs.size f cdv::outer):=I2.ok.frames
 have hin:∀ env∈(envOfC qual scope s.heap.objs.size f cdv::outer),∀ b,env.frame=some b->b∈frs (envOfC qual scope s.heap.objs.size f cdv::outer):=fun env he b hb=>List.mem_filterMap.mpr ⟨env,he,hb⟩
 have noH:∀ b,s2.heap.get? b=none->H2 b=none:=fun b e=>by
  cases z:H2 b with
  | none=>rfl
  | some u=>obtain ⟨o,eo⟩:=(I2.hok b u z).there;rw [e] at eo;cases eo
 show wpAny _ _ (leaving _ _) _ _ _
 refine wpAny_leaves_madeW (base:=PySem.W.hideAll s2.heap (frs (envOfC qual scope s.heap.objs.size f cdv::outer))) (h:=s2.heap) hfr rfl (fun b o q=>PySem.W.of_hideAll _ q) (PySem.W.funFrames_hide I2.stack hin) hx' fun h'' t x1 x2 x3 x4=>⟨e,.ref C,H2,rfl,?_,hE⟩
 refine fly_out (s2:={ s2 with heap:=h' }) I2 rfl I2.bare (Un.kept hx'.keeps) (I2.hok.kept hx'.keeps) (noH e hx'.new) (fun b o eb hh hb=>?_) x1 fun b hb o eb=>x4 b o eb ?_
 ·have key:∀ o',s2.heap.get? b=some o'->(PySem.W.hideAll s2.heap (frs (envOfC qual scope s.heap.objs.size f cdv::outer))).get? b=some o:=fun o' e'=>by
   have e2:=hx'.keeps b o' e'
   have e3:h'.get? b=some o:=eb
   rw [e2] at e3;cases e3
   exact PySem.W.hideAll_get _ e' hb
  rcases hh with ⟨o',e'⟩ | ⟨u,hu⟩
  ·exact key o' e'
  ·obtain ⟨o',e'⟩:=(I2.hok b u hu).there
   exact key o' e'
 ·obtain ⟨_,o',e',d⟩:=I2.stack.mem (show b∈(envOfC qual scope s.heap.objs.size f cdv::outer).filterMap (·.frame) from List.mem_cons_of_mem _ hb)
  have e2:=hx'.keeps b o' e'
  have e3:h'.get? b=some o:=eb
  rw [e2] at e3;cases e3
  exact d
end
def XPe (X:Cx) (pins:List (Addr × Obj)) (σ:St) (R:XK) (e:Value) (s':Shared):Prop:=∃ a cls H1 s1 H',e=.ref a/\Inv X pins σ H1 s1/\Fly X.prog X.w X.stack H1 s1 H' a cls s'/\R cls none H'
abbrev TX:=St->Hp->VK->XK->Prop
def PEX (X:Cx) (e:Expr) (tx:TX):Prop:=∀ (pins:List (Addr × Obj)) (s:Shared) (σ:St) (H:Hp) (Q:VK) (R:XK),Inv X pins σ H s->tx σ H Q R->wpAny (model X.prog X.w) X.A (eval e X.env) (EP X pins σ Q) (XPe X pins σ R) s
def tCallX (sp:Sp) (dvs:List V) (t:TA):TX:=fun σ H Q R=>t σ H fun vs H1=>sp (vs++dvs) H1 Q R
section
variable {X:Cx} {k:Nat} {f C:Addr} {fd:FuncData} {ps:List Str} {sp:Sp} {dvs:List V} {ds:List Value} {x m:Str} {p pos apos:Pos} {e o:Expr} {es:List Expr} {ta:TE} {t:TA}
theorem run_fnX {pins:List (Addr × Obj)} {σ:St} {H:Hp} {s:Shared} {Q:VK} {R:XK} {us:List Value} {vs:List V} (F:FnOk X.prog X.w X.K X.mg X.base (CXO X.prog X.w) k f fd ps sp) (hr:Room k X.A) (hb:Binds X.K fd ps ds) (hd:Vals dvs ds)
  (I:Inv X pins σ H s) (r:Vals vs us) (h:sp (vs++dvs) H Q R):wpAny (model X.prog X.w) X.A (call (.ref f) us) (EP X pins σ Q) (XPe X pins σ R) s:=by
 have r2:Vals (vs++dvs) (us++ds):=r.append hd
 have hl:(us++ds).length=ps.length:=by rw [<- r2.length];exact F.len _ _ _ _ h
 refine wpAny_call (codeAny_mono (F.run X.A X.stack s H ⟨us,[]⟩ (us++ds) (vs++dvs) Q R hr I.env0 (hb s us I.kIn hl) r2 h) fun r s' hq=>?_)
 cases r with
 | error e =>
  obtain ⟨a,cls,H',rfl,fl,hR⟩:=hq
  exact ⟨a,cls,H,s,H',rfl,I,fl,hR⟩
 | ok fl =>
  cases fl with
  | ret u=>exact I.after hq
  | next=>exact False.elim hq
  | brk=>exact False.elim hq
  | cont=>exact False.elim hq
theorem pex_call (F:FnOk X.prog X.w X.K X.mg X.base (CXO X.prog X.w) k f fd ps sp) (hr:Room k X.A) (hg:Gl X x) (hm:X.mg x=some (.ref f)) (hk:PySem.W.keepIn X.K (.ref f)=true) (hb:Binds X.K fd ps ds) (hd:Vals dvs ds)
  (ha:∀ xe,PA (X.wish xe) (e::es) t) (hdb:(x == ("__debug__" : Str))=false:=by decide) (he:starEach (e::es) X.env=(false,eval e X.env)::starEach es X.env:=by rfl) (hpl:(backTo pos (starEach es X.env)).any (·.1)=false:=by rfl) :
  PEX X (.Call (.Name x p) (e::es) [] pos) (tCallX sp dvs t):=by
 intro pins s σ H Q R I h
 refine wpAny_Call_Name_kw (ld_glob I hg hm ?_ hdb)
 refine PySem.W.callWith_K (h₀:=X.base) I.ok.mod.kin hk (thn (ha (XPe X pins σ R) pos pins s σ H _ (I.wish _) h) fun us s1 ⟨vs,H1,I1,r,q⟩=>⟨I1.unwish.kIn,?_⟩) he hpl
 exact run_fnX F hr hb hd I1.unwish r q
theorem goes_ok {M:Model} {A:Around} {E:Value->Shared->Prop} {pins:List (Addr × Obj)} {σ:St} {H:Hp} {s:Shared} {i:Nat} {x:Str} {hpos:Pos} {Q:Unit->Shared->Prop} (I:Inv X pins σ H s) (hN:X.N.Nodup) (hi:X.N[i]?=some x) (hk:X.env.scope.names.lookup x=some .local)
  (h:∀ s',Inv X pins (σ.set i none) H s'->Q () s'):wpAny M A (do bindName X.env x .none;unbindBehindTheSuite X.env x hpos) Q E s:=by
 obtain ⟨m,hn,hl⟩:=id I.loc
 have hcls:(X.env.scope.kind == .class || (X.env.scope.kind == .module && X.env.locals != X.env.globals))=false:=by rw [I.ok.kind];rfl
 have hiσ:i < σ.length:=by rw [I.len];exact (List.getElem?_eq_some_iff.mp hi).1
 have cne:=I.cne
 refine wpAny_nameGoes_keeps hk hn hcls fun h' v hn' hs=>h _ ?_
 obtain ⟨oL,_,_,hoL,_⟩:=id hn
 have tracked:HOk X.prog X.w H h':=fun b ob e=>by
  refine (I.hok b ob e).stay (fun c w' hc q=>(hs.2 c ?_).trans q) (fun _ q=>q) fun _ _ q=>q
  rintro rfl
  have hfree:=I.free
  rcases hc with rfl | hc
  ·rw [hfree] at e;cases e
  ·rw [hfree] at hc;cases hc
 refine ⟨I.ok,I.os,I.bare,⟨fun b o e n hb hx=>?_,fun b o e n hb hx=>?_,I.base.free,fun b o e hx=>?_,I.base.tups,I.base.frzs,I.base.tbls⟩,⟨_,hn',fun j y v' e1 e2 e3=>?_⟩,fun y c e=>?_,I.free,I.freeC,fun p hp=>?_,tracked,by simpa using I.len⟩
 ·exact (hs.2 b (Nat.ne_of_lt (Nat.lt_of_lt_of_le (Heap.lt_size e) I.ok.above))).trans (I.base.keep b o e n hb hx)
 ·obtain ⟨sl,e1⟩:=I.base.slot b o e n hb hx
  exact ⟨sl,(hs.2 b (Nat.ne_of_lt (Nat.lt_of_lt_of_le (Heap.lt_size e) I.ok.above))).trans e1⟩
 ·obtain ⟨o',e1⟩:=I.base.there b o e hx
  exact ⟨o',(hs.2 b (Nat.ne_of_lt (Nat.lt_of_lt_of_le (Heap.lt_size e) I.ok.above))).trans e1⟩
 ·by_cases hj:j=i
  ·subst hj
   rw [List.getElem?_set_self hiσ] at e2
   cases e2
  ·rw [List.getElem?_set_ne (Ne.symm hj)] at e2
   obtain ⟨u',r',q⟩:=hl j y v' e1 e2 e3
   refine ⟨u',r',?_⟩
   rcases q with ⟨k,e⟩ | ⟨k,c,e,z⟩
   ·refine .inl ⟨k,?_⟩
    have:y≠x:=fun e=>hj (nodup_ix hN e1 (e ▸ hi))
    simp [this,e]
   ·exact .inr ⟨k,c,e,z.sameBut hs (cne y c e)⟩
 ·obtain ⟨w',z⟩:=I.cell y c e
  exact ⟨w',z.sameBut hs (cne y c e)⟩
 ·obtain ⟨e,n,ne,nf,d⟩:=I.pin p hp
  exact ⟨(hs.2 p.1 ne).trans e,n,ne,nf,d⟩
end
def excO (a:Addr) (cls:Value):HO:=.ext fun h=>∃ o vs,h.get? a=some o/\o.cls=cls/\o.data=.fields vs
section
variable {X:Cx} {pins:List (Addr × Obj)} {σ:St} {H1 H2:Hp} {s1 s2:Shared} {a:Addr} {cls a0:Value} {B h':Heap}
abbrev Cx.catch (X:Cx) (a:Addr):Cx:={ X with A:=X.A.mark (some (.ref a)),calm:=false }
theorem Cx.Ok.catch {X:Cx} (ok:X.Ok) (a:Addr):(X.catch a).Ok :=
 ⟨ok.mod,ok.kind,ok.glob,ok.blt,ok.above,ok.inj,ok.has,ok.cab,fun z=>Bool.noConfusion (show false=true from z),ok.frames,ok.stk,ok.exf,ok.bs,ok.bsz,ok.noex,ok.exfs,ok.funs,ok.frf⟩
theorem Inv.catch {H:Hp} {s:Shared} (I:Inv X pins σ H s) (a:Addr):Inv (X.catch a) pins σ H s:=⟨I.ok.catch a,I.os,I.bare,I.base,I.loc,I.cell,I.free,I.freeC,I.pin,I.hok,I.len⟩
theorem Inv.uncatch {H:Hp} {s:Shared} (ok:X.Ok) (I:Inv ((X.catch a).nox) pins σ H s):Inv X pins σ H s:=⟨ok,I.os,I.bare,I.base,I.loc,I.cell,I.free,I.freeC,I.pin,I.hok,I.len⟩
theorem fly_in (I:Inv X pins σ H1 s1) (fl:Fly X.prog X.w X.stack H1 s1 H2 a cls s2) (hB:∀ b o,s2.heap.get? b=some o->((∃ q,s1.heap.get? b=some q)\/∃ u,H2 b=some u)->b ∉ frs X.stack->B.get? b=some o)
  (hfl:Heap.FlyingW B X.stack a cls a0 h') (hsl:∀ b∈frs X.stack,∀ o,s2.heap.get? b=some o->∃ sl,h'.get? b=some { o with slots:=sl }) :
  Inv X pins σ H2 { s2 with heap:=h' }/\Inv X pins σ (upd H2 a (excO a cls)) { s2 with heap:=h' }:=by
 have un:=fl.un
 have hst:∀ b∈frs X.stack,H2 b=none:=fun b hb=>by
  obtain ⟨_,o,e,_⟩:=I.stack.mem (show b∈X.stack.filterMap (·.frame) from hb)
  exact un.free b o e (I.stkFree b hb) (by simp)
 have inB:∀ b o,s1.heap.get? b=some o->b ∉ frs X.stack->∀ o2,s2.heap.get? b=some o2->h'.get? b=some o2:=fun b o e hb o2 e2=>hfl.1 b o2 (hB b o2 e2 (.inl ⟨o,e⟩) hb)
 have trB:∀ b u,H2 b=some u->∀ o2,s2.heap.get? b=some o2->h'.get? b=some o2:=fun b u e o2 e2=>hfl.1 b o2 (hB b o2 e2 (.inr ⟨u,e⟩) fun z=>by rw [hst b z] at e;cases e)
 have un':Un (frs X.stack) [] H1 H2 s1.heap h':=by
  refine ⟨fun b o e n hb hx=>inB b o e hb o (un.keep b o e n hb hx),fun b o e n hb hx=>?_,un.free,fun b o e hx=>?_,un.tups,un.frzs,un.tbls⟩
  ·obtain ⟨sl2,e2⟩:=un.any e n hx
   obtain ⟨sl3,e3⟩:=hsl b hb _ e2
   exact ⟨sl3,e3⟩
  ·obtain ⟨o2,e2⟩:=un.there b o e hx
   by_cases hb:b∈frs X.stack
   ·obtain ⟨sl,e3⟩:=hsl b hb _ e2
    exact ⟨_,e3⟩
   ·exact ⟨o2,inB b o e hb o2 e2⟩
 have hok':HOk X.prog X.w H2 h':=fun b u e=>by
  refine (fl.hok b u e).stay (fun c v hc q=>?_) (fun _ q=>q) fun _ _ q=>q
  rcases hc with z | z
  ·subst z;exact trB c u e v q
  ·exact trB c _ z v q
 obtain ⟨oe,vs,he,hc,hd,_⟩:=hfl.first
 have anew:s1.heap.get? a=none:=by
  cases q:s1.heap.get? a with
  | none=>rfl
  | some o =>
   exfalso
   by_cases hb:a∈frs X.stack
   ·obtain ⟨_,o',e',d⟩:=hfl.2.2.1.mem (show a∈X.stack.filterMap (·.frame) from hb)
    rw [he] at e';cases e'
    exact d vs hd
   ·obtain ⟨o2,e2⟩:=un.there a o q (by simp)
    have:=hB a o2 e2 (.inl ⟨o,q⟩) hb
    rw [hfl.2.1] at this;cases this
 have aH1:H1 a=none:=by
  cases z:H1 a with
  | none=>rfl
  | some u=>obtain ⟨o,eo⟩:=(I.hok a u z).there;rw [anew] at eo;cases eo
 refine ⟨I.call' (ch:=[]) (s':={ s2 with heap:=h' }) fl.os un' hok' fl.bare (fun b z=>nomatch z),I.call' (ch:=[]) (s':={ s2 with heap:=h' }) fl.os ?_ ?_ fl.bare (fun b z=>nomatch z)⟩
 ·have na:∀ b o,s1.heap.get? b=some o->b≠a:=fun b o e z=>by rw [z,anew] at e;cases e
  refine ⟨un'.keep,un'.slot,fun b o e n hx=>by rw [upd_ne (na b o e)];exact un'.free b o e n hx,un'.there,fun b xs e=>?_,fun b o u e=>?_,fun b ps e=>?_⟩
  ·rw [upd_ne (ne_of_none e aH1)];exact un.tups b xs e
  ·rw [upd_ne (ne_of_none e aH1)];exact un.frzs b o u e
  ·rw [upd_ne (ne_of_none e aH1)];exact un.tbls b ps e
 ·intro b u e
  by_cases hb:b=a
  ·subst hb
   rw [upd_same] at e;cases e
   refine ⟨⟨oe,vs,he,hc,hd⟩,⟨oe,he⟩,fun g1 g2 ⟨o,vs',q1,q2,q3⟩ k=>⟨o,vs',k o q1,q2,q3⟩⟩
  ·rw [upd_ne hb] at e
   refine (hok' b u e).stay (fun c v _ q=>q) (fun c q=>by rw [upd_ne (ne_of_none q fl.an)];exact q) fun c xs q=>by rw [upd_ne (ne_of_none q fl.an)];exact q
end
section
variable {X:Cx} {e:Expr} {tx:TX} {ts:TS} {x n:Str} {c:Value} {i:Nat} {b₀:Stmt} {suite:List Stmt} {pos pos' np hpos:Pos}
end
section
variable {prog:Program} {w:World} {A:Around} {E:Value->Shared->Prop} {h:Heap} {g:Array GenState} {d:Drawn} {t:Nat} {os:OsState} {K:PySem.W.Frag} {a C:Addr} {o:Obj} {vs:Array Value}
theorem owner_class:(".".intercalate ("object.__class__".cutAt '.').dropLast)="object" := by decide +kernel
theorem exc_class_get {R:Result->Shared->Prop} (X:K.In h) (hx:h.get? a=some o) (hc:o.cls=.ref C) (m1:PySem.W.mroIn K C (.type "object")=some true) (hq:R (.ok (.ret (.ref C))) ⟨h,g,d,t,os⟩) :
  codeAny (model prog w) A (.call (.builtin "getset_descriptor.__get__") ⟨[.builtin "object.__class__",.ref a,.ref C],[]⟩) R ⟨h,g,d,t,os⟩:=by
 have hT5:(⟨h,g,d,t,os⟩:Shared).TypeIs (.builtin "object.__class__") "getset_descriptor" := F.typeOf_object_class
 have L1:=PySem.W.looks_mroIn (M:=model prog w) X m1
 rw [<- owner_class] at L1
 refine codeAny_call_builtin F.slot_gs_get.plain F.entry_gs_get (F.slot_gs_get.check _ _ _ _ _ _ _ _ hT5 (F.args_gs_get _ _ _) ?_)
 repeat (any_goals (first | assumption | (with_reducible refine wpAny_loadPart_at hx ?_;rw [hc]) | with_reducible refine L1.at ?_ | wp_step))
 refine ⟨Code.quiet_builtin _ (by decide +kernel),codeAny_builtin F.entry_object_class ?_⟩
 repeat (any_goals (first | assumption | (with_reducible refine wpAny_loadPart_at hx ?_;rw [hc]) | wp_step))
theorem exc_class_entry {tk:Tok} {Q:PySem.Fin->Shared->Prop} (X:K.In h) (hx:h.get? a=some o) (hc:o.cls=.ref C) (m1:PySem.W.mroIn K C (.type "object")=some true) (g3:PySem.W.findIn K (.ref C) "__class__" = some (some (.builtin "object.__class__")))
  (hq:Q (.done (.ret (.ref C))) ⟨h,g,d,t,os⟩):wpAny (model prog w) A (Builtin.«object.__getattribute__» ⟨[.ref a,.str "__class__" tk],[]⟩) Q E ⟨h,g,d,t,os⟩:=by
 have hT5:(⟨h,g,d,t,os⟩:Shared).TypeIs (.builtin "object.__class__") "getset_descriptor" := F.typeOf_object_class
 have L3:=PySem.W.looks_findIn (M:=model prog w) X g3
 have f5:=F.typeOf_object_class
 have f6:=F.slot_gs_get.lookup
 have f7:=F.slot_gs_set.lookup
 repeat (any_goals (first | assumption | (with_reducible refine wpAny_loadPart_at hx ?_;rw [hc]) | with_reducible refine L3.at ?_ | wp_step))
 refine exc_class_get X hx hc m1 ?_
 repeat (any_goals (first | assumption | wp_step))
theorem exc_check {M:Model} {nameV:Value} {Q:Unit->Shared->Prop} (X:K.In h) (hx:h.get? a=some o) (hc:o.cls=.ref C) (m2:PySem.W.mroIn K C (.type "BaseException")=some true) (hq:Q () ⟨h,g,d,t,os⟩) :
  wpAny M A (checkBuiltinCall "BaseException.__getattribute__" ⟨[.ref a,nameV],[]⟩) Q E ⟨h,g,d,t,os⟩:=by
 have hk:builtinKind "BaseException.__getattribute__" = some .slot:=by decide +kernel
 have hsplit:splitId "BaseException.__getattribute__" = some ("BaseException","__getattribute__"):=by decide +kernel
 have L2:=PySem.W.looks_mroIn (M:=M) X m2
 have ha:=F.args_bexc_ga (.ref a) nameV
 simp only [checkBuiltinCall,hk,hsplit]
 refine wpAny_bind ?_
 ·unfold isInstance
  repeat (first | (with_reducible refine wpAny_loadPart_at hx ?_;rw [hc]) | with_reducible refine L2.at ?_ | wp_step)
  exact hq
theorem exc_class_call {tk:Tok} {R:Result->Shared->Prop} (X:K.In h) (hx:h.get? a=some o) (hc:o.cls=.ref C) (m1:PySem.W.mroIn K C (.type "object")=some true) (m2:PySem.W.mroIn K C (.type "BaseException")=some true)
  (g3:W.findIn K (.ref C) "__class__" = some (some (.builtin "object.__class__"))) (hq:R (.ok (.ret (.ref C))) ⟨h,g,d,t,os⟩) :
  codeAny (model prog w) A (.call (.builtin "BaseException.__getattribute__") ⟨[.ref a,.str "__class__" tk],[]⟩) R ⟨h,g,d,t,os⟩ :=
 codeAny_call_builtin F.attr_ValueError.ga.plain F.entry_bexc_ga (exc_check X hx hc m2 (exc_class_entry X hx hc m1 g3 hq))
theorem exc_class_by {tk:Tok} {Q:Value->Shared->Prop} (X:K.In h) (hx:h.get? a=some o) (hc:o.cls=.ref C) (m1:PySem.W.mroIn K C (.type "object")=some true) (m2:PySem.W.mroIn K C (.type "BaseException")=some true)
  (g1:W.findIn K (.ref C) "__getattribute__" = some (some (.builtin "BaseException.__getattribute__"))) (g2:W.findIn K (.ref C) "__getattr__" = some none) (g3:W.findIn K (.ref C) "__class__" = some (some (.builtin "object.__class__")))
  (hq:Q (.ref C) ⟨h,g,d,t,os⟩):wpAny (model prog w) A (getAttrBy (.ref a) (.str "__class__" tk) false) Q E ⟨h,g,d,t,os⟩:=by
 have f3:=F.attr_ValueError.ga.bind (.ref a)
 have L1:=PySem.W.looks_findIn (M:=model prog w) X g1
 have L2:=PySem.W.looks_findIn (M:=model prog w) X g2
 have hx2:(Value.builtin "BaseException.__getattribute__" == Value.builtin "object.__getattribute__")=false:=by decide +kernel
 have hx1:(onTheHeap (Value.ref C) && Value.builtin "BaseException.__getattribute__" == Value.builtin "object.__getattribute__")=false:=by rw [hx2];rfl
 repeat (any_goals (first | assumption | (with_reducible refine wpAny_loadPart_at hx ?_;rw [hc]) | with_reducible refine L1.at ?_ | with_reducible refine L2.at ?_ | wp_step))
 refine exc_class_call X hx hc m1 m2 g3 ?_
 repeat (any_goals (first | assumption | wp_step))
end
structure ExcCl (K:PySem.W.Frag) (C:Addr):Prop where
 cl:(PySem.W.clsIn K C).isSome=true
 m1:PySem.W.mroIn K C (.type "object")=some true
 m2:PySem.W.mroIn K C (.type "BaseException")=some true
 g1:PySem.W.findIn K (.ref C) "__getattribute__" = some (some (.builtin "BaseException.__getattribute__"))
 g2:PySem.W.findIn K (.ref C) "__getattr__" = some none
 g3:PySem.W.findIn K (.ref C) "__class__" = some (some (.builtin "object.__class__"))
theorem kitx_exc {K:PySem.W.Frag} {a C:Addr} (x:ExcCl K C):PySem.W.KitX K (.ref a) (.ref C) (fun h=>∃ o vs,h.get? a=some o/\o.cls=.ref C/\o.data=.fields vs) where
 ty:=fun M h _ ⟨o,vs,ho,hc,_⟩=>by
  have L:=(PySem.W.Looks.ld (M:=M) (part:=none) ho)
  have e:PySem.W.Looks M h (typeOf (.ref a)) o.cls:=(PySem.W.Looks.ld ho).andThen .now
  rw [hc] at e
  exact e
 it:=fun _ _ X _=>by
  obtain ⟨cdD,hcD⟩:=Option.isSome_iff_exists.mp x.cl
  unfold PySem.W.clsIn at hcD
  split at hcD
  ·rename_i c' d' cd' sl' ho
   intro A' Q' E' s' k q
   unfold isType loadHead
   exact wpAny_bind (wpAny_loadPart (k _ _ (X _ _ ho)) (wpAny_pure q))
  ·cases hcD
 ne:=fun h tp dd its n sl X htp=>by
  obtain ⟨cdD,hcD⟩:=Option.isSome_iff_exists.mp x.cl
  refine Bool.eq_false_iff.mpr fun q=>?_
  have e:C=tp:=Value.ref.inj (beq_iff_eq.mp q)
  subst e
  unfold PySem.W.clsIn at hcD
  split at hcD
  ·rename_i c' d' cd' sl' ho
   have z:=(X _ _ ho).symm.trans htp
   cases z
  ·cases hcD
 ca:=fun {prog w A E Q s} X ⟨o,vs,ho,hc,hd⟩ k=>by
  obtain ⟨h,g,d,t,os⟩:=s
  unfold getAttr? getAttrBy?
  refine wpAny_bind (wpAny_mkText (wpAny_bind (wpAny_attempt ?_)))
  exact exc_class_by X ho hc x.m1 x.m2 x.g1 x.g2 x.g3 (wpAny_pure k)
section
variable {X:Cx}
theorem call_isinstE:CallR X (.builtin "isinstance") (fun xs H Q=>∃ (a C:Addr) (c:V) (cv:Value) (b:Bool),xs=[.ref a,c]/\(∀ u,RelV c u->u=cv)/\H a=some (excO a (.ref C))/\ExcCl X.K C/\PySem.W.kitOne X.K (.ref C) cv=some b/\Q (.bl b) H):=by
 intro pins s σ H xs us Q I r h
 obtain ⟨a,C,c,cv,b,rfl,hc,hH,x,e,q⟩:=h
 obtain ⟨u,v,rfl,ru,rv⟩:=vals2 r
 cases ru
 cases hc v rv
 obtain ⟨p,_,_⟩:=I.hok a _ hH
 exact PySem.W.kia_one (kitx_exc x) I.kIn p e (fun z=>nomatch z) fun tk=>⟨.bl b,H,I.tok _,rfl,q⟩
theorem call_isinstT:CallR X (.builtin "isinstance") (fun xs H Q=>∃ (a C tp:Addr) (cs:List V) (cvs:List Value) (b:Bool),xs=[.ref a,.ref tp]/\H tp=some (.tup cs)/\(∀ us,Vals cs us->us=cvs)/\H a=some (excO a (.ref C))/\ExcCl X.K C/\PySem.W.kitAny X.K (.ref C) cvs=some b/\Q (.bl b) H):=by
 intro pins s σ H xs us Q I r h
 obtain ⟨a,C,tp,cs,cvs,b,rfl,htp,hcs,hH,x,e,q⟩:=h
 obtain ⟨u,v,rfl,ru,rv⟩:=vals2 r
 cases ru
 cases rv
 obtain ⟨p,_,_⟩:=I.hok a _ hH
 obtain ⟨z,its,rt,⟨o,ho,hc,n,hd⟩⟩:=I.hok tp _ htp
 cases hcs its rt
 obtain ⟨c0,d0,dt0,sl0⟩:=o
 cases hc
 cases hd
 exact PySem.W.kia_tup (kitx_exc x) I.kIn p ho e (fun z=>nomatch z) fun tk=>⟨.bl b,H,I.tok _,rfl,q⟩
end
def addS (σ:List Str) (z:Str):List Str:=if z∈σ then σ else z::σ
def dist (zs:List Str):List Str:=zs.foldl addS []
theorem mem_addS {σ:List Str} {z k:Str}:k∈addS σ z ↔ k∈σ\/k=z:=by
 unfold addS
 split
 ·exact ⟨.inl,fun h=>h.elim id fun e=>by rw [e];assumption⟩
 ·rw [List.mem_cons];exact or_comm
theorem len_addS (σ:List Str) (z:Str):(addS σ z).length=if z∈σ then σ.length else σ.length+1:=by
 unfold addS;split<;>simp
theorem dist_snoc (zs:List Str) (z:Str):dist (zs++[z])=addS (dist zs) z:=by simp [dist,List.foldl_append]
theorem fold_le:∀ (zs σ:List Str),(zs.foldl addS σ).length<=σ.length+zs.length
 | [],σ=>by simp
 | z::zs,σ=>by
  have h:=fold_le zs (addS σ z)
  rw [len_addS] at h
  simp only [List.foldl_cons,List.length_cons]
  split at h<;>omega
theorem dist_le (zs:List Str):(dist zs).length<=zs.length:=by
 have h:=fold_le zs []
 rw [List.length_nil,Nat.zero_add] at h
 exact h
theorem fold_nd:∀ (zs σ:List Str),zs.Nodup->(∀ z∈zs,z ∉ σ)->(zs.foldl addS σ).length=σ.length+zs.length
 | [],σ,_,_=>by simp
 | z::zs,σ,nd,h=>by
  rw [List.nodup_cons] at nd
  simp only [List.foldl_cons,List.length_cons]
  rw [fold_nd zs (addS σ z) nd.2 fun y hy q=>?_,len_addS,if_neg (h z List.mem_cons_self)]
  ·omega
  ·rcases mem_addS.mp q with q | q
   ·exact h y (List.mem_cons_of_mem _ hy) q
   ·exact nd.1 (q ▸ hy)
theorem dist_nd {zs:List Str} (nd:zs.Nodup):(dist zs).length=zs.length:=by
 have h:=fold_nd zs [] nd fun _ _ h=>nomatch h
 rw [List.length_nil,Nat.zero_add] at h
 exact h
theorem strs_at:∀ {its:List Value} {zs:List Str} {i:Nat} {v:Value},StrsAre its zs->its[i]?=some v->∃ z t,zs[i]?=some z/\v=.str z t:=by
 intro its zs i v h
 induction h generalizing i with
 | nil=>intro e;simp at e
 | cons z t _ ih =>
  intro e
  cases i with
  | zero=>simp at e;exact ⟨z,t,rfl,e.symm⟩
  | succ i=>exact ih (by simpa using e)
theorem strs_len:∀ {its:List Value} {zs:List Str},StrsAre its zs->its.length=zs.length:=by
 intro its zs h
 induction h with
 | nil=>rfl
 | cons z t _ ih=>simp [ih]
theorem of_strs:∀ {its:List Value} {zs:List Str},StrsAre its zs->Vals (zs.map V.str) its:=by
 intro its zs h
 induction h with
 | nil=>exact .nil
 | cons z t _ ih=>exact .cons ⟨t,rfl⟩ ih
section
variable {prog:Program} {w:World} {A:Around} {I S:Addr} {fp wr:List Addr} {G:Array GenState->Array GenState->Prop} {P:Nat->Value->Prop} {St:Nat->Shared->Prop} {zs:List Str} {R:Result->Shared->Prop}
abbrev TxtSet (prog:Program) (w:World) (h:Heap) (S:Addr) (zs:List Str):Prop:=h.SetOf (strKind prog w) S (fun k=>decide (k∈dist zs)) (dist zs).length
theorem TxtSet.keep {h h':Heap} (x:TxtSet prog w h S zs) (k:∀ o,h.get? S=some o->h'.get? S=some o):TxtSet prog w h' S zs:=by
 obtain ⟨o,es,ep,t,ho,r⟩:=x
 exact ⟨o,es,ep,t,k o ho,r⟩
theorem TxtSet.more {h:Heap} {z:Str} (x:h.SetOf (strKind prog w) S (fun k=>decide (k∈dist zs) || decide (k=z)) (if decide (z∈dist zs)=true then (dist zs).length else (dist zs).length+1)):TxtSet prog w h S (zs++[z]):=by
 have e1:(fun k=>decide (k∈dist (zs++[z])))=fun k=>decide (k∈dist zs) || decide (k=z):=by
  funext k;rw [dist_snoc,Bool.eq_iff_iff];simp [mem_addS]
 have e2:(dist (zs++[z])).length=if decide (z∈dist zs)=true then (dist zs).length else (dist zs).length+1:=by
  rw [dist_snoc,len_addS];simp
 unfold TxtSet
 rw [e1,e2];exact x
theorem texts_in (W:WalksS prog w A.in1 I fp wr G zs.length P St) (off:S ∉ fp) (hz:∀ i v,P i v->∃ z t,zs[i]?=some z/\v=.str z t) (small:zs.length+1 < scanBound) :
  ∀ (left i:Nat) (s:Shared),i+left=zs.length->St i s->TxtSet prog w s.heap S (zs.take i) ->
   (∀ s',Moved (S::wr) G s s'->TxtSet prog w s'.heap S zs->R (.ok (.ret .none)) s')->codeAny (model prog w) A (.builtin "set.update.loop" ⟨[.ref S,.ref I],[]⟩) R s
 | 0,i,s,hi,st,x,k=>by
  have e:zs.take i=zs:=List.take_of_length_le (by omega)
  rw [show i=zs.length by omega] at st
  refine codeAny_builtin F.entry_set_update_loop ?_
  rw [Around.under_plainId F.plain_set_update_loop _]
  apply wpAny_bind
  refine W.done s _ _ st fun s' m=>?_
  exact wpAny_pure (k s' (m.mono fun b hb=>List.mem_cons_of_mem _ hb) (by rw [e] at x;exact x.keep fun o ho=>m.heap S o (fun hs=>off (W.sub _ hs)) ho))
 | left+1,i,s,hi,st,x,k=>by
  refine codeAny_builtin F.entry_set_update_loop ?_
  rw [Around.under_plainId F.plain_set_update_loop _]
  apply wpAny_bind
  refine W.item i s _ _ (by omega) st fun v s1 p st1 m=>?_
  obtain ⟨z,t,ez,rfl⟩:=hz i v p
  have x1:=x.keep fun o ho=>m.heap S o (fun hs=>off (W.sub _ hs)) ho
  have et:zs.take (i+1)=zs.take i++[z]:=by rw [List.take_add_one,ez];rfl
  have yes:(strKind prog w).is z (.str z t)=true:=by show Value.isStrOf z (.str z t)=true;simp [Value.isStrOf]
  show wpAny _ A.in1 (holding [Value.str z t] (setAdd S (.str z t)) >>= _) _ _ s1
  apply wpAny_bind;apply wpAny_holding
  show wpAny _ A.in1 (holding _ _) _ _ _
  apply wpAny_holding;apply wpAny_bind
  refine (strKind prog w).pyHash yes ?_
  have few:=dist_le (zs.take i)
  rw [List.length_take] at few
  refine wpAny_setAddHashed_of (knd:=strKind prog w) (s:={ s1 with toks:=s1.toks+1 }) yes rfl x1 (by omega) fun h2 sb x2=>?_
  refine wpAny_pure ⟨plainId_quiet F.plain_set_update_loop _,texts_in W off hz small left (i+1) _ (by omega) ?_ (by rw [et];exact TxtSet.more x2) fun s3 m3 x3=>?_⟩
  ·exact W.frame _ s1 _ _ st1 (Nat.le_succ _) fun b hb o e=>(sb.2 b fun z'=>off (z' ▸ hb)).trans e
  ·refine k s3 (Moved.trans W.gtrans ((m.mono fun b hb=>List.mem_cons_of_mem _ hb).then_heap (Nat.le_succ _) fun b o hb e=>?_) m3) x3
   exact (sb.2 b fun z'=>hb (by rw [z'];exact List.mem_cons_self)).trans e
end
section
variable {prog:Program} {w:World} {A:Around} {E:Value->Shared->Prop} {s:Shared}
theorem made_by {T newId initId:String} {args:List Value} {Q:Value->Shared->Prop} (ft:TypeCalled T newId initId) (hc:checkTypeCall T ⟨args,[]⟩=pure ())
  (h:codeAny (model prog w) A.in1 (.call (.builtin newId) ⟨.type T::args,[]⟩) (wants (fun x t=>t.TypeIs x T/\codeAny (model prog w) A.in1 (.call (.builtin initId) ⟨x::args,[]⟩) (wants (fun r t'=>r=.none/\Q x t') E) t) E) s) :
  wpAny (model prog w) A (call (.type T) args) Q E s:=by
 have q1:=ft.made
 have q2:=ft.sub
 have q3:=ft.notType
 have q4:=ft.canCreate
 have q5:=ft.init.lookup
 obtain ⟨_,_,q6⟩:=ft.mro
 apply wpAny_call;apply codeAny_of_tree
 show wpAny _ _ (callAny (.type T) _) _ _ _
 apply wpAny_pure
 refine ⟨Code.quiet_builtin _ (by decide +kernel),codeAny_builtin PySem.F.entry_type_call ?_⟩
 rw [Around.under_plain (weight_type_call_type T args []) rfl]
 repeat (any_goals (first | wp_step | assumption))
 apply codeAny_mono h
 rintro (e | f) t k
 ·exact k
 cases f<;>first | exact k.elim | skip
 rename_i x
 have q7:=ft.init.bind x
 obtain ⟨ty,k⟩:=k
 repeat (any_goals (first | wp_step | assumption))
 apply codeAny_mono k
 rintro (e | f) t' k'
 ·exact k'
 cases f<;>first | exact k'.elim | skip
 obtain ⟨z,k'⟩:=k'
 cases z
 repeat (any_goals (first | wp_step | assumption))
theorem set_texts {l:Addr} {its:List Value} {zs:List Str} {Q:Value->Shared->Prop} (hh:A.handled=none) (hl:s.heap.IsList l its.toArray) (hz:StrsAre its zs) (small:zs.length+1 < scanBound)
  (h:∀ (h':Heap) (tk:Nat),TxtSet prog w h' s.heap.objs.size zs->(∀ b o,s.heap.get? b=some o->h'.get? b=some o)->Q (.ref s.heap.objs.size) { s with heap:=h',toks:=tk }) :
  wpAny (model prog w) A (call (.type "set") [.ref l]) Q E s:=by
 refine made_by PySem.F.called_set (PySem.F.typeCall_set_1 _) (code_set_new_1 (.ref l) fun led=>?_)
 generalize hh1:s.heap.push { cls:=.type "set",dict:=none,data:=.set #[] 0 (.fresh 0 0 led) }=h1
 have kp:∀ b o,s.heap.get? b=some o->h1.get? b=some o:=fun b o e=>by rw [<- hh1];exact Heap.get?_push_of_some _ e
 have sz:h1.objs.size=s.heap.objs.size+1:=by rw [<- hh1];exact Heap.size_push ..
 have new:h1.get? s.heap.objs.size=some { cls:=.type "set",dict:=none,data:=.set #[] 0 (.fresh 0 0 led) }:=by rw [<- hh1];exact Heap.get?_push_size _ rfl
 have ty:({ s with heap:=h1 }:Shared).TypeIs (.ref s.heap.objs.size) "set" := ⟨_,new,rfl⟩
 refine ⟨ty,codeAny_call_builtin PySem.F.called_set.init.plain PySem.F.entry_set_init (check_set_init_1 ty ?_)⟩
 have el:its.length=zs.length:=strs_len hz
 obtain ⟨⟨c,d,dt,sl⟩,ho,rfl,n,rfl⟩:=hl
 have ho1:=kp _ _ ho
 have lt:@LT.lt Nat _ l s.heap.objs.size:=Heap.lt_size ho
 have il:h1.IsList l its.toArray:=⟨_,ho1,rfl,n,rfl⟩
 have n1:=PySem.F.sub_list_set
 have n2:=PySem.F.sub_list_frozenset
 have n3:(Value.type "list" == Value.type "dict")=false:=by decide
 unfold Builtin.«set.__init__» noKeywords Builtin.Frozenset.updateFrom
 generalize pi:pyIter=it
 wp_walk
 subst pi
 apply wpAny_pyIter_list il
 apply wpAny_bind;apply wpAny_runValue
 have W:=(Walks.list (prog:=prog) (w:=w) (A:=A.in1.in1.in1) (by simpa using hh) h1.objs.size l (by rw [sz];exact Nat.ne_of_lt (Nat.lt_succ_of_lt lt)) its.toArray).toS
 have e0:its.toArray.size=zs.length:=by rw [List.size_toArray];exact el
 rw [e0] at W
 refine texts_in (zs:=zs) W ?_ (fun i v p=>?_) small zs.length 0 _ (Nat.zero_add _) ⟨⟨_,Heap.get?_push_size _ rfl,rfl,rfl⟩,il.push _⟩ ?_ fun t m x=>?_
 ·rw [sz]
  intro q
  rcases List.mem_cons.mp q with q | q
  ·exact absurd q (Nat.ne_of_lt (Nat.lt_succ_self _))
  ·exact absurd (List.mem_singleton.mp q) (Nat.ne_of_gt lt)
 ·have p':its[i]?=some v:=by simpa using p
  exact strs_at hz p'
 ·exact (setObjOf_fresh (knd:=strKind prog w) led).setOf (Heap.get?_push_of_some _ new) (by decide)
 ·obtain ⟨h2,g2,d2,t2,o2⟩:=t
  cases (show g2=s.gens from m.gens)
  cases (show d2=s.drawn from m.drawn)
  cases (show o2=s.os from m.os)
  apply wpAny_pure
  refine wpAny_pure ⟨rfl,h h2 t2 x fun b o e=>m.heap b o ?_ (Heap.get?_push_of_some _ (kp b o e))⟩
  have lb:@LT.lt Nat _ b s.heap.objs.size:=Heap.lt_size e
  rw [sz]
  intro q
  rcases List.mem_cons.mp q with q | q
  ·exact absurd q (Nat.ne_of_lt lb)
  ·exact absurd (List.mem_singleton.mp q) (Nat.ne_of_lt (Nat.lt_succ_of_lt lb))
end
def leS (a b:Str):Bool:=decide (a.cps.toList<=b.cps.toList)
theorem leS_iff {a b:Str}:leS a b=true ↔ a.cps.toList<=b.cps.toList:=by simp [leS]
theorem leS_trans {a b c:Str} (h:leS a b=true) (k:leS b c=true):leS a c=true:=leS_iff.mpr (List.le_trans (leS_iff.mp h) (leS_iff.mp k))
theorem leS_anti {a b:Str} (h:leS a b=true) (k:leS b a=true):a=b:=by
 have e:=List.le_antisymm (leS_iff.mp h) (leS_iff.mp k)
 cases a;cases b
 simp only [Str.mk.injEq]
 exact Array.toList_inj.mp e
theorem leS_total (a b:Str):(leS a b || leS b a)=true:=by
 rcases List.le_total a.cps.toList b.cps.toList with h | h
 ·simp [leS_iff.mpr h]
 ·simp [leS_iff.mpr h]
def srt (zs:List Str):List Str:=zs.mergeSort leS
theorem srt_perm (zs:List Str):(srt zs).Perm zs:=List.mergeSort_perm _ _
theorem srt_pw (zs:List Str):(srt zs).Pairwise fun a b=>leS a b=true:=List.pairwise_mergeSort (le:=leS) (fun _ _ _ h k=>leS_trans h k) leS_total zs
theorem rising_pw:∀ (l:List Str) (p:Str),risingS p l=true->(p::l).Pairwise fun a b=>leS a b=true
 | [],p,_=>by simp
 | x::r,p,h=>by
  have h':(!ltCps x.cps.toList p.cps.toList && risingS x r)=true:=h
  rw [Bool.and_eq_true] at h'
  have ih:=rising_pw r x h'.2
  have px:leS p x=true:=by
   have:=h'.1
   rw [ltCps_eq] at this
   refine leS_iff.mpr ?_
   intro q
   rw [decide_eq_true q] at this
   cases this
  refine List.pairwise_cons.mpr ⟨fun y hy=>?_,ih⟩
  rcases List.mem_cons.mp hy with rfl | hy
  ·exact px
  ·exact leS_trans px ((List.pairwise_cons.mp ih).1 y hy)
theorem sorted_pw:∀ (l:List Str),sortedS l=true->l.Pairwise fun a b=>leS a b=true
 | [],_=>.nil
 | x::r,h=>rising_pw r x h
theorem pw_uniq:∀ {l m:List Str},l.Perm m->(l.Pairwise fun a b=>leS a b=true)->(m.Pairwise fun a b=>leS a b=true)->l=m
 | [],m,p,_,_=>(List.nil_perm.mp p).symm
 | x::l,[],p,_,_=>absurd p (by simp)
 | x::l,y::m,p,a,b=>by
  have a':=List.pairwise_cons.mp a
  have b':=List.pairwise_cons.mp b
  have e:x=y:=by
   rcases List.mem_cons.mp (p.mem_iff.mp List.mem_cons_self) with q | q
   ·exact q
   rcases List.mem_cons.mp (p.mem_iff.mpr List.mem_cons_self) with q' | q'
   ·exact q'.symm
   ·exact leS_anti (a'.1 y q') (b'.1 x q)
  subst e
  rw [pw_uniq ((List.perm_cons _).mp p) a'.2 b'.2]
theorem srt_of {zs ss:List Str} (p:ss.Perm zs) (h:ss.Pairwise fun a b=>leS a b=true):ss=srt zs:=pw_uniq (p.trans (srt_perm zs).symm) h (srt_pw zs)
theorem srt_len (zs:List Str):(srt zs).length=zs.length:=(srt_perm zs).length_eq
section
variable {X:Cx}
theorem call_sorted_txt:CallR X (.builtin "sorted") (fun xs H Q=>∃ (p:Addr) (zs:List Str),xs=[.ref p]/\SqL X.K H p (zs.map V.str)/\zs.length < 64/\∀ l,H l=none->Q (.ref l) (upd H l (.lst ((srt zs).map V.str)))):=by
 intro pins s σ H xs us Q I r h
 obtain ⟨p,zs,rfl,hq,few,q⟩:=h
 obtain ⟨u,rfl,rx⟩:=vals1 r
 cases rx
 obtain ⟨its,rv,pl,hz⟩:=I.list hq
 have el:=strs_len (strs_of rv)
 refine sorted_strs pl.isList (strs_of rv) (by omega) fun out ss a1 a2 a3=>?_
 have e:=srt_of a2 (sorted_pw ss a3)
 subst e
 obtain ⟨n,hn⟩:=sortedAll_at s.heap its out
 have lb:((srt zs).map V.str).length<=sizeLine:=by
  rw [List.length_map,srt_len]
  exact Nat.le_trans (Nat.le_of_lt few) (by decide)
 refine ⟨.ref (s.heap.objs.size+1),_,I.laid (t':=s.toks) (o:=.lst ((srt zs).map V.str)) (fun b o e=>sortedAll_old e) (Nat.le_succ _) ?_,rfl,q _ (I.hok.fresh (Nat.le_succ _))⟩
 exact ⟨lb,out.toList,n,of_strs a1,by rw [hn]⟩
end
def Al (K:PySem.W.Frag) (H:Hp):Nat->V->V->Prop
 | 0,x,y=>flatV x=true/\x=y
 | n+1,x,y=>(flatV x=true/\x=y)\/∃ p q xs ys,x=.ref p/\y=.ref q/\((SqL K H p xs/\SqL K H q ys)\/(SqT K H p xs/\SqT K H q ys))/\xs.length=ys.length/\∀ (i:Nat) a b,xs[i]?=some a->ys[i]?=some b->Al K H n a b
def AlS (K:PySem.W.Frag) (H:Hp) (n:Nat) (x y:V):Prop :=
 ∃ p q xs ys,x=.ref p/\y=.ref q/\((SqL K H p xs/\SqL K H q ys)\/(SqT K H p xs/\SqT K H q ys))/\xs.length=ys.length/\∀ (i:Nat) a b,xs[i]?=some a->ys[i]?=some b->Al K H n a b
theorem eqV_self {x:V} (h:flatV x=true):eqV x x=true:=by
 cases x<;>first | (exact absurd h Bool.false_ne_true) | simp [eqV]
theorem all_range (n:Nat):(List.range n).all (fun _=>true)=true:=by simp
section
variable {X:Cx} {pins:List (Addr × Obj)} {σ:St} {H:Hp} {s:Shared}
theorem al_at (I:Inv X pins σ H s):∀ (n:Nat) (x y:V) (u v:Value) (A:Around),Al X.K H n x y->RelV x u->RelV y v->A.units+n < cLine->SeqAt.EqAt A s u v true:=by
 intro n
 induction n with
 | zero =>
  rintro x y u v A ⟨f,rfl⟩ ru rv _
  have h:=eqAt_V (A:=A) (s:=s) ru rv f f
  rw [eqV_self f] at h
  exact h
 | succ n ih =>
  rintro x y u v A h ru rv hu
  rcases h with ⟨f,rfl⟩ | ⟨p,q,xs,ys,rfl,rfl,h,el,k⟩
  ·have h:=eqAt_V (A:=A) (s:=s) ru rv f f
   rw [eqV_self f] at h
   exact h
  ·cases ru
   cases rv
   by_cases hpq:p=q
   ·subst hpq;exact SeqAt.EqAt.same _
   refine SeqAt.EqAt.of_refs hpq ?_
   have low:A.in1.units+n < cLine:=by rw [units_in1];omega
   have item:∀ {is js:List Value},Vals xs is->Vals ys js->∀ j (h1:j < is.toArray.size) (h2:j < js.toArray.size),SeqAt.EqAt A.in1 s is.toArray[j] js.toArray[j] true:=fun {is js} ri rj j h1 h2=>by
    have b1:j < xs.length:=by rw [ri.length];simpa using h1
    have b2:j < ys.length:=by rw [rj.length];simpa using h2
    obtain ⟨u',e1,r1⟩:=ri.get (List.getElem?_eq_getElem b1)
    obtain ⟨v',e2,r2⟩:=rj.get (List.getElem?_eq_getElem b2)
    have c1:is.toArray[j]=u':=by
     rw [List.getElem_toArray]
     have:=List.getElem?_eq_getElem (l:=is) (i:=j) (by simpa using h1)
     rw [this] at e1;exact Option.some.inj e1
    have c2:js.toArray[j]=v':=by
     rw [List.getElem_toArray]
     have:=List.getElem?_eq_getElem (l:=js) (i:=j) (by simpa using h2)
     rw [this] at e2;exact Option.some.inj e2
    rw [c1,c2]
    exact ih _ _ _ _ _ (k j _ _ (List.getElem?_eq_getElem b1) (List.getElem?_eq_getElem b2)) r1 r2 low
   rcases h with ⟨hp,hq⟩ | ⟨hp,hq⟩
   ·obtain ⟨is,ri,pi,_⟩:=I.list hp
    obtain ⟨js,rj,pj,_⟩:=I.list hq
    have z:=SeqAt.RcAt.lists (A:=A) (e:=fun _=>true) pi.isList pj.isList (by simp only [List.size_toArray];rw [<- ri.length,<- rj.length];exact el) (by omega) (item ri rj)
    rw [all_range] at z
    exact z
   ·obtain ⟨is,ri,pi,_⟩:=I.tuple hp
    obtain ⟨js,rj,pj,_⟩:=I.tuple hq
    have z:=SeqAt.RcAt.tuples (A:=A) (e:=fun _=>true) pi pj (by omega) (item ri rj)
    have e:(is.toArray.size == js.toArray.size)=true:=by simp only [List.size_toArray,beq_iff_eq];rw [<- ri.length,<- rj.length];exact el
    rw [all_range,e] at z
    exact z
theorem als_items (I:Inv X pins σ H s) {n:Nat} {xs ys:List V} {A:Around} (low:A.in1.units+n < cLine) (k:∀ (i:Nat) a b,xs[i]?=some a->ys[i]?=some b->Al X.K H n a b) {is js:List Value} (ri:Vals xs is) (rj:Vals ys js) :
  ∀ j (h1:j < is.toArray.size) (h2:j < js.toArray.size),SeqAt.EqAt A.in1 s is.toArray[j] js.toArray[j] true:=fun j h1 h2=>by
 have b1:j < xs.length:=by rw [ri.length];simpa using h1
 have b2:j < ys.length:=by rw [rj.length];simpa using h2
 obtain ⟨u',e1,r1⟩:=ri.get (List.getElem?_eq_getElem b1)
 obtain ⟨v',e2,r2⟩:=rj.get (List.getElem?_eq_getElem b2)
 have c1:is.toArray[j]=u':=by
  rw [List.getElem_toArray]
  have:=List.getElem?_eq_getElem (l:=is) (i:=j) (by simpa using h1)
  rw [this] at e1;exact Option.some.inj e1
 have c2:js.toArray[j]=v':=by
  rw [List.getElem_toArray]
  have:=List.getElem?_eq_getElem (l:=js) (i:=j) (by simpa using h2)
  rw [this] at e2;exact Option.some.inj e2
 rw [c1,c2]
 exact al_at I n _ _ _ _ _ (k j _ _ (List.getElem?_eq_getElem b1) (List.getElem?_eq_getElem b2)) r1 r2 low
end
section
variable {X:Cx}
theorem op_ne_al (n:Nat) (hu:X.A.units+n+1 < cLine):OpR X (compareOp .NotEq) (fun x y H Q=>AlS X.K H n x y/\Q (.bl false) H):=by
 intro pins s σ H x y v u Q I rx ry h
 obtain ⟨⟨p,q,xs,ys,rfl,rfl,h,el,k⟩,fin⟩:=h
 cases rx
 cases ry
 have low:X.A.in1.units+n < cLine:=by rw [units_in1];omega
 rcases h with ⟨hp,hq⟩ | ⟨hp,hq⟩
 ·obtain ⟨is,ri,pi,_⟩:=I.list hp
  obtain ⟨js,rj,pj,_⟩:=I.list hq
  refine PySem.EqBoolInt.of_rcne (SeqAt.RcNeAt.lists (e:=fun _=>true) pi.isList pj.isList (by simp only [List.size_toArray];rw [<- ri.length,<- rj.length];exact el) (by omega) (als_items I low k ri rj)) ?_
  refine fin_bl I fin ?_
  rw [all_range];rfl
 ·obtain ⟨is,ri,pi,_⟩:=I.tuple hp
  obtain ⟨js,rj,pj,_⟩:=I.tuple hq
  refine PySem.EqBoolInt.of_rcne (SeqAt.RcNeAt.tuples (e:=fun _=>true) pi pj (by omega) (als_items I low k ri rj)) ?_
  have e:(is.toArray.size == js.toArray.size)=true:=by simp only [List.size_toArray,beq_iff_eq];rw [<- ri.length,<- rj.length];exact el
  refine fin_bl I fin ?_
  rw [all_range,e];rfl
def tLenSet (K:PySem.W.Frag) (te:TE):TE:=fun σ H Q=>te σ H fun x H1=>∃ (p:Addr) (zs:List Str),x=.ref p/\SqL K H1 p (zs.map V.str)/\zs.length+1 < scanBound/\Q (.int (dist zs).length) H1
theorem pe_lenset {e:Expr} {te:TE} {xl xs:Str} {p1 p2 pos1 pos2:Pos} (hc:X.calm=true) (he:PE X e te) (gl:Gl X xl) (ml:X.mg xl=none) (vl:bootBuiltins xl=some (.builtin "len")) (gs:Gl X xs) (ms:X.mg xs=none) (vs:bootBuiltins xs=some (.type "set"))
  (hn1:xl≠"__name__" := by decide) (hd1:(xl == ("__debug__" : Str))=false:=by decide) (hn2:xs≠"__name__" := by decide) (hd2:(xs == ("__debug__" : Str))=false:=by decide)
  (hs:starEach [e] X.env=[(false,eval e X.env)]:=by rfl):PE X (.Call (.Name xl p1) [.Call (.Name xs p2) [e] [] pos2] [] pos1) (tLenSet X.K te):=by
 intro pins s σ H Q I h
 refine wpAny_Call_Name_kw (ld_blt I gl ml vl ?_ hn1 hd1)
 refine PyProof.Rows.callWith_builtin1 ?_ rfl rfl
 show wpAny _ _ (spliced [(false,eval (.Call (.Name xs p2) [e] [] pos2) X.env)]) _ _ s
 refine Calls.spliced_cons ?_
 refine wpAny_Call_Name_kw (ld_blt I gs ms vs ?_ hn2 hd2)
 refine PyProof.Rows.callWith_type1 (thn (pa_cons he pa_nil hs pos2 pins s σ H (fun vs H1=>∃ x,vs=[x]/\∃ (p:Addr) (zs:List Str),x=.ref p/\SqL X.K H1 p (zs.map V.str)/\zs.length+1 < scanBound/\Q (.int (dist zs).length) H1) I ?_) fun us s1 h1=>?_) hs rfl
 ·have mono:=h
  refine ?_
  show te σ H _
  exact (show te σ H (fun x H1=>∃ x',[x]=[x']/\∃ (p:Addr) (zs:List Str),x'=.ref p/\SqL X.K H1 p (zs.map V.str)/\zs.length+1 < scanBound/\Q (.int (dist zs).length) H1) from by
   have e:(fun (x:V) (H1:Hp)=>∃ x',[x]=[x']/\∃ (p:Addr) (zs:List Str),x'=.ref p/\SqL X.K H1 p (zs.map V.str)/\zs.length+1 < scanBound/\Q (.int (dist zs).length) H1)=fun x H1=>∃ (p:Addr) (zs:List Str),x=.ref p/\SqL X.K H1 p (zs.map V.str)/\zs.length+1 < scanBound/\Q (.int (dist zs).length) H1:=by
    funext x H1
    refine propext ⟨fun ⟨x',e,r⟩=>?_,fun r=>⟨x,rfl,r⟩⟩
    cases e
    exact r
   rw [e]
   exact h)
 ·obtain ⟨vs',H1,I1,r1,x,rfl,p,zs,rfl,hq,small,q⟩:=h1
  obtain ⟨u,rfl,ru⟩:=vals1 r1
  cases ru
  obtain ⟨its,rv,pl,_⟩:=I1.list hq
  refine set_texts (I1.ok.hd hc) pl.isList (strs_of rv) small fun h' tk T kp=>?_
  refine Calls.spliced_nil ?_
  obtain ⟨o,es,ep,t,ho,hex,hd,_,_,hb,hf,hN⟩:=T
  have I2:Inv X pins σ H1 { s1 with heap:=h',toks:=tk }:=I1.kept (t':=tk) kp
  have fit:(es.size:Int) < 2 ^ 63:=by
   have:es.size < scanBound:=hb
   have z:scanBound<=4096:=by decide
   have:(es.size:Int) < 4096:=by omega
   exact Int.lt_of_lt_of_le this (by decide)
  rw [<- hN] at q
  exact call_len_set ho hex hd hf fit ⟨.int es.size,H1,I2.tok _,⟨_,rfl⟩,q⟩
theorem call_divmod':CallR X (.builtin "divmod") (fun xs H Q=>∃ i j,xs=[.int i,.int j]/\0 < j/\j < 2 ^ 64/\∀ p,H p=none->Q (.ref p) (upd H p (.tup [.int (i / j),.int (i % j)]))):=by
 intro pins s σ H xs us Q I r h
 obtain ⟨i,j,rfl,h1,h2,q⟩:=h
 obtain ⟨u,w',rfl,⟨t,rfl⟩,⟨t',rfl⟩⟩:=vals2 r
 have small:j.natAbs.log2 < 9000:=by
  have a:j.natAbs < 2 ^ 64:=by omega
  have b:j.natAbs≠0:=by omega
  have c:=(Nat.log2_lt b).mpr a
  omega
 refine divmod_int (by omega) ?_ (.inl (PyProof.noPylong_of_log2 small))
 rw [Int.fdiv_eq_ediv_of_nonneg i (by omega),Int.fmod_eq_emod_of_nonneg i (by omega)]
 refine ⟨.ref s.heap.objs.size,_,I.laid (o:=.tup [.int (i / j),.int (i % j)]) (fun b o e=>Heap.get?_push_of_some _ e) (Nat.le_refl _) ⟨?_,[.int (i / j) s.toks,.int (i % j) (s.toks+1)],.cons ⟨_,rfl⟩ (.cons ⟨_,rfl⟩ .nil),⟨_,Heap.get?_push_size s.heap rfl,rfl,0,rfl⟩⟩,rfl,q _ I.fresh⟩
 show 2<=sizeLine
 decide
end
theorem Fun.okO {P:Program} {w:World} {K:PySem.W.Frag} {mg:Str->Option Value} {base:Heap} {x qual:Str} {st:Stmt} {f:Addr} {fd:FuncData} {N ps:List Str} {k:Nat} {sp:Sp} (F:Fun K x qual st f fd) (S:FnScope N ps (defScope st)) (len:∀ vs H Q E,sp vs H Q E->vs.length=ps.length)
  (hbody:∀ (cdv:Value) (A:Around) (outer:List Env) (s:Shared) (H:Hp) (vs:List V) (Q:VK) (E:XK),Room k (A.deeper (envOfC qual (defScope st) s.heap.objs.size f cdv))->sp vs H Q E ->
   ∃ t,PSs (cxOf (CXO P w) P w K mg base N qual (defScope st) f cdv A outer s H E) (defBody st) t/\t { nx:=fun _ H'=>Q .non H',rt:=Q } (start N vs) H):FnOk P w K mg base (CXO P w) (k+1) f fd ps sp:=by
 obtain ⟨oc,od,kV,doc,pm,an,cdv,ct,osl,rfl,lk,hcd⟩:=F.ex
 exact fn_of lk hcd S len (hbody cdv)
end L2
namespace K75
open PySem PySem.Spec PyProof.Rows L2
def top (i:Nat):Stmt:=PySem.Challenge.pw_cutmeet_k75_many_rings.main.body.getD i (.Pass ⟨0,0,0,0⟩)
abbrev sName:Stmt:=top 11
abbrev sChkP:Stmt:=top 15
abbrev sAmong:Stmt:=top 16
abbrev sTie:Stmt:=top 17
abbrev sChkT:Stmt:=top 18
abbrev sInit:Stmt:=inClass (top 19) 0
abbrev sPlaces:Stmt:=inClass (top 19) 1
abbrev sTies:Stmt:=inClass (top 19) 4
abbrev sLaw:Stmt:=top 40
structure Df (K:PySem.W.Frag) (mg:Str->Option Value) (x:Str) (st:Stmt) (ps:List Str) (f:Addr) (fd:FuncData):Prop where
 fn:Fun K x x st f fd
 mgf:mg x=some (.ref f)
 b:Binds K fd ps []
def But (p:Addr) (H H':Hp):Prop:=∀ b o,H b=some o->b≠p->H' b=some o
def Row (H:Hp) (p:Addr):Prop:=∃ a b:Int,H p=some (.lst [.int a,.int b])
def spDraw:Sp:=fun vs H Q _=>∃ (p:Addr) (m:Int),vs=[.ref p,.int m]/\Row H p/\0 < m/\m < 2 ^ 64/\∀ (d:Int) (H':Hp),0<=d->d < m->Row H' p->But p H H'->Q (.int d) H'
structure Glb (mg:Str->Option Value):Prop where
 divmod:mg "divmod" = none
 len:mg "len" = none
 all:mg "all" = none
 isinst:mg "isinstance" = none
 str:mg "str" = none
 range:mg "range" = none
 max:mg "max" = none
 min:mg "min" = none
 bool:mg "bool" = none
 list:mg "list" = none
 int:mg "int" = none
 tuple:mg "tuple" = none
 set:mg "set" = none
 sorted:mg "sorted" = none
 longest:∃ t,mg "LONGEST" = some (.int 8 t)
 places:∃ t,mg "MOST_PLACES" = some (.int 12 t)
 ties:∃ t,mg "MOST_TIES" = some (.int 30 t)
section
variable {P:Program} {w:World} {K:PySem.W.Frag} {mg:Str->Option Value} {base:Heap}
def lo (c:Nat):Bool:=!decide ((⟨#[c]⟩:Str).cps.toList < ("a" : Str).cps.toList)
def hi (c:Nat):Bool:=!decide (("z" : Str).cps.toList < (⟨#[c]⟩:Str).cps.toList)
def nm (z:Str):Bool:=(decide (1<=z.length) && decide (z.length<=8)) && (z.cps.toList.map fun c=>lo c && hi c).all id
theorem signs_loop {K:PySem.W.Frag} {z:Str} {H:Hp} {Q:VK} {te:TE} {σ:L2.St} {x:Str} (hz:z.cps.size<=sizeLine) (f:Nat->Bool)
  (he:∀ (c:Nat) (H:Hp) (Q:VK),Q (.bl (f c)) H->te [some (V.str ⟨#[c]⟩)] H Q) (k:∀ D,H D=none->Q (.ref D) (upd H D (.lst ((z.cps.toList.map f).map V.bl)))) :
  lcLoop [x] [] (gName 0) tYes te σ Q (Its z) H:=by
 refine ⟨fun i m ys H2=>H2=H/\i<=z.cps.size/\m=z.cps.size - i/\ys=((z.cps.toList.take i).map f).map V.bl,⟨z.cps.size,rfl,Nat.zero_le _,rfl,rfl⟩,?_⟩
 rintro i m ys H2 ⟨rfl,hi,rfl,rfl⟩
 refine ⟨by simp;omega,?_⟩
 by_cases h:i < z.cps.size
 ·refine .inr ⟨h,fun x H3 hy=>?_⟩
  obtain ⟨rfl,c,hc,rfl⟩:=hy
  simp only [tYes,gName,if_true]
  refine he c _ _ ⟨z.cps.size - (i+1),by omega,rfl,h,rfl,?_⟩
  have e:(z.cps.toList.take (i+1))=z.cps.toList.take i++[c]:=by
   rw [List.take_add_one]
   have:z.cps.toList[i]?=some c:=by simpa using hc
   rw [this];rfl
  rw [e];simp
 ·have e:i=z.cps.size:=by omega
  subst e
  refine .inl ⟨rfl,fun D hD=>?_⟩
  have q:=k D hD
  rw [List.take_of_length_le (by simp)]
  exact q
def spName:Sp:=fun vs H Q _=>(∃ z:Str,vs=[.str z]/\z.length<=1000/\∀ H',Same H H'->Q (.bl (nm z)) H')\/∃ x t,vs=[x]/\TyOf K H x t/\PySem.W.kitOne K t (.type "str")=some false/\Q (.bl false) H
theorem scN:FnScope ["thing"] ["thing"] (defScope sName):=⟨rfl,rfl,rfl,by decide +kernel,rfl,by decide +kernel,by decide +kernel⟩
theorem ok_name {f:Addr} {fd:FuncData} (F:Fun K "is_name" "is_name" sName f fd) (T:Glb mg):FnOk P w K mg base CX0 1 f fd ["thing"] (spName (K:=K)):=by
 refine F.ok scN (fun vs H Q E h=>?_) (fun cdv A outer s H vs Q E hr h=>?_)
 ·rcases h with ⟨z,rfl,_⟩ | ⟨x,t,rfl,_⟩<;>rfl
 ·obtain ⟨t8,h8⟩:=T.longest
  refine ⟨_,pss_cons (ps_if (PW.pt (pw_or (pt_not (pt_val (pe_callB (call_isinst (T:="str")) (by rfl) T.isinst boot_isinstance (pa_cons (pv 0) (pa_cons (pe_bltn (v:=.ty "str") rfl T.str PyProof.Rows.boot_str rfl) pa_nil))) (fun _=>rfl)))
    (pw_or1 (pt_not (pt_chain op_le op_le pe_int (pe_callB call_len_str (by rfl) T.len PySem.boot_len (pa_cons (pv 0) pa_nil)) (pe_glob (v:=.int 8) rfl h8 ⟨_,rfl⟩)))))) (pss_one (ps_ret pe_bl)) pss_nil)
   (pss_one (ps_ret (pe_callB (call_all rfl) (by rfl) T.all boot_all (pa_cons (pe_lc ["sign"] [] rfl (compSc (osc:=(defScope sName).names) (N:=["thing"]) rfl rfl (by decide +kernel)) (gk_name (by decide)) (pi_str (pv 0)) (fun _ _ _=>pg_name (i:=0) (show (["sign"]:List Str).Nodup by decide +kernel) rfl (Or.inl rfl)) (fun _ _ _=>pifs_nil)
    (fun _ _ _=>pe_chain op_le_str op_le_str pe_str (pv 0) pe_str)) pa_nil)))),?_⟩
  rcases h with ⟨z,rfl,hz,k⟩ | ⟨x,t,rfl,ty,ki,k⟩
  ·have hzs:z.length<=sizeLine:=Nat.le_trans hz (by decide)
   refine ⟨_,rfl,_,_,true,rfl,.str z,rfl,_,rfl,?_⟩
   refine iteF ?_
   refine ⟨_,rfl,z,rfl,hzs,_,_,rfl,rfl,_,rfl,?_⟩
   refine ite2 (fun h1=>?_) (fun h1=>?_)
   ·refine ⟨_,_,rfl,rfl,_,rfl,?_⟩
    refine ite2 (fun h2=>?_) (fun h2=>?_)
    ·have e:nm z=false:=by
      have:¬ z.length<=8:=by simp at h2;omega
      simp [nm,this]
     exact e ▸ k H (Same.refl _)
    ·have e:nm z=(z.cps.toList.map fun c=>lo c && hi c).all id:=by
      have a1:1<=z.length:=by simp at h1;omega
      have a2:z.length<=8:=by simp at h2;omega
      unfold nm
      rw [decide_eq_true a1,decide_eq_true a2];rfl
     refine ⟨_,rfl,z,rfl,signs_loop (K:=K) hzs (fun c=>lo c && hi c) (fun c H Q q=>?_) (fun D hD=>⟨D,_,rfl,SqL.of upd_same,?_⟩)⟩
     ·refine ⟨_,rfl,_,_,rfl,rfl,_,rfl,?_⟩
      have q':Q (.bl (lo c && hi c)) H:=q
      refine ite2 (fun h=>?_) (fun h=>?_)
      ·refine ⟨_,_,rfl,rfl,?_⟩
       have e1:lo c=true:=h
       rw [e1,Bool.true_and] at q'
       exact q'
      ·have e1:lo c=false:=by simpa using (show ¬ lo c=true from h)
       rw [e1,Bool.false_and] at q'
       exact q'
     ·exact e ▸ k _ fun c o q=>by rw [upd_ne (ne_of_none q hD)];exact q
   ·refine ⟨_,rfl,?_⟩
    have e:nm z=false:=by
     have:¬ 1<=z.length:=by simp at h1;omega
     simp [nm,this]
    exact iteT (e ▸ k H (Same.refl _))
  ·refine ⟨_,rfl,_,_,false,rfl,ty,ki,_,rfl,?_⟩
   exact iteT k
theorem But.refl (p:Addr) (H:Hp):But p H H:=fun _ _ h _=>h
theorem But.trans {p:Addr} {H H1 H2:Hp} (a:But p H H1) (b:But p H1 H2):But p H H2:=fun c o h n=>b c o (a c o h n) n
theorem But.laid {p q:Addr} {H H1:Hp} {o:HO} (a:But p H H1) (hq:H1 q=none) (hp:Row H1 p):But p H (upd H1 q o)/\Row (upd H1 q o) p:=by
 obtain ⟨x,y,hp⟩:=hp
 exact ⟨fun c u h n=>by rw [upd_ne (ne_of_none (a c u h n) hq)];exact a c u h n,x,y,by rw [upd_ne (ne_of_none hp hq)];exact hp⟩
theorem letters26:("abcdefghijklmnopqrstuvwxyz" : Str).length=26:=by decide +kernel
theorem lit_ix {z:Str} {d:Int} (h0:0<=d) (h1:d < (z.length:Int)):∃ c,atI z.cps.toList d=some c:=by
 obtain ⟨n,rfl⟩:=Int.eq_ofNat_of_zero_le h0
 have hn:n < z.cps.toList.length:=by
  have:n < z.length:=by omega
  rw [Array.length_toList];exact this
 exact ⟨z.cps.toList[n],atI_nat (by simp [hn])⟩
theorem same_upd {H:Hp} {a:Addr} {o:HO} (h:H a=none):Same H (upd H a o):=fun b u e=>by rw [upd_ne (ne_of_none e h)];exact e
structure GoodP (ns:List Str):Prop where
 one:1<=ns.length
 few:ns.length<=12
 nms:∀ z∈ns,nm z=true
 nd:ns.Nodup
theorem nm_len {z:Str} (h:nm z=true):z.length<=8:=by
 unfold nm at h
 simp only [Bool.and_eq_true,decide_eq_true_eq] at h
 exact h.1.2
def spChkP:Sp:=fun vs H Q _=>∃ (a:Addr) (ns:List Str),vs=[.ref a]/\H a=some (.lst (ns.map V.str))/\GoodP ns/\∀ H',Same H H'->Q .non H'
theorem scCP:FnScope ["places"] ["places"] (defScope sChkP):=⟨rfl,rfl,rfl,by decide +kernel,rfl,by decide +kernel,by decide +kernel⟩
theorem ok_chkP {f fN:Addr} {fd fdN:FuncData} (F:Fun K "check_places" "check_places" sChkP f fd) (DN:Df K mg "is_name" sName ["thing"] fN fdN) (T:Glb mg):FnOk P w K mg base CX0 2 f fd ["places"] spChkP:=by
 have GN:FnOk P w K mg base CX0 1 fN fdN ["thing"] (spName (K:=K)):=ok_name DN.fn T
 refine F.ok scCP (fun vs H Q E h=>?_) (fun cdv A outer s H vs Q E hr h=>?_)
 ·obtain ⟨a,ns,rfl,_⟩:=h
  rfl
 ·obtain ⟨a,ns,rfl,ha,g,k⟩:=h
  obtain ⟨t12,h12⟩:=T.places
  refine ⟨_,pss_cons (ps_if (PW.pt (pw_or (pt_not (pt_val (pe_callB (call_isinst (T:="list")) (by rfl) T.isinst boot_isinstance (pa_cons (pv 0) (pa_cons (pe_bltn (v:=.ty "list") rfl T.list PyProof.Rows.boot_list rfl) pa_nil))) (fun _=>rfl)))
    (pw_or1 (pt_not (pt_chain op_le op_le pe_int (pe_callB call_len_seq (by rfl) T.len PySem.boot_len (pa_cons (pv 0) pa_nil)) (pe_glob (v:=.int 12) rfl h12 ⟨_,rfl⟩)))))) (pss_one ps_never) pss_nil)
   (pss_cons (ps_if (pt_not (pt_val (pe_callB (call_all rfl) (by rfl) T.all boot_all (pa_cons (pe_lc ["place"] [] rfl (compSc (osc:=(defScope sChkP).names) (N:=["places"]) rfl rfl (by decide +kernel)) (gk_name (by decide)) (pi_list (pv 0)) (fun _ _ _=>pg_name (i:=0) (show (["place"]:List Str).Nodup by decide +kernel) rfl (Or.inl rfl)) (fun _ _ _=>pifs_nil)
     (fun _ _ _=>pe_call GN hr rfl DN.mgf DN.fn.kp DN.b .nil pass0 (pa_cons (pv 0) pa_nil))) pa_nil)) (fun _=>rfl))) (pss_one ps_never) pss_nil)
   (pss_one (ps_if (pt_cmpR op_lt (pe_lenset rfl (pv 0) rfl T.len PySem.boot_len rfl T.set PyProof.Rows.boot_set) (pe_callB call_len_seq (by rfl) T.len PySem.boot_len (pa_cons (pv 0) pa_nil)) (nomark _)) (pss_one ps_never) pss_nil))),?_⟩
  refine ⟨_,rfl,_,_,true,rfl,.lst ha,rfl,_,rfl,?_⟩
  refine iteF ?_
  have le:(ns.map V.str).length=ns.length:=List.length_map ..
  refine ⟨_,rfl,a,_,rfl,.inl (SqL.of ha),_,_,rfl,rfl,_,rfl,?_⟩
  rw [le]
  have g1:=g.one
  have g2:=g.few
  refine ite2 (fun _=>?_) (fun z=>absurd z (by simp;omega))
  refine ⟨_,_,rfl,rfl,_,rfl,?_⟩
  refine ite2 (fun z=>absurd z (by simp;omega)) (fun _=>?_)
  refine ⟨_,rfl,a,rfl,⟨_,SqL.of ha⟩,lc_list (K:=K) (xs:=ns.map V.str) (fun i ys H2=>Same H H2/\ys=List.replicate i (V.bl true)) ⟨Same.refl _,rfl⟩ ?_ ?_ ?_ ?_⟩
  ·rintro i ys H2 hi ⟨_,rfl⟩
   rw [List.length_replicate]
   rw [le] at hi
   exact Nat.le_trans hi (Nat.le_trans g.few (by decide))
  ·rintro i ys H2 _ ⟨s2,_⟩
   exact SqL.of (s2 _ _ ha)
  ·rintro i x ys H2 R hx ⟨s2,rfl⟩ kR
   rw [List.getElem?_map] at hx
   obtain ⟨z,ez,rfl⟩:=Option.map_eq_some_iff.mp hx
   have gz:=g.nms z (List.mem_of_getElem? ez)
   simp only [tYes,gName,if_true]
   refine ⟨_,rfl,.inl ⟨z,rfl,Nat.le_trans (nm_len gz) (by decide),fun H3 s3=>?_⟩⟩
   rw [gz]
   exact kR _ _ ⟨s2.trans s3,by rw [List.replicate_succ']⟩
  ·rintro ys H2 ⟨s2,rfl⟩ D hD
   rw [le]
   have e:List.replicate ns.length (V.bl true)=(List.replicate ns.length true).map V.bl:=by simp
   refine ⟨D,List.replicate ns.length true,rfl,(by rw [e];exact SqL.of upd_same),_,rfl,?_⟩
   have e2:(List.replicate ns.length true).all id=true:=by simp
   rw [e2]
   refine iteF ?_
   have s3:Same H (upd H2 D (.lst (List.replicate ns.length (V.bl true)))):=s2.trans (same_upd hD)
   refine ⟨_,rfl,a,ns,rfl,SqL.of (s3 _ _ ha),(by have:=g.few;show ns.length+1 < scanBound;exact Nat.lt_of_le_of_lt (Nat.succ_le_succ this) (by decide)),_,rfl,a,_,rfl,.inl (SqL.of (s3 _ _ ha)),_,_,rfl,rfl,_,rfl,?_⟩
   rw [dist_nd g.nd,le]
   refine ite2 (fun z=>absurd z (by simp)) (fun _=>?_)
   exact k _ s3
end
theorem inV_str (z:Str) (ns:List Str):inV (.str z) (ns.map V.str)=decide (z∈ns):=by
 unfold inV
 rw [List.any_map,Bool.eq_iff_iff,decide_eq_true_iff]
 simp only [List.any_eq_true,Function.comp,eqV,beq_iff_eq]
 exact ⟨fun ⟨y,h,e⟩=>e ▸ h,fun h=>⟨z,h,rfl⟩⟩
theorem flat_strs (ns:List Str):(ns.map V.str).all flatV=true:=by
 rw [List.all_map,List.all_eq_true]
 intro _ _
 rfl
section
variable {P:Program} {w:World} {K:PySem.W.Frag} {mg:Str->Option Value} {base:Heap}
def spAmong:Sp:=fun vs H Q _=>(∃ (a:Addr) (ns:List Str) (z:Str),vs=[.ref a,.str z]/\SqL K H a (ns.map V.str)/\Q (.bl (decide (z∈ns))) H)\/∃ (a:Addr) (x:V) (t:Value),vs=[.ref a,x]/\TyOf K H x t/\PySem.W.kitOne K t (.type "str")=some false/\Q (.bl false) H
theorem scAm:FnScope ["places","thing"] ["places","thing"] (defScope sAmong):=⟨rfl,rfl,rfl,by decide +kernel,rfl,by decide +kernel,by decide +kernel⟩
theorem ok_among {f:Addr} {fd:FuncData} (F:Fun K "is_among" "is_among" sAmong f fd) (T:Glb mg):FnOk P w K mg base CX0 1 f fd ["places","thing"] (spAmong (K:=K)):=by
 refine F.ok scAm (fun vs H Q E h=>?_) (fun cdv A outer s H vs Q E hr h=>?_)
 ·rcases h with ⟨a,ns,z,rfl,_⟩ | ⟨a,x,t,rfl,_⟩<;>rfl
 ·refine ⟨_,pss_one (ps_ret (pe_and (pe_callB (call_isinst (T:="str")) (by rfl) T.isinst boot_isinstance (pa_cons (pv 1) (pa_cons (pe_bltn (v:=.ty "str") rfl T.str PyProof.Rows.boot_str rfl) pa_nil))) (pe_one (pe_cmpR op_in_seq (pv 1) (pv 0) rfl)))),?_⟩
  rcases h with ⟨a,ns,z,rfl,ha,k⟩ | ⟨a,x,t,rfl,ty,e,k⟩
  ·refine ⟨_,rfl,_,_,true,rfl,.str z,rfl,_,rfl,?_⟩
   refine iteT ⟨_,rfl,_,rfl,a,_,rfl,.inl ha,rfl,flat_strs ns,?_⟩
   rw [inV_str]
   exact k
  ·refine ⟨_,rfl,x,t,false,rfl,ty,e,_,rfl,?_⟩
   exact iteF k
def spTie:Sp:=fun vs H Q _=>∃ (a:Addr) (ns:List Str) (t:Addr) (x y:Str),vs=[.ref a,.ref t]/\SqL K H a (ns.map V.str)/\H t=some (.tup [.str x,.str y])/\Q (.bl (decide (x∈ns) && decide (y∈ns))) H
theorem scTi:FnScope ["places","thing"] ["places","thing"] (defScope sTie):=⟨rfl,rfl,rfl,by decide +kernel,rfl,by decide +kernel,by decide +kernel⟩
theorem ok_tie {f fA:Addr} {fd fdA:FuncData} (F:Fun K "is_tie" "is_tie" sTie f fd) (DA:Df K mg "is_among" sAmong ["places","thing"] fA fdA) (T:Glb mg):FnOk P w K mg base CX0 2 f fd ["places","thing"] (spTie (K:=K)):=by
 have GA:FnOk P w K mg base CX0 1 fA fdA ["places","thing"] (spAmong (K:=K)):=ok_among DA.fn T
 refine F.ok scTi (fun vs H Q E h=>?_) (fun cdv A outer s H vs Q E hr h=>?_)
 ·obtain ⟨a,ns,t,x,y,rfl,_⟩:=h
  rfl
 ·obtain ⟨a,ns,t,x,y,rfl,ha,ht,k⟩:=h
  refine ⟨_,pss_cons (ps_if (PW.pt (pw_or (pt_not (pt_val (pe_callB (call_isinst (T:="tuple")) (by rfl) T.isinst boot_isinstance (pa_cons (pv 1) (pa_cons (pe_bltn (v:=.ty "tuple") rfl T.tuple PyProof.Rows.boot_tuple rfl) pa_nil))) (fun _=>rfl)))
    (pw_or1 (pt_cmpR op_ne (pe_callB call_len_seq (by rfl) T.len PySem.boot_len (pa_cons (pv 1) pa_nil)) pe_int (nomark _))))) (pss_one (ps_ret pe_bl)) pss_nil)
   (pss_one (ps_ret (pe_and (pe_call GA hr rfl DA.mgf DA.fn.kp DA.b .nil pass0 (pa_cons (pv 0) (pa_cons (pe_ix ix_tup (pv 1) pe_int (fun _ _=>rfl)) pa_nil))) (pe_one (pe_call GA hr rfl DA.mgf DA.fn.kp DA.b .nil pass0 (pa_cons (pv 0) (pa_cons (pe_ix ix_tup (pv 1) pe_int (fun _ _=>rfl)) pa_nil))))))),?_⟩
  refine ⟨_,rfl,_,_,true,rfl,.tup ht,rfl,_,rfl,?_⟩
  refine iteF ⟨_,rfl,t,_,rfl,.inr (SqT.of ht),rfl,_,rfl,?_⟩
  refine iteF ?_
  refine ⟨_,rfl,_,rfl,t,_,_,_,rfl,rfl,SqT.of ht,atI_nat (j:=0) rfl,.inl ⟨a,ns,x,rfl,ha,_,rfl,?_⟩⟩
  refine ite2 (fun e=>?_) (fun e=>?_)
  ·refine ⟨_,rfl,_,rfl,t,_,_,_,rfl,rfl,SqT.of ht,atI_nat (j:=1) rfl,.inl ⟨a,ns,y,rfl,ha,?_⟩⟩
   rw [e,Bool.true_and] at k
   exact k
  ·rw [Bool.eq_false_iff.mpr e,Bool.false_and] at k
   exact k
def TiesAt (H:Hp):List Addr->List (Str × Str)->Prop:=Paired fun t p=>H t=some (.tup [.str p.1,.str p.2])
def InP (ns:List Str) (ps:List (Str × Str)):Prop:=∀ p∈ps,p.1∈ns/\p.2∈ns
theorem TiesAt.mono {H H':Hp} {ts:List Addr} {ps:List (Str × Str)} (h:TiesAt H ts ps) (k:∀ t xs,H t=some (.tup xs)->H' t=some (.tup xs)):TiesAt H' ts ps:=Paired.mapP h fun t p e=>k t _ e
theorem TiesAt.same {H H':Hp} {ts:List Addr} {ps:List (Str × Str)} (h:TiesAt H ts ps) (s:Same H H'):TiesAt H' ts ps:=h.mono fun t xs e=>s t _ e
theorem TiesAt.but {p:Addr} {H H':Hp} {ts:List Addr} {ps:List (Str × Str)} (h:TiesAt H ts ps) (s:But p H H') (np:∀ xs,H p≠some (.tup xs)):TiesAt H' ts ps:=h.mono fun t xs e=>s t _ e fun z=>np xs (z ▸ e)
theorem TiesAt.len {H:Hp} {ts:List Addr} {ps:List (Str × Str)} (h:TiesAt H ts ps):ts.length=ps.length:=Paired.length h
theorem TiesAt.get {H:Hp}:∀ {ts:List Addr} {ps:List (Str × Str)} {i:Nat} {t:Addr},TiesAt H ts ps->ts[i]?=some t->∃ p,ps[i]?=some p/\H t=some (.tup [.str p.1,.str p.2])
 | _,_,_,_,.nil,e=>by simp at e
 | _,_,0,_,.cons r _,e=>by simp at e;subst e;exact ⟨_,rfl,r⟩
 | _,_,i+1,t,.cons _ h,e=>by
  obtain ⟨p,h1,h2⟩:=TiesAt.get (i:=i) (t:=t) h (by simpa using e)
  exact ⟨p,by simpa using h1,h2⟩
theorem TiesAt.snoc {H:Hp} {ts:List Addr} {ps:List (Str × Str)} {t:Addr} {p:Str × Str} (h:TiesAt H ts ps) (e:H t=some (.tup [.str p.1,.str p.2])):TiesAt H (ts++[t]) (ps++[p]):=Paired.snoc h e
def spChkT:Sp:=fun vs H Q _=>∃ (a b:Addr) (ns:List Str) (ts:List Addr) (ps:List (Str × Str)),vs=[.ref a,.ref b]/\H a=some (.lst (ns.map V.str))/\H b=some (.lst (ts.map V.ref))/\TiesAt H ts ps/\InP ns ps/\ps.length<=30/\∀ H',Same H H'->Q .non H'
theorem scCT:FnScope ["places","ties"] ["places","ties"] (defScope sChkT):=⟨rfl,rfl,rfl,by decide +kernel,rfl,by decide +kernel,by decide +kernel⟩
theorem ok_chkT {f fA fT:Addr} {fd fdA fdT:FuncData} (F:Fun K "check_ties" "check_ties" sChkT f fd) (DA:Df K mg "is_among" sAmong ["places","thing"] fA fdA) (DT:Df K mg "is_tie" sTie ["places","thing"] fT fdT) (T:Glb mg):FnOk P w K mg base CX0 3 f fd ["places","ties"] spChkT:=by
 have GT:FnOk P w K mg base CX0 2 fT fdT ["places","thing"] (spTie (K:=K)):=ok_tie DT.fn DA T
 refine F.ok scCT (fun vs H Q E h=>?_) (fun cdv A outer s H vs Q E hr h=>?_)
 ·obtain ⟨a,b,ns,ts,ps,rfl,_⟩:=h
  rfl
 ·obtain ⟨a,b,ns,ts,ps,rfl,ha,hb,hT,hI,few,k⟩:=h
  obtain ⟨t30,h30⟩:=T.ties
  refine ⟨_,pss_cons (ps_if (PW.pt (pw_or (pt_not (pt_val (pe_callB (call_isinst (T:="list")) (by rfl) T.isinst boot_isinstance (pa_cons (pv 1) (pa_cons (pe_bltn (v:=.ty "list") rfl T.list PyProof.Rows.boot_list rfl) pa_nil))) (fun _=>rfl)))
    (pw_or1 (pt_cmpR op_gt (pe_callB call_len_seq (by rfl) T.len PySem.boot_len (pa_cons (pv 1) pa_nil)) (pe_glob (v:=.int 30) rfl h30 ⟨_,rfl⟩) (nomark _))))) (pss_one ps_never) pss_nil)
   (pss_one (ps_if (pt_not (pt_val (pe_callB (call_all rfl) (by rfl) T.all boot_all (pa_cons (pe_lc ["tie"] [0] rfl (compSc (osc:=(defScope sChkT).names) (N:=["places","ties"]) rfl rfl (by decide +kernel)) (gk_name (by decide)) (pi_list (pv 1)) (fun _ _ _=>pg_name (i:=0) (show (["tie","places"]:List Str).Nodup by decide +kernel) rfl (Or.inl rfl)) (fun _ _ _=>pifs_nil)
     (fun _ _ _=>pe_call GT hr rfl DT.mgf DT.fn.kp DT.b .nil pass0 (pa_cons (pv 1) (pa_cons (pv 0) pa_nil)))) pa_nil)) (fun _=>rfl))) (pss_one ps_never) pss_nil)),?_⟩
  have le:(ts.map V.ref).length=ps.length:=by rw [List.length_map,hT.len]
  refine ⟨_,rfl,_,_,true,rfl,.lst hb,rfl,_,rfl,?_⟩
  refine iteF ⟨_,rfl,b,_,rfl,.inl (SqL.of hb),_,_,rfl,rfl,_,rfl,?_⟩
  rw [le]
  refine ite2 (fun z=>absurd z (by simp;omega)) (fun _=>?_)
  refine ⟨_,rfl,b,rfl,⟨_,SqL.of hb⟩,lc_list (K:=K) (xs:=ts.map V.ref) (fun i ys H2=>Same H H2/\ys=List.replicate i (V.bl true)) ⟨Same.refl _,rfl⟩ ?_ ?_ ?_ ?_⟩
  ·rintro i ys H2 hi ⟨_,rfl⟩
   rw [List.length_replicate]
   rw [le] at hi
   exact Nat.le_trans hi (Nat.le_trans few (by decide))
  ·rintro i ys H2 _ ⟨s2,_⟩
   exact SqL.of (s2 _ _ hb)
  ·rintro i x ys H2 R hx ⟨s2,rfl⟩ kR
   rw [List.getElem?_map] at hx
   obtain ⟨t,et,rfl⟩:=Option.map_eq_some_iff.mp hx
   obtain ⟨p,ep,ht⟩:=hT.get et
   obtain ⟨i1,i2⟩:=hI p (List.mem_of_getElem? ep)
   simp only [tYes,gName,if_true]
   refine ⟨_,rfl,_,rfl,a,ns,t,p.1,p.2,rfl,SqL.of (s2 _ _ ha),s2 _ _ ht,?_⟩
   rw [decide_eq_true i1,decide_eq_true i2]
   exact kR _ _ ⟨s2,by rw [List.replicate_succ'];rfl⟩
  ·rintro ys H2 ⟨s2,rfl⟩ D hD
   have e:List.replicate (ts.map V.ref).length (V.bl true)=(List.replicate (ts.map V.ref).length true).map V.bl:=by simp
   refine ⟨D,List.replicate (ts.map V.ref).length true,rfl,(by rw [e];exact SqL.of upd_same),_,rfl,?_⟩
   have e2:(List.replicate (ts.map V.ref).length true).all id=true:=by simp
   rw [e2]
   exact iteF (k _ (s2.trans (same_upd hD)))
end
structure WC (K:PySem.W.Frag) (mg:Str->Option Value) (C:Addr):Prop where
 cl:Cls K C
 nP:NoAttr K C "kept_places"
 nT:NoAttr K C "kept_ties"
 mgC:mg "Web" = some (.ref C)
def wf (kp kt:Addr):List (Str × V):=[("kept_places",.ref kp),("kept_ties",.ref kt)]
def WebObj (C:Addr) (H:Hp) (x:Addr) (ns:List Str) (ps:List (Str × Str)):Prop :=
 ∃ dx kp kt ts,H x=some (.ins C dx (wf kp kt))/\H kp=some (.tup ((srt ns).map V.str))/\H kt=some (.tup (ts.map V.ref))/\TiesAt H ts ps
theorem WebObj.same {C:Addr} {H H':Hp} {x:Addr} {ns:List Str} {ps:List (Str × Str)} (h:WebObj C H x ns ps) (s:Same H H'):WebObj C H' x ns ps :=
 let ⟨dx,kp,kt,ts,h1,h2,h3,h4⟩:=h
 ⟨dx,kp,kt,ts,s _ _ h1,s _ _ h2,s _ _ h3,h4.same s⟩
theorem WebObj.but {C p:Addr} {H H':Hp} {x:Addr} {ns:List Str} {ps:List (Str × Str)} {xs:List V} (h:WebObj C H x ns ps) (s:But p H H') (hp:H p=some (.lst xs)):WebObj C H' x ns ps :=
 let ⟨dx,kp,kt,ts,h1,h2,h3,h4⟩:=h
 ⟨dx,kp,kt,ts,s _ _ h1 (ne_of h1 hp (by intro z;cases z)),s _ _ h2 (ne_of h2 hp (by intro z;cases z)),s _ _ h3 (ne_of h3 hp (by intro z;cases z)),h4.but s (fun ys z=>by rw [hp] at z;cases z)⟩
theorem wf_p (kp kt:Addr):(wf kp kt).lookup ("kept_places" : Str)=some (V.ref kp):=rfl
theorem wf_t (kp kt:Addr):(wf kp kt).lookup ("kept_ties" : Str)=some (V.ref kt):=by
 show List.lookup _ (_::_)=_
 rw [List.lookup_cons,show (("kept_ties" : Str) == "kept_places")=false by decide +kernel]
 rfl
theorem wf_no (kp kt:Addr) (m:Str) (h1:(m == ("kept_places" : Str))=false) (h2:(m == ("kept_ties" : Str))=false):(wf kp kt).lookup m=none:=by
 show List.lookup _ (_::_)=_
 rw [List.lookup_cons,h1]
 show List.lookup _ (_::_)=_
 rw [List.lookup_cons,h2]
 rfl
section
variable {P:Program} {w:World} {K:PySem.W.Frag} {mg:Str->Option Value} {base:Heap}
structure Lists (H:Hp) (a b:Addr) (ns:List Str) (ps:List (Str × Str)) (ts:List Addr):Prop where
 ha:H a=some (.lst (ns.map V.str))
 hb:H b=some (.lst (ts.map V.ref))
 hT:TiesAt H ts ps
 good:GoodP ns
 ins:InP ns ps
 few:ps.length<=30
theorem Lists.same {H H':Hp} {a b:Addr} {ns:List Str} {ps:List (Str × Str)} {ts:List Addr} (h:Lists H a b ns ps ts) (s:Same H H'):Lists H' a b ns ps ts:=⟨s _ _ h.ha,s _ _ h.hb,h.hT.same s,h.good,h.ins,h.few⟩
def spInit (C:Addr):Sp:=fun vs H Q _=>∃ (x a b:Addr) (ns:List Str) (ps:List (Str × Str)) (ts:List Addr),vs=[.ref x,.ref a,.ref b]/\(∃ dx,H x=some (.ins C dx []))/\Lists H a b ns ps ts/\∀ H',WebObj C H' x ns ps->But x H H'->Q .non H'
theorem scIn:FnScope ["self","places","ties"] ["self","places","ties"] (defScope sInit):=⟨rfl,rfl,rfl,by decide +kernel,rfl,by decide +kernel,by decide +kernel⟩
theorem ok_init {C f fN fA fT f1 f2:Addr} {fd fdN fdA fdT fd1 fd2:FuncData} (F:Fun K "__init__" "Web.__init__" sInit f fd) (W:WC K mg C) (DN:Df K mg "is_name" sName ["thing"] fN fdN) (DA:Df K mg "is_among" sAmong ["places","thing"] fA fdA) (DT:Df K mg "is_tie" sTie ["places","thing"] fT fdT)
  (D1:Df K mg "check_places" sChkP ["places"] f1 fd1) (D2:Df K mg "check_ties" sChkT ["places","ties"] f2 fd2) (T:Glb mg):FnOk P w K mg base CX0 4 f fd ["self","places","ties"] (spInit C):=by
 have G1:FnOk P w K mg base CX0 2 f1 fd1 ["places"] spChkP:=ok_chkP D1.fn DN T
 have G2:FnOk P w K mg base CX0 3 f2 fd2 ["places","ties"] spChkT:=ok_chkT D2.fn DA DT T
 refine F.ok scIn (fun vs H Q E h=>?_) (fun cdv A outer s H vs Q E hr h=>?_)
 ·obtain ⟨x,a,b,ns,ps,ts,rfl,_⟩:=h
  rfl
 ·obtain ⟨x,a,b,ns,ps,ts,rfl,⟨dx,hx⟩,L,k⟩:=h
  refine ⟨_,pss_cons (ps_expr (pe_call G1 (hr.mono (by decide)) rfl D1.mgf D1.fn.kp D1.b .nil pass0 (pa_cons (pv 1) pa_nil)))
   (pss_cons (ps_expr (pe_call G2 (hr.mono (by decide)) rfl D2.mgf D2.fn.kp D2.b .nil pass0 (pa_cons (pv 1) (pa_cons (pv 2) pa_nil))))
   (pss_cons (ps_fld (pv 0) (pe_callTy call_tuple_of (by rfl) T.tuple PyProof.Rows.boot_tuple (pa_cons (pe_callB call_sorted_txt (by rfl) T.sorted boot_sorted (pa_cons (pv 1) pa_nil)) pa_nil)) rfl)
   (pss_one (ps_fld (pv 0) (pe_callTy call_tuple_of (by rfl) T.tuple PyProof.Rows.boot_tuple (pa_cons (pe_lc ["a","b"] [] rfl (compSc (osc:=(defScope sInit).names) (N:=["self","places","ties"]) rfl rfl (by decide +kernel)) (gk_two (k:=2) (by decide) (by decide)) (pi_list (pv 2))
    (fun _ _ _=>pg_tup (n:=2) rfl (pgs_cons (pg_name (i:=0) (show (["a","b"]:List Str).Nodup by decide +kernel) rfl (Or.inl rfl)) (pgs_cons (pg_name (i:=1) (show (["a","b"]:List Str).Nodup by decide +kernel) rfl (Or.inl rfl)) pgs_nil))) (fun _ _ _=>pifs_nil)
    (fun _ _ _=>pe_tup (pa_cons (pv 0) (pa_cons (pv 1) pa_nil)))) pa_nil)) rfl)))),?_⟩
  refine ⟨_,rfl,a,ns,rfl,L.ha,L.good,fun H1 s1=>?_⟩
  have L1:=L.same s1
  refine ⟨_,rfl,_,rfl,a,b,ns,ts,ps,rfl,L1.ha,L1.hb,L1.hT,L1.ins,L1.few,fun H2 s2=>?_⟩
  have L2':=L1.same s2
  refine ⟨_,rfl,a,ns,rfl,SqL.of L2'.ha,Nat.lt_of_le_of_lt L.good.few (by decide),fun l hl=>?_⟩
  refine ⟨l,_,rfl,.inl ⟨SqL.of upd_same,fun kp hkp=>?_⟩⟩
  have s3:Same H2 (upd (upd H2 l (.lst ((srt ns).map V.str))) kp (.tup ((srt ns).map V.str))):=(same_upd hl).trans (same_upd hkp)
  have s03:=(s1.trans s2).trans s3
  have hkp3:=upd_same (H:=upd H2 l (.lst ((srt ns).map V.str))) (a:=kp) (o:=.tup ((srt ns).map V.str))
  generalize upd (upd H2 l (.lst ((srt ns).map V.str))) kp (.tup ((srt ns).map V.str))=H3 at s3 s03 hkp3 ⊢
  have hx3:=s03 _ _ hx
  refine ⟨_,rfl,x,C,dx,_,rfl,hx3,W.cl,W.nP,(by show 0 < 1000;decide),?_⟩
  have L3:=L.same s03
  have nax:a≠x:=ne_of L3.ha hx3 (by intro z;cases z)
  have nbx:b≠x:=ne_of L3.hb hx3 (by intro z;cases z)
  have nkx:kp≠x:=ne_of hkp3 hx3 (by intro z;cases z)
  have L4:Lists (upd H3 x (.ins C dx (putF "kept_places" (.ref kp) []))) a b ns ps ts:=⟨by rw [upd_ne nax];exact L3.ha,by rw [upd_ne nbx];exact L3.hb,L3.hT.mono fun t xs e=>by rw [upd_ne (ne_of e hx3 (by intro z;cases z))];exact e,L.good,L.ins,L.few⟩
  have b4:But x H (upd H3 x (.ins C dx (putF "kept_places" (.ref kp) []))):=fun c o e n=>by rw [upd_ne n];exact s03 _ _ e
  have hx4:=upd_same (H:=H3) (a:=x) (o:=.ins C dx (putF "kept_places" (.ref kp) []))
  have hkp4:(upd H3 x (.ins C dx (putF "kept_places" (.ref kp) []))) kp=some (.tup ((srt ns).map V.str)):=by rw [upd_ne nkx];exact hkp3
  generalize upd H3 x (.ins C dx (putF "kept_places" (.ref kp) []))=H4 at L4 b4 hx4 hkp4 ⊢
  have le:(ts.map V.ref).length=ps.length:=by rw [List.length_map,L.hT.len]
  refine ⟨_,rfl,b,rfl,⟨_,SqL.of L4.hb⟩,lc_list (K:=K) (xs:=ts.map V.ref) (fun i ys H5=>Same H4 H5/\∃ us:List Addr,ys=us.map V.ref/\us.length=i/\TiesAt H5 us (ps.take i)) ⟨Same.refl _,[],rfl,rfl,.nil⟩ ?_ ?_ ?_ ?_⟩
  ·rintro i ys H5 hi ⟨_,us,rfl,e,_⟩
   rw [List.length_map,e]
   rw [le] at hi
   exact Nat.le_trans hi (Nat.le_trans L.few (by decide))
  ·rintro i ys H5 _ ⟨s5,_⟩
   exact SqL.of (s5 _ _ L4.hb)
  ·rintro i y ys H5 R hy ⟨s5,us,rfl,e,hU⟩ kR
   rw [List.getElem?_map] at hy
   obtain ⟨t,et,rfl⟩:=Option.map_eq_some_iff.mp hy
   obtain ⟨p,ep,ht⟩:=L4.hT.get et
   refine ⟨t,_,rfl,SqT.of (s5 _ _ ht),rfl,_,_,rfl,_,_,rfl,rfl,?_⟩
   simp only [tYes,if_true]
   refine ⟨_,rfl,_,rfl,(by show 2<=sizeLine;decide),fun u hu=>?_⟩
   have e2:us.map V.ref++[V.ref u]=(us++[u]).map V.ref:=by simp
   refine kR _ _ ⟨s5.trans (same_upd hu),us++[u],e2,by simp [e],?_⟩
   rw [List.take_add_one,ep]
   exact (hU.same (same_upd hu)).snoc upd_same
  ·rintro ys H5 ⟨s5,us,rfl,e,hU⟩ D hD
   rw [le,List.take_of_length_le (Nat.le_refl _)] at hU
   refine ⟨D,_,rfl,.inl ⟨SqL.of upd_same,fun kt hkt=>?_⟩⟩
   have s6:Same H4 (upd (upd H5 D (.lst (us.map V.ref))) kt (.tup (us.map V.ref))):=s5.trans ((same_upd hD).trans (same_upd hkt))
   have hU6:=hU.same ((same_upd (o:=.lst (us.map V.ref)) hD).trans (same_upd (o:=.tup (us.map V.ref)) hkt))
   have hkt6:=upd_same (H:=upd H5 D (.lst (us.map V.ref))) (a:=kt) (o:=.tup (us.map V.ref))
   generalize upd (upd H5 D (.lst (us.map V.ref))) kt (.tup (us.map V.ref))=H6 at s6 hU6 hkt6 ⊢
   have hx6:=s6 _ _ hx4
   refine ⟨_,rfl,x,C,dx,_,rfl,hx6,W.cl,W.nT,(by show 1 < 1000;decide),?_⟩
   refine k _ ⟨dx,kp,kt,us,?_,?_,?_,?_⟩ fun c o e n=>?_
   ·rw [upd_same]
    show some (HO.ins C dx (putF "kept_ties" (.ref kt) (putF "kept_places" (.ref kp) [])))=_
    rfl
   ·rw [upd_ne (ne_of (s6 _ _ hkp4) hx6 (by intro z;cases z))];exact s6 _ _ hkp4
   ·rw [upd_ne (ne_of hkt6 hx6 (by intro z;cases z))];exact hkt6
   ·exact hU6.mono fun t xs e=>by rw [upd_ne (ne_of e hx6 (by intro z;cases z))];exact e
   ·rw [upd_ne n];exact s6 _ _ (b4 c o e n)
def spPl (C:Addr):Sp:=fun vs H Q _=>∃ (x:Addr) (ns:List Str) (ps:List (Str × Str)),vs=[.ref x]/\WebObj C H x ns ps/\∀ l,H l=none->Q (.ref l) (upd H l (.lst ((srt ns).map V.str)))
theorem scPl:FnScope ["self"] ["self"] (defScope sPlaces):=⟨rfl,rfl,rfl,by decide +kernel,rfl,by decide +kernel,by decide +kernel⟩
theorem ok_places {C f:Addr} {fd:FuncData} (F:Fun K "places" "Web.places" sPlaces f fd) (W:WC K mg C) (T:Glb mg):FnOk P w K mg base CX0 1 f fd ["self"] (spPl C):=by
 refine F.ok scPl (fun vs H Q E h=>?_) (fun cdv A outer s H vs Q E hr h=>?_)
 ·obtain ⟨x,ns,ps,rfl,_⟩:=h
  rfl
 ·obtain ⟨x,ns,ps,rfl,⟨dx,kp,kt,ts,h1,h2,h3,h4⟩,k⟩:=h
  refine ⟨_,pss_one (ps_ret (pe_callTy call_list_of (by rfl) T.list PyProof.Rows.boot_list (pa_cons (pe_fld (pv 0) rfl) pa_nil))),?_⟩
  exact ⟨_,rfl,x,C,dx,_,_,rfl,h1,W.cl,W.nP,wf_p kp kt,kp,_,rfl,.inr (SqT.of h2),k⟩
def spTs (C:Addr):Sp:=fun vs H Q _=>∃ (x:Addr) (ns:List Str) (ps:List (Str × Str)),vs=[.ref x]/\WebObj C H x ns ps/\∀ l us,H l=none->TiesAt H us ps->Q (.ref l) (upd H l (.lst (us.map V.ref)))
theorem scTs:FnScope ["self"] ["self"] (defScope sTies):=⟨rfl,rfl,rfl,by decide +kernel,rfl,by decide +kernel,by decide +kernel⟩
theorem ok_ties {C f:Addr} {fd:FuncData} (F:Fun K "ties" "Web.ties" sTies f fd) (W:WC K mg C) (T:Glb mg):FnOk P w K mg base CX0 1 f fd ["self"] (spTs C):=by
 refine F.ok scTs (fun vs H Q E h=>?_) (fun cdv A outer s H vs Q E hr h=>?_)
 ·obtain ⟨x,ns,ps,rfl,_⟩:=h
  rfl
 ·obtain ⟨x,ns,ps,rfl,⟨dx,kp,kt,ts,h1,h2,h3,h4⟩,k⟩:=h
  refine ⟨_,pss_one (ps_ret (pe_callTy call_list_of (by rfl) T.list PyProof.Rows.boot_list (pa_cons (pe_fld (pv 0) rfl) pa_nil))),?_⟩
  exact ⟨_,rfl,x,C,dx,_,_,rfl,h1,W.cl,W.nT,wf_t kp kt,kt,_,rfl,.inr (SqT.of h3),fun l hl=>k l ts hl h4⟩
structure Ex (K:PySem.W.Frag) (mg:Str->Option Value) (x:Str) (C:Addr):Prop where
 b:mg x=some (.ref C)
 bm:∃ Bn newId initId bm,PySem.W.excIn K C bm newId=true/\ExcBaseFacts Bn newId initId bm
end
end K75
namespace L2
open PySem PySem.Spec PyProof.Rows
theorem lc_str {z:Str} {own:List Str} {fr:List Nat} {g:TG} {tt:TT} {te:TE} {σ:St} {Q:VK} {H:Hp} (Pv:Nat->List V->Hp->Prop) (h0:Pv 0 [] H) (hlen:∀ i ys H,i<=z.cps.size->Pv i ys H->ys.length<=sizeLine)
  (hs:∀ i c ys H (R:List V->Hp->Prop),z.cps[i]?=some c->Pv i ys H->(∀ ys' H',Pv (i+1) ys' H'->R ys' H')->g (.str ⟨#[c]⟩) (cSt own fr σ) H fun σ4 H4=>tt σ4 H4 fun b H5=>if b=true then te σ4 H5 fun y H6=>R (ys++[y]) H6 else R ys H5)
  (hd:∀ ys H,Pv z.cps.size ys H->∀ D,H D=none->Q (.ref D) (upd H D (.lst ys))):lcLoop own fr g tt te σ Q (Its z) H:=by
 refine ⟨fun i m ys H=>m=z.cps.size - i/\i<=z.cps.size/\Pv i ys H,⟨z.cps.size,rfl,Nat.zero_le _,h0⟩,?_⟩
 rintro i m ys H2 ⟨rfl,hi,p⟩
 refine ⟨hlen i ys H2 hi p,?_⟩
 by_cases h:i < z.cps.size
 ·refine .inr ⟨h,fun x H3 hy=>?_⟩
  obtain ⟨rfl,c,hc,rfl⟩:=hy
  exact hs i c ys _ (fun ys' H'=>∃ m',m' < z.cps.size - i/\(m'=z.cps.size - (i+1)/\i+1<=z.cps.size/\Pv (i+1) ys' H')) hc p fun ys' H' q=>⟨z.cps.size - (i+1),by omega,rfl,h,q⟩
 ·have e:i=z.cps.size:=by omega
  subst e
  exact .inl ⟨rfl,hd ys H2 p⟩
abbrev one (c:Nat):Str:=⟨#[c]⟩
theorem glue_ones:∀ (cs:List Nat) (acc:Array Nat),((cs.map one).foldl (fun acc p=>acc++("" : Str).cps++p.cps) acc).toList=acc.toList++cs
 | [],acc=>by simp
 | c::cs,acc=>by
  have e:("" : Str).cps=#[]:=by decide +kernel
  rw [List.map_cons,List.foldl_cons,glue_ones cs,e]
  simp
theorem join_ones {cs:List Nat} (h:cs≠[]):(Txt.join "" (cs.map one)).cps.toList=cs:=by
 cases cs with
 | nil=>exact absurd rfl h
 | cons c r =>
  show ((r.map one).foldl (fun acc p=>acc++("" : Str).cps++p.cps) (one c).cps).toList=_
  rw [glue_ones]
  rfl
theorem atI_mem {α:Type} {xs:List α} {i:Int} {v:α} (h:atI xs i=some v):v∈xs:=by
 unfold atI at h
 obtain ⟨j,_,e⟩:=Option.bind_eq_some_iff.mp h
 exact List.mem_of_getElem? e
theorem pigeon:∀ (l m:List Str),l.Nodup->(∀ x∈l,x∈m)->l.length<=m.length
 | [],m,_,_=>Nat.zero_le _
 | x::l,m,nd,h=>by
  rw [List.nodup_cons] at nd
  have hx:=h x List.mem_cons_self
  have q:=pigeon l (m.erase x) nd.2 fun y hy=>(List.mem_erase_of_ne (fun e:y=x=>nd.1 (e ▸ hy))).mpr (h y (List.mem_cons_of_mem _ hy))
  rw [List.length_erase_of_mem hx] at q
  have:0 < m.length:=List.length_pos_of_mem hx
  simp only [List.length_cons]
  omega
end L2
namespace K75
open PySem PySem.Spec PyProof.Rows L2
abbrev abc:Str:="abcdefghijklmnopqrstuvwxyz"
theorem abc_size:abc.cps.size=26:=by decide +kernel
theorem abc_ok:∀ c∈abc.cps.toList,(lo c && hi c)=true:=by decide +kernel
theorem abc_nd:(abc.cps.toList.map one).Nodup:=by decide +kernel
theorem nm_one {c:Nat} (h:(lo c && hi c)=true):nm (one c)=true:=by
 show ((decide (1<=1) && decide (1<=8)) && ([c].map fun c=>lo c && hi c).all id)=true
 simp [h]
theorem nm_of {z:Str} {cs:List Nat} (e:z.cps.toList=cs) (h1:1<=cs.length) (h8:cs.length<=8) (h:∀ c∈cs,(lo c && hi c)=true):nm z=true:=by
 have l:z.length=cs.length:=by rw [<- e];exact Array.length_toList.symm
 unfold nm
 rw [l,decide_eq_true h1,decide_eq_true h8,e]
 simp only [Bool.and_self,Bool.true_and,List.all_map,List.all_eq_true]
 exact fun c hc=>h c hc
section
variable {P:Program} {w:World} {K:PySem.W.Frag} {mg:Str->Option Value} {base:Heap}
theorem Row.lst {H:Hp} {p:Addr} (h:Row H p):∃ xs,H p=some (.lst xs):=let ⟨a,b,e⟩:=h;⟨_,e⟩
theorem Row.upd_ne {H:Hp} {p q:Addr} {o:HO} (h:Row H p) (n:p≠q):Row (upd H q o) p:=let ⟨a,b,e⟩:=h;⟨a,b,by rw [L2.upd_ne n];exact e⟩
theorem But.upd_new {p q:Addr} {H H1:Hp} {o:HO} (a:But p H H1) (hq:H q=none):But p H (upd H1 q o):=fun c u e n=>by rw [L2.upd_ne (ne_of_none e hq)];exact a c u e n
end
abbrev sPot:Stmt:=top 29 -- _law_pot
abbrev sTake:Stmt:=top 30 -- _law_take
abbrev sNames:Stmt:=top 31 -- _law_names
theorem low {A:Around} {k:Nat} (n:Nat) (hr:Room k A) (h:n<=63:=by decide):A.units+n+1 < cLine:=by have:=hr.units;omega
theorem Same.upd_new {H H1:Hp} {q:Addr} {o:HO} (s:Same H H1) (hq:H q=none):Same H (upd H1 q o):=fun b u e=>by rw [L2.upd_ne (ne_of_none e hq)];exact s b u e
theorem Same.but {H H1 H2:Hp} {p:Addr} (s:Same H H1) (b:But p H1 H2) (hp:H p=none):Same H H2:=fun c u e=>b c u (s c u e) (ne_of_none e hp)
theorem But.none {p t:Addr} {H H':Hp} (b:But p H H') (ht:H' t=none) (n:t≠p):H t=none:=by
 cases e:H t with
 | none=>rfl
 | some o=>exact absurd (b _ _ e n) (by rw [ht];intro z;cases z)
section
variable {P:Program} {w:World} {K:PySem.W.Frag} {mg:Str->Option Value} {base:Heap}
def spPot:Sp:=fun vs H Q _=>∃ (a:Addr) (ns:List Int) (k:Nat),vs=[.ref a,.int k]/\SqL K H a (ns.map V.int)/\ns.length<=63/\∀ (p:Addr) (H':Hp),H p=none->Row H' p->Same H H'->Q (.ref p) H'
abbrev nPo:List Str:=["_law_script","_law_k","_law_cell"]
theorem scPo:FnScope nPo ["_law_script","_law_k"] (defScope sPot):=⟨rfl,rfl,rfl,by decide +kernel,rfl,by decide +kernel,by decide +kernel⟩
theorem row_end {H:Hp} {Q:VK} (k:∀ (p:Addr) (H':Hp),H p=none->Row H' p->Same H H'->Q (.ref p) H') (a b:Int) (p:Addr) (hp:H p=none):Q (.ref p) (upd H p (.lst [.int a,.int b])) :=
 k p _ hp ⟨a,b,upd_same⟩ fun c o e=>by rw [upd_ne (ne_of_none e hp)];exact e
theorem ok_pot {f:Addr} {fd:FuncData} (F:Fun K "_law_pot" "_law_pot" sPot f fd) (T:Glb mg) (ab:mg "abs" = none):FnOk P w K mg base CX0 1 f fd ["_law_script","_law_k"] (spPot (K:=K)):=by
 refine F.ok scPo (fun vs H Q E h=>?_) (fun cdv A outer s H vs Q E hr h=>?_)
 ·obtain ⟨a,ns,k,rfl,_⟩:=h
  rfl
 ·obtain ⟨a,ns,n,rfl,hS,hl,k⟩:=h
  refine ⟨_,pss_cons (ps_set (i:=2) scPo.nd rfl (Or.inl rfl) (pe_ifExp (pt_cmpR op_lt (pv 1) (pe_callB call_len_seq (by rfl) T.len PySem.boot_len (pa_cons (pv 0) pa_nil)) (nomark _)) (pe_ix ix_list (pv 0) (pv 1) (fun _ _=>rfl)) pe_int))
   (pss_one (ps_ret (pe_lst (pa_cons (pe_callB (call_max2 rfl) (by rfl) T.max boot_max (pa_cons pe_int (pa_cons (pe_op op_sub (pe_callB call_abs (by rfl) ab PyProof.Rows.boot_abs (pa_cons (pv 2) pa_nil)) (pe_op op_pow pe_int pe_int)) pa_nil)))
    (pa_cons (pe_op op_mod (pe_op op_add (pe_op op_add (pe_op op_mul (pe_op op_mod (pe_callB call_abs (by rfl) ab PyProof.Rows.boot_abs (pa_cons (pv 2) pa_nil)) pe_int) pe_int) (pe_op op_mul pe_int (pv 1))) pe_int) pe_int) pa_nil))))),?_⟩
  refine ⟨_,rfl,_,rfl,a,_,rfl,.inl hS,_,_,rfl,rfl,_,rfl,?_⟩
  refine ite2 (fun hlt=>?_) (fun hlt=>?_)
  ·have hlt':n < ns.length:=by simpa using hlt
   refine ⟨_,rfl,_,rfl,a,_,_,_,rfl,rfl,hS,atI_nat (j:=n) (v:=.int ns[n]) (by simp [hlt']),?_⟩
   refine ⟨_,rfl,_,rfl,_,_,rfl,rfl,⟨by decide,by decide,by decide⟩,_,_,rfl,rfl,_,_,rfl,?_⟩
   refine ⟨_,rfl,_,rfl,_,_,rfl,rfl,(by show (0:Int) < 2147483587;decide),_,_,rfl,rfl,.inr ⟨by decide,by decide⟩,_,rfl,_,_,rfl,rfl,.inl ⟨by decide,by decide⟩,_,_,rfl,rfl,_,_,rfl,rfl,_,_,rfl,rfl,(by show (0:Int) < 2147483629;decide),?_⟩
   exact ⟨(by show 2<=sizeLine;decide),row_end k _ _⟩
  ·refine ⟨_,rfl,_,rfl,_,_,rfl,rfl,⟨by decide,by decide,by decide⟩,_,_,rfl,rfl,_,_,rfl,?_⟩
   refine ⟨_,rfl,_,rfl,_,_,rfl,rfl,(by show (0:Int) < 2147483587;decide),_,_,rfl,rfl,.inr ⟨by decide,by decide⟩,_,rfl,_,_,rfl,rfl,.inl ⟨by decide,by decide⟩,_,_,rfl,rfl,_,_,rfl,rfl,_,_,rfl,rfl,(by show (0:Int) < 2147483629;decide),?_⟩
   exact ⟨(by show 2<=sizeLine;decide),row_end k _ _⟩
abbrev nTk:List Str:=["_law_pot_here","_law_many","_law_digit"]
theorem scTk:FnScope nTk ["_law_pot_here","_law_many"] (defScope sTake):=⟨rfl,rfl,rfl,by decide +kernel,rfl,by decide +kernel,by decide +kernel⟩
theorem ok_take {f:Addr} {fd:FuncData} (F:Fun K "_law_take" "_law_take" sTake f fd) (T:Glb mg):FnOk P w K mg base CX0 1 f fd ["_law_pot_here","_law_many"] spDraw:=by
 refine F.ok scTk (fun vs H Q E h=>?_) (fun cdv A outer s H vs Q E hr h=>?_)
 ·obtain ⟨p,m,rfl,_⟩:=h
  rfl
 ·obtain ⟨p,m,rfl,⟨a,b,hp⟩,m0,m1,k⟩:=h
  refine ⟨_,pss_cons (ps_if (pt_cmpR op_gt (pe_ix ix_list (pv 0) pe_int (fun _ _=>rfl)) pe_int (nomark _))
   (pss_cons (ps_asg (pe_callB call_divmod' (by rfl) T.divmod PyProof.Rows.boot_divmod (pa_cons (pe_ix ix_list (pv 0) pe_int (fun _ _=>rfl)) (pa_cons (pv 1) pa_nil)))
    (pg_tup rfl (pgs_cons (pg_sub (pv 0) pe_int set_list) (pgs_cons (pg_name (i:=2) scTk.nd rfl (Or.inl rfl)) pgs_nil)))) (pss_one (ps_ret (pv 2)))) pss_nil)
   (pss_cons (ps_asg (pe_op op_mod (pe_op op_add (pe_op op_mul (pe_ix ix_list (pv 0) pe_int (fun _ _=>rfl)) pe_int) pe_int) pe_int) (pg_sub (pv 0) pe_int set_list))
   (pss_one (ps_ret (pe_op op_mod (pe_op op_fdiv (pe_op op_mod (pe_op op_mul (pe_ix ix_list (pv 0) pe_int (fun _ _=>rfl)) (pe_ix ix_list (pv 0) pe_int (fun _ _=>rfl))) pe_int) pe_int) (pv 1))))),?_⟩
  refine ⟨_,rfl,p,_,_,_,rfl,rfl,SqL.of hp,atI_nat (j:=0) rfl,?_⟩
  refine ⟨_,_,rfl,rfl,_,rfl,?_⟩
  refine ite2 (fun ha=>?_) (fun ha=>?_)
  ·refine ⟨_,rfl,p,_,_,_,rfl,rfl,SqL.of hp,atI_nat (j:=0) rfl,_,rfl,a,m,rfl,m0,m1,fun t ht=>?_⟩
   have npt:p≠t:=ne_of_none hp ht
   refine ⟨t,_,rfl,SqT.of upd_same,rfl,_,_,rfl,_,rfl,p,_,_,0,rfl,rfl,(by rw [upd_ne npt];exact hp),rfl,?_⟩
   refine ⟨_,_,rfl,rfl,_,rfl,?_⟩
   refine k _ _ (Int.emod_nonneg _ (by omega)) (Int.emod_lt_of_pos _ m0) ⟨_,_,upd_same⟩ fun c o e hc=>?_
   rw [upd_ne hc,upd_ne (ne_of_none e ht)]
   exact e
  ·refine ⟨_,rfl,p,_,_,_,rfl,rfl,SqL.of hp,atI_nat (j:=1) rfl,_,_,rfl,rfl,.inr ⟨by decide,by decide⟩,_,_,rfl,rfl,_,_,rfl,rfl,(by show (0:Int) < 2147483629;decide),?_⟩
   refine ⟨_,rfl,p,_,_,1,rfl,rfl,hp,rfl,?_⟩
   have c1:0<=(b * 39373+9973) % 2147483629:=Int.emod_nonneg _ (by decide)
   have c2:(b * 39373+9973) % 2147483629 < 2147483629:=Int.emod_lt_of_pos _ (by decide)
   generalize (b * 39373+9973) % 2147483629=c at c1 c2 ⊢
   refine ⟨_,rfl,p,_,_,_,rfl,rfl,SqL.of upd_same,atI_nat (j:=1) rfl,_,rfl,p,_,_,_,rfl,rfl,SqL.of upd_same,atI_nat (j:=1) rfl,_,_,rfl,rfl,.inl ⟨by omega,by omega⟩,_,_,rfl,rfl,(by show (0:Int) < 2147483563;decide),_,_,rfl,rfl,⟨by decide,by decide⟩,_,rfl,_,_,rfl,rfl,m0,?_⟩
   refine k _ _ (Int.emod_nonneg _ (by omega)) (Int.emod_lt_of_pos _ m0) ⟨_,_,upd_same⟩ fun c o e hc=>?_
   rw [upd_ne hc]
   exact e
end
end K75
namespace L2
open PySem PySem.Spec PyProof.Rows
theorem strs_all:∀ {us:List Value} {zs:List Str},us.length=zs.length->(∀ (j:Nat) (u:Value),us[j]?=some u->∃ z t,zs[j]?=some z/\u=.str z t)->StrsAre us zs
 | [],[],_,_=>.nil
 | [],_::_,h,_=>by simp at h
 | _::_,[],h,_=>by simp at h
 | u::us,z::zs,h,k=>by
  obtain ⟨z',t,e1,e2⟩:=k 0 u rfl
  cases e1
  subst e2
  exact .cons z t (strs_all (by simpa using h) fun j w e=>by simpa using k (j+1) w (by simpa using e))
section
variable {prog:Program} {w:World} {A:Around} {E:Value->Shared->Prop} {s:Shared}
theorem sorts_new {h:Heap} {tk:Nat} {us:List Value} {zs:List Str} {Q:Value->Shared->Prop} (hz:StrsAre us zs) (few:us.length < 64)
  (q:∀ (out:List Value) (n:Nat) (h2:Heap),StrsAre out (srt zs)->(∀ b o,h.get? b=some o->h2.get? b=some o)->h2.get? h.objs.size=some { cls:=.type "list",data:=.seq out.toArray n }->Q (.ref h.objs.size) { s with heap:=h2,toks:=tk }) :
  wpAny (model prog w) A (call (.builtin "list.sort") [.ref h.objs.size]) (fun _ s'=>Q (.ref h.objs.size) s') E { s with heap:=h.push { cls:=.type "list",data:=.seq us.toArray },toks:=tk }:=by
 have at0:(h.push { cls:=.type "list",data:=.seq us.toArray }).get? h.objs.size=some (seqObj "list" us.toArray 0):=Heap.get?_push_size _ rfl
 refine wpAny_call_entry PySem.F.slot_list_sort ⟨_,at0,rfl⟩ PySem.F.entry_list_sort ?_ (args_list_sort _)
 refine list_sort_treeK strKind_oneLt at0 hz.keysOf (fun a b r e=>keyKind_strs (by rw [<- e];exact hz)) few fun st p1 p2=>⟨_,rfl,?_⟩
 obtain ⟨ss,c1,c2,c3⟩:=sorted_out_str hz p1 p2
 have e:=srt_of c2 (sorted_pw ss c3)
 subst e
 obtain ⟨n,hn⟩:=sortedHeap_at (out:=(arrOf st).map (·.2)) at0
 refine q _ n _ c1 (fun b o eb=>?_) (by rw [hn])
 have lt:b < h.objs.size:=Heap.lt_size eb
 rw [sortedHeap_old (Nat.ne_of_lt lt) (by rw [Heap.size_push];exact Nat.lt_succ_of_lt lt)]
 exact Heap.get?_push_of_some _ eb
end
theorem Inv.laidN {X:Cx} {pins:List (Addr × Obj)} {σ:St} {H:Hp} {s:Shared} {h':Heap} {a:Addr} {o:HO} {t':Nat} (I:Inv X pins σ H s) (k:∀ b u,s.heap.get? b=some u->h'.get? b=some u) (hp:s.heap.get? a=none) (hn:H a=none) (new:ObjOk X.prog X.w (upd H a o) h' a o) :
  Inv X pins σ (upd H a o) { s with heap:=h',toks:=t' }:=by
 refine I.un ⟨fun b u q _ _ _=>k b u q,fun b u q _ _ _=>⟨u.slots,k b u q⟩,fun b u q n _=>?_,fun b u q _=>⟨u,k b u q⟩,fun b xs q=>?_,fun b u xs q=>?_,fun b ps q=>⟨#[],?_⟩⟩ fun b u e=>?_
 ·rw [upd_ne (fun z=>by rw [z,hp] at q;cases q)];exact n
 ·rw [upd_ne (ne_of_none q hn)];exact q
 ·rw [upd_ne (ne_of_none q hn)];exact q
 ·rw [upd_ne (ne_of_none q hn),q];simp
 ·by_cases hb:b=a
  ·subst hb;rw [upd_same] at e;cases e;exact new
  ·rw [upd_ne hb] at e
   refine (I.hok b u e).stay (fun c v _ q=>k c v q) (fun c q=>?_) fun c xs q=>?_
   ·rw [upd_ne (ne_of_none q hn)];exact q
   ·rw [upd_ne (ne_of_none q hn)];exact q
def KTxt (kvs:List (Key × V)) (zs:List Str):Prop:=kvs.map (·.1)=zs.map Sum.inr
section
variable {X:Cx}
theorem call_sorted_dk (hc:X.calm=true):CallR X (.builtin "sorted") (fun xs H Q=>∃ (p:Addr) (kvs:List (Key × V)) (zs:List Str),xs=[.ref p]/\H p=some (.dK kvs)/\KTxt kvs zs/\zs.length < 64/\∀ l,H l=none->Q (.ref l) (upd H l (.lst ((srt zs).map V.str)))):=by
 intro pins s σ H xs us Q I r h
 obtain ⟨p,kvs,zs,rfl,hp,hk,few,q⟩:=h
 obtain ⟨u,rfl,rx⟩:=vals1 r
 cases rx
 obtain ⟨z,lo,vs,rel,dd⟩:=dk_of I.hok hp
 obtain ⟨ep,da⟩:=dd.dictAt
 have hl:vs.length=zs.length:=by rw [<- rel.length,<- List.length_map (f:=(·.1)),hk,List.length_map]
 refine Calls.call_function_entry kind_sorted plain_sorted entry_sorted (args_sorted1 _) ?_
 unfold Builtin.«sorted»
 apply wpAny_bind (m:=checkCount "sorted" 1 1 _)
 apply wpAny_pure
 apply wpAny_bind
 refine PySem.W.kdu_collect (PySem.W.kdl_dict (knd:=mixKind X.prog X.w) (kvs:=vs) (ep:=ep) lo) (A:=X.A.in1) (by exact I.ok.hd hc) da (by rw [hl];exact Nat.le_trans (Nat.le_of_lt few) (by decide)) fun h1 tk acc keep items=>?_
 have la:acc.toList.length=zs.length:=by rw [Array.length_toList,items.1,hl]
 have txt:StrsAre acc.toList zs:=strs_all la fun j u e=>by
  obtain ⟨k,x,e1,e2⟩:=items.2 j u (by rw [<- Array.getElem?_toList];exact e)
  have e3:(vs.map (·.1))[j]?=some k:=by rw [List.getElem?_map,e1];rfl
  rw [<- rel.keys,hk,List.getElem?_map] at e3
  obtain ⟨z',e4,rfl⟩:=Option.map_eq_some_iff.mp e3
  have e2':keyIs (Sum.inr z') u=true:=e2
  obtain ⟨i,t,q1,q2⟩ | ⟨y,t,q1,q2⟩:=keyIs_shape e2'
  ·cases q1
  ·cases q1
   exact ⟨z',t,e4,q2⟩
 apply wpAny_bind
 refine wpAny_newList ?_ (by rw [la];exact Nat.le_trans (Nat.le_of_lt few) (by decide))
 apply wpAny_bind
 apply wpAny_holding
 refine wpAny_mono (sorts_new (prog:=X.prog) (w:=X.w) (s:=s) (h:=h1) (tk:=tk) (Q:=EP X pins σ Q) txt (by rw [la];exact few) fun out n h2 o1 o2 o3=>?_) (fun _ _ z=>wpAny_pure ⟨_,rfl,z⟩) fun _ _ z=>z
 have no:s.heap.get? h1.objs.size=none:=by
  cases e:s.heap.get? h1.objs.size with
  | none=>rfl
  | some o=>exact absurd (Heap.lt_size (keep _ _ e)) (Nat.lt_irrefl _)
 have noH:H h1.objs.size=none:=by
  cases e:H h1.objs.size with
  | none=>rfl
  | some o =>
   obtain ⟨u,eu⟩:=(I.hok _ _ e).there
   rw [no] at eu;cases eu
 refine ⟨.ref h1.objs.size,_,I.laidN (t':=tk) (o:=.lst ((srt zs).map V.str)) (fun b o e=>o2 _ _ (keep _ _ e)) no noH ?_,rfl,q _ noH⟩
 refine ⟨by rw [List.length_map,srt_len];exact Nat.le_trans (Nat.le_of_lt few) (by decide),out,n,of_strs o1,o3⟩
end
def eqVs:List V->List V->Bool
 | [],[]=>true
 | x::xs,y::ys=>eqV x y && eqVs xs ys
 | _,_=>false
theorem eqVs_len:∀ {xs ys:List V},xs.length≠ys.length->eqVs xs ys=false
 | [],[],h=>absurd rfl h
 | [],_::_,_=>rfl
 | _::_,[],_=>rfl
 | x::xs,y::ys,h=>by
  unfold eqVs
  rw [eqVs_len (by simpa using h),Bool.and_false]
theorem eqVs_all:∀ {xs ys:List V},xs.length=ys.length->eqVs xs ys=(List.range xs.length).all fun j=>eqV (xs.getD j .non) (ys.getD j .non)
 | [],[],_=>rfl
 | [],_::_,h=>by simp at h
 | _::_,[],h=>by simp at h
 | x::xs,y::ys,h=>by
  unfold eqVs
  rw [eqVs_all (by simpa using h),List.length_cons,List.range_succ_eq_map,List.all_cons,List.all_map]
  rfl
section
variable {X:Cx} {pins:List (Addr × Obj)} {σ:St} {H:Hp} {s:Shared}
theorem eq_items {xs ys:List V} {A:Around} (fx:xs.all flatV=true) (fy:ys.all flatV=true) {is js:List Value} (ri:Vals xs is) (rj:Vals ys js) :
  ∀ j (h1:j < is.toArray.size) (h2:j < js.toArray.size),SeqAt.EqAt A s is.toArray[j] js.toArray[j] (eqV (xs.getD j .non) (ys.getD j .non)):=fun j h1 h2=>by
 have b1:j < xs.length:=by rw [ri.length];simpa using h1
 have b2:j < ys.length:=by rw [rj.length];simpa using h2
 obtain ⟨u',e1,r1⟩:=ri.get (List.getElem?_eq_getElem b1)
 obtain ⟨v',e2,r2⟩:=rj.get (List.getElem?_eq_getElem b2)
 have c1:is.toArray[j]=u':=by
  rw [List.getElem_toArray]
  have:=List.getElem?_eq_getElem (l:=is) (i:=j) (by simpa using h1)
  rw [this] at e1;exact Option.some.inj e1
 have c2:js.toArray[j]=v':=by
  rw [List.getElem_toArray]
  have:=List.getElem?_eq_getElem (l:=js) (i:=j) (by simpa using h2)
  rw [this] at e2;exact Option.some.inj e2
 have d1:xs.getD j .non=xs[j]:=by simp [List.getD,List.getElem?_eq_getElem b1]
 have d2:ys.getD j .non=ys[j]:=by simp [List.getD,List.getElem?_eq_getElem b2]
 rw [c1,c2,d1,d2]
 exact eqAt_V r1 r2 (List.all_eq_true.mp fx _ (List.getElem_mem b1)) (List.all_eq_true.mp fy _ (List.getElem_mem b2))
end
section
variable {X:Cx}
def rEqF (K:PySem.W.Frag) (neg:Bool):R2:=fun x y H Q=>∃ p q xs ys,x=.ref p/\y=.ref q/\((SqL K H p xs/\SqL K H q ys)\/(SqT K H p xs/\SqT K H q ys))/\xs.all flatV=true/\ys.all flatV=true/\Q (.bl (if neg then !eqVs xs ys else eqVs xs ys)) H
theorem min_eq' {a b:Nat} (h:a=b):min a b=a:=by omega
theorem op_eq_flat (hu:X.A.units+1 < cLine):OpR X (compareOp .Eq) (rEqF X.K false):=by
 intro pins s σ H x y v u Q I rx ry h
 obtain ⟨p,q,xs,ys,rfl,rfl,h,fx,fy,fin⟩:=h
 cases rx
 cases ry
 rcases h with ⟨hp,hq⟩ | ⟨hp,hq⟩
 ·obtain ⟨is,ri,pi,_⟩:=I.list hp
  obtain ⟨js,rj,pj,_⟩:=I.list hq
  by_cases el:xs.length=ys.length
  ·refine SeqAt.eq_listAt pi.isList pj.isList (by simp only [List.size_toArray];rw [<- ri.length,<- rj.length];exact el) (by omega) (eq_items fx fy ri rj) ?_
   refine fin_bl I fin ?_
   rw [List.size_toArray,<- ri.length]
   exact eqVs_all el
  ·refine SeqAt.eq_list_lengthsAt pi.isList pj.isList ?_ (by omega) (fin_bl I fin ?_)
   ·simp only [List.size_toArray,bne_iff_ne]
    rw [<- ri.length,<- rj.length]
    exact el
   ·exact eqVs_len el
 ·obtain ⟨is,ri,pi,_⟩:=I.tuple hp
  obtain ⟨js,rj,pj,_⟩:=I.tuple hq
  refine SeqAt.eq_tupleAt pi pj (by omega) (eq_items fx fy ri rj) ?_
  refine fin_bl I fin ?_
  simp only [List.size_toArray]
  rw [<- ri.length,<- rj.length]
  by_cases el:xs.length=ys.length
  ·rw [min_eq' el,<- eqVs_all el]
   simp [el]
  ·have:(xs.length == ys.length)=false:=by simpa using el
   rw [this,Bool.and_false]
   exact eqVs_len el
open Classical in
end
structure DBlk where
 key:Expr
 val:Expr
 tgt:Expr
 src:Expr
 cs:List Expr
 sc:Scope
 pos:Pos
namespace DBlk
variable (B:DBlk)
abbrev expr:Expr:=.DictComp B.key B.val [⟨B.tgt,B.src,B.cs,0⟩] B.sc B.pos
section
variable (prog:Program) (w:World) (A:Around) (env:Env) (it:Value) (D:Addr)
def Lays (J:Shared->Prop):Bool->Shared->Prop
 | false,s=>J s
 | true,s=>Blk.Tame prog w A (eval B.key env) (fun x=>Blk.Tame prog w A (eval B.val env) fun y=>Blk.Tame prog w A (dictSet D x y) fun _=>J) s
def Takes (J:Shared->Prop) (v:Value):Shared->Prop :=
 Blk.Tame prog w A (letOwnedTupleGo B.tgt it v) fun _=>Blk.Tame prog w A (assign B.tgt env v) fun _=>Blk.Tame prog w A (allTests env B.cs) (B.Lays prog w A env D J)
def Next (Dn J:Shared->Prop):Option Value->Shared->Prop
 | none=>Dn
 | some v=>B.Takes prog w A env it D J v
end
theorem loops {B:DBlk} {prog:Program} {w:World} {A:Around} {env:Env} {it:Value} {D:Addr} {R:Result->Shared->Prop} (G:Nat->Shared->Prop)
  (turn:∀ k t,G k t->Blk.Tame prog w A (pyNext it) (B.Next prog w A env it D (R (.ok .next)) fun u=>∃ j,j < k/\G j u) t)
  {k:Nat} {t:Shared} (g:G k t):codeAny (model prog w) A (.compLoop B.expr 0 it (.ref D) env) R t:=by
 have one:∀ k t,G k t->Blk.Tame prog w A (compTurn B.expr 0 it (.ref D) env) (fun x t'=>match x with | .done r=>R (.ok r) t' | .again c=>c=.compLoop B.expr 0 it (.ref D) env/\∃ j,j < k/\G j t') t:=by
  intro k t g
  rw [show B.expr=.DictComp B.key B.val [⟨B.tgt,B.src,B.cs,0⟩] B.sc B.pos from rfl,compTurn_dict]
  apply wpAny_bind;apply wpAny_standAt;apply wpAny_bind
  refine thn (turn k t g) fun x t1 h1=>?_
  match x,h1 with
  | none,h1=>exact wpAny_pure h1
  | some v,h1 =>
   apply wpAny_bind;refine thn h1 fun _ t2 h2=>?_
   apply wpAny_bind;refine thn h2 fun _ t3 h3=>?_
   apply wpAny_bind;refine thn h3 fun b t4 h4=>?_
   match b,h4 with
   | false,h4=>exact wpAny_pure ⟨rfl,h4⟩
   | true,h4 =>
    apply wpAny_bind;apply wpAny_bind
    refine thn h4 fun y t5 h5=>?_
    apply wpAny_bind;apply wpAny_holding
    refine thn h5 fun z t6 h6=>?_
    apply wpAny_bind;apply wpAny_standAt;apply wpAny_holding
    refine thn h6 fun _ t7 h7=>?_
    exact wpAny_pure ⟨rfl,h7⟩
 exact codeAny_loop rfl G (fun k t g=>wpAny_noted (wpAny_mono (one k t g) (fun _ _ q=>q) fun _ _ f=>f.elim)) k g
end DBlk
def dcLoop (own : List Str) (fr : List Nat) (g : TG) (tt : TT) (tk te : TE) (σ : St) (Q : VK) (J : It) (H1 : Hp) : Prop :=
  ∃ W : Nat → Nat → List (Key × V) → Hp → Prop, (∃ m, W 0 m [] H1) ∧ ∀ i m kvs H2, W i m kvs H2 → kvs.length ≤ sizeLine ∧
    ((J.stop i H2 ∧ ∀ D, H2 D = none → Q (.ref D) (upd H2 D (.dK kvs))) ∨
     (J.go i H2 ∧ ∀ x H3, J.yld i H2 x H3 → g x (cSt own fr σ) H3 fun σ4 H4 => tt σ4 H4 fun b H5 => if b = true then tk σ4 H5 fun y H6 => te σ4 H6 fun z H7 => ∃ k, y = kV k ∧ ∃ m', m' < m ∧ W (i + 1) m' (putK kvs k z) H7 else ∃ m', m' < m ∧ W (i + 1) m' kvs H5))
def tDC (own:List Str) (fr:List Nat) (wi:TI) (g:TG) (tt:TT) (tk te:TE):TE:=fun σ H Q=>wi σ H (dcLoop own fr g tt tk te σ Q)
section
variable {X:Cx} {own:List Str} {fr:List Nat} {sc:Scope} {tg iter kx vx:Expr} {ifs:List Expr} {pos:Pos} {wi:TI} {g:TG} {tt:TT} {tk te:TE}
theorem dc_core {pins:List (Addr × Obj)} {σ:St} {H2:Hp} {s2:Shared} {Q:VK} {it:Addr} {fp:List Addr} {tn:Nat->Heap->Prop} {J:It} {RR:Value->Addr->Result->Shared->Prop} {E:Value->Shared->Prop} (hc:X.calm=true) (S:CompSc X own fr sc) (gk:GK own.length g)
  (hg:∀ s H fp,PG (cxC X own fr sc s H fp) tg g) (ht:∀ s H fp,PIfs (cxC X own fr sc s H fp) ifs tt) (hk:∀ s H fp,PE (cxC X own fr sc s H fp) kx tk) (he:∀ s H fp,PE (cxC X own fr sc s H fp) vx te)
  (I2:Inv X pins σ H2 s2) (T:Turn X.prog X.w X.K tg J fp it tn) (st2:tn 0 s2.heap) (f2:∀ b∈fp,FpOk X pins H2 b) (L:dcLoop own fr g tt tk te σ Q J H2)
  (hRR:∀ D C s',(∃ m,s'.heap.Ns C m)->@LE.le Nat _ s2.heap.objs.size C->(∃ H',H' C=none/\Q (.ref D) H'/\∀ h' tk,Heap.SameBut C s'.heap h'->Inv X pins σ H' { s' with heap:=h',toks:=tk })->RR (.ref D) C (.ok .next) s') :
  wpAny (model X.prog X.w) X.A newDict (fun acc s₃=>wpAny (model X.prog X.w) X.A (newFunctionEnv sc X.env.globals (clOf X.env sc.names []) [] X.env.qual none .none (some X.env)) (fun cenv s₄ =>
   codeAny (model X.prog X.w) X.A (.compStart (.DictComp kx vx [⟨tg,iter,ifs,0⟩] sc pos) 0 (.ref it) acc { cenv with scope:=relabel sc X.env }) (RR acc cenv.locals) s₄) E s₃) E s2:=by
 obtain ⟨W,⟨m0,w0⟩,turn⟩:=L
 refine wpAny_newObj_type (newEnv_comp ?_)
 dsimp only
 generalize hh1:s2.heap.push { cls:=.type "dict",dict:=none,data:=.dict #[] }=h1
 have hz:h1.objs.size=s2.heap.objs.size+1:=by rw [<- hh1,Heap.size_push]
 have hk1:∀ b o,s2.heap.get? b=some o->h1.get? b=some o:=fun b o e=>by rw [<- hh1];exact Heap.get?_push_of_some _ e
 have hD1:h1.get? s2.heap.objs.size=some { cls:=.type "dict",data:=.dict #[] }:=by rw [<- hh1];exact Heap.get?_push_size _ rfl
 have hfl:∀ b∈fp,@LT.lt Nat _ b s2.heap.objs.size:=fun b hb=>by
  obtain ⟨o,e,_⟩:=T.obj _ _ st2 b hb
  exact Heap.lt_size e
 have I3:=inv_comp I2 S f2 hz hk1 hfl
 rw [hz]
 generalize hY:cxC X own fr sc s2 H2 fp=Y at I3
 have hD3:(hC s2 sc h1).get? s2.heap.objs.size=some { cls:=.type "dict",data:=.dict #[] }:=pushCells_keeps _ _ _ _ (Heap.get?_push_of_some _ hD1)
 have st3:tn 0 (hC s2 sc h1):=T.keep _ _ _ st2 fun b _ o e=>pushCells_keeps _ _ _ _ (Heap.get?_push_of_some _ (hk1 b o e))
 have eP:Y.prog=X.prog:=by rw [<- hY];rfl
 have eW:Y.w=X.w:=by rw [<- hY];rfl
 have eK:Y.K=X.K:=by rw [<- hY];rfl
 have eA:Y.A=X.A:=by rw [<- hY];rfl
 have eX:Y.xe=Nev:=by rw [<- hY];rfl
 have ecm:Y.calm=true:=by rw [<- hY];exact hc
 have eEnv:({ scope:=relabel sc X.env,locals:=s2.heap.objs.size+1,globals:=X.env.globals,cells:=cellsFrom (s2.heap.objs.size+1+1) sc.names (clOf X.env sc.names []),qual:=X.env.qual,func:=none,code:=X.env.code,frame:=X.env.frame,builtins:=X.env.builtins }:Env)=Y.env:=by rw [<- hY];rfl
 have eL:Y.env.locals=s2.heap.objs.size+1:=by rw [<- hY];rfl
 rw [eEnv]
 have hg':PG Y tg g:=hY ▸ hg s2 H2 fp
 have ht':PIfs Y ifs tt:=hY ▸ ht s2 H2 fp
 have he':PE Y vx te:=hY ▸ he s2 H2 fp
 have hk':PE Y kx tk:=hY ▸ hk s2 H2 fp
 have dfp:s2.heap.objs.size ∉ fp:=fun z=>Nat.lt_irrefl _ (hfl _ z)
 have dC:s2.heap.objs.size≠s2.heap.objs.size+1:=Nat.ne_of_lt (Nat.lt_succ_self _)
 have cellN:∀ x c,Y.env.cells.lookup x=some c->c≠s2.heap.objs.size:=fun x c e z=>by
  obtain ⟨v,o,q,d⟩:=I3.cell x c e
  rw [z] at q
  have q':=hD3.symm.trans q
  cases q'
  cases d
 have hDfs:s2.heap.objs.size ∉ Y.fs:=by
  rw [<- hY]
  intro z
  rcases List.mem_cons.mp (I2.stkSub _ z) with e | e
  ·exact Nat.lt_irrefl _ (by have:=I2.lt;rw [<- e] at this;exact this)
  ·exact I2.nofs (Nat.le_refl _) e
 have hD0:@LE.le Nat _ Y.s₀.heap.objs.size s2.heap.objs.size:=by rw [<- hY];exact Nat.le_refl _
 have fpY:∀ {H':Hp} {pp:List (Addr × Obj)},(∀ b∈fp,H' b=none)->(∀ p∈pp,p.1 ∉ fp)->∀ b∈fp,FpOk Y pp H' b:=fun {H' pp} hn hp b hb=>by
  refine ⟨hn b hb,?_,?_,?_,?_,fun p hq z=>?_⟩
  ·have:=hfl b hb;rw [eL];intro z;have z':@Eq Nat b (s2.heap.objs.size+1):=z;omega
  ·rw [<- hY]
   intro z
   rcases List.mem_cons.mp (I2.stkSub _ z) with e | e
   ·exact (f2 b hb).2.1 e
   ·exact (f2 b hb).2.2.1 e
  ·exact .inl (by rw [<- hY];exact hb)
  ·exact (I3.ok.exf b (by rw [<- hY];exact hb)).2
  ·rcases List.mem_append.mp hq with q | q
   ·have:p∈([]:List (Addr × Obj)):=by rw [<- hY] at q;exact q
    exact nomatch this
   ·exact hp p q (z ▸ hb)
 have pinD:∀ {H':Hp} {s':Shared} {σ':St} {ob:Obj},Inv Y [] σ' H' s'->H' s2.heap.objs.size=none->s'.heap.get? s2.heap.objs.size=some ob->(∀ v,ob.data≠.cell v)->Inv Y [(s2.heap.objs.size,ob)] σ' H' s':=fun {H' s' σ' ob} J0 hn e d =>
  J0.pins_of fun p hp=>by
   have:p=(s2.heap.objs.size,ob):=by simpa using hp
   subst this
   exact ⟨e,hn,by rw [eL];exact dC,hDfs,d⟩
 have fpp:∀ {ob:Obj} (p:Addr × Obj),p∈[(s2.heap.objs.size,ob)]->p.1 ∉ fp:=fun {ob} p hp=>by
  have:p=(s2.heap.objs.size,ob):=by simpa using hp
  subst this;exact dfp
 have loop:codeAny (model X.prog X.w) X.A (.compLoop (.DictComp kx vx [⟨tg,iter,ifs,0⟩] sc pos) 0 (.ref it) (.ref s2.heap.objs.size) Y.env) (RR (.ref s2.heap.objs.size) (s2.heap.objs.size+1)) { s2 with heap:=hC s2 sc h1 }:=by
  have hD4:(hC s2 sc h1).DictOf (mixKind X.prog X.w) s2.heap.objs.size []:=(show h1.DictOf (mixKind X.prog X.w) s2.heap.objs.size [] from hh1 ▸ Heap.DictOf.new s2.heap).keep fun b o e=>pushCells_keeps _ _ _ _ (Heap.get?_push_of_some _ e)
  refine DBlk.loops (B:=⟨kx,vx,tg,iter,ifs,sc,pos⟩) (fun n s'=>∃ i kvs vs H',W i n kvs H'/\Inv Y [] (cSt own fr σ) H' s'/\tn i s'.heap/\(∀ b∈fp,H' b=none)/\H' s2.heap.objs.size=none/\s'.heap.DictOf (mixKind X.prog X.w) s2.heap.objs.size vs/\KV kvs vs) ?_ (k:=m0)
   ⟨0,[],[],H2,w0,I3,st3,fun b hb=>(f2 b hb).1,I2.hok.fresh (Nat.le_refl _),hD4,.nil⟩
  rintro n s' ⟨i,kvs,vs,H',w',J0,st',fr',hDn,hDo,rv⟩
  obtain ⟨hyl,cases'⟩:=turn i n kvs H' w'
  obtain ⟨ob,es,ep,hob,hexd,hdat,hkeys,hpairs,hnod⟩:=hDo
  have hnc:∀ v,ob.data≠.cell v:=fun v z=>by rw [hdat] at z;cases z
  have J1:=pinD J0 hDn hob hnc
  rcases cases' with ⟨stop,fin⟩ | ⟨go,step⟩
  ·have d0:=T.done Y eP eW eK ecm i _ s' _ H' Nev J1 (fpY fr' fpp) st' stop
   rw [eA] at d0
   refine wpAny_mono d0 (fun r s4 ⟨hr,J4⟩=>?_) fun _ _ z=>z
   subst hr
   have pD:=(J4.pin (s2.heap.objs.size,_) (List.mem_append_right _ List.mem_cons_self)).1
   refine hRR _ _ s4 ?_ (Nat.le_succ _) ⟨upd H' s2.heap.objs.size (.dK kvs),?_,fin _ hDn,fun h' tk hs=>?_⟩
   ·obtain ⟨m,hn,_⟩:=J4.loc
    rw [eL] at hn
    exact ⟨m,hn⟩
   ·rw [upd_ne (Ne.symm dC),<- eL];exact J4.free
   ·subst hY
    have hO:ObjOk X.prog X.w (upd H' s2.heap.objs.size (.dK kvs)) h' s2.heap.objs.size (.dK kvs):=⟨hyl,beq_eq_false_iff_ne.mpr (Ne.symm (Nat.ne_of_lt I2.big)),vs,rv,ob,es,ep,(hs.2 _ dC).trans pD,hexd,hdat,hkeys,hpairs,hnod⟩
    exact inv_back I2 f2 J4 (Nat.le_refl _) hDn dC hs hO tk
  ·have d0:=T.item Y eP eW eK ecm i _ s' _ H' Nev J1 (fpY fr' fpp) st' go
   rw [eA] at d0
   refine wpAny_mono d0 (fun r s4 ⟨u,hr,h4⟩=>?_) fun _ _ z=>z
   subst hr
   refine wpAny_mono h4 (fun _ s5 ⟨x,H5,J5,r5,y5,st5,fr5⟩=>?_) fun _ _ z=>z
   have J5':=J5.pinned (fpY fr5 fpp) (T.obj _ _ st5)
   have s1:=hg' _ s5 _ H5 x u _ J5' r5 (gk _ _ _ _ (step x H5 y5))
   rw [eP,eW,eA,eX] at s1
   refine wpAny_mono s1 (fun _ s6 ⟨σ6,H6,J6,q6,kp6⟩=>?_) fun _ _ z=>z
   have s2':=ht' _ s6 σ6 H6 _ J6 q6
   rw [eP,eW,eA,eX] at s2'
   refine wpAny_mono s2' (fun ok s7 ⟨H7,J7,q7⟩=>?_) fun _ _ z=>z
   have low:∀ {H8:Hp} {s8:Shared},Inv Y ([(s2.heap.objs.size,ob)]++pinsAt fp s5.heap) σ6 H8 s8 ->
     Inv Y (pinsAt fp s5.heap) σ6 H8 s8/\H8 s2.heap.objs.size=none/\s8.heap.get? s2.heap.objs.size=some ob/\(∀ b∈fp,H8 b=none)/\tn (i+1) s8.heap:=fun {H8 s8} J8=>by
    have p8:=J8.pin (s2.heap.objs.size,_) (List.mem_append_right _ (List.mem_append_left _ List.mem_cons_self))
    refine ⟨J8.pins_of fun p hp=>J8.pin p (List.mem_append_right _ (List.mem_append_right _ hp)),p8.2.1,p8.1,fun b hb=>?_,T.keep _ _ _ st5 fun b hb o e=>(J8.pin (b,o) (List.mem_append_right _ (List.mem_append_right _ (mem_pinsAt hb e)))).1⟩
    obtain ⟨o,e,d⟩:=T.obj _ _ st5 b hb
    exact (J8.pin (b,o) (List.mem_append_right _ (List.mem_append_right _ (mem_pinsAt hb e)))).2.1
   have weak:∀ {H8:Hp} {s8:Shared} {pp:List (Addr × Obj)},Inv Y pp σ6 H8 s8->Inv Y [] (cSt own fr σ) H8 s8:=fun {H8 s8 pp} J8=>(J8.weak kp6.1.symm (fun j v e=>by
    by_cases hj:j < own.length
    ·exfalso
     unfold cSt at e
     rw [List.getElem?_append_left (by simpa using hj),List.getElem?_replicate] at e
     split at e<;>cases e
    ·rw [kp6.2 j (Nat.not_lt.mp hj)];exact e)).pins_of fun p hp=>nomatch hp
   cases ok with
   | false =>
    obtain ⟨m',hm,w7⟩:=(show ∃ m',m' < n/\W (i+1) m' kvs H7 by simpa using q7)
    obtain ⟨_,l1,l2,l3,l4⟩:=low J7
    exact ⟨m',hm,i+1,kvs,vs,H7,w7,weak J7,l4,l3,l1,⟨ob,es,ep,l2,hexd,hdat,hkeys,hpairs,hnod⟩,rv⟩
   | true =>
    have q7':tk σ6 H7 fun y H6=>te σ6 H6 fun z H7=>∃ k,y=kV k/\∃ m',m' < n/\W (i+1) m' (putK kvs k z) H7:=by simpa using q7
    have s3:=hk' _ s7 σ6 H7 _ J7 q7'
    rw [eP,eW,eA,eX] at s3
    show wpAny _ _ _ _ _ _
    refine wpAny_mono s3 (fun yv s8 ⟨y,H8,J8,r8,q8⟩=>?_) fun _ _ z=>z
    have s4':=he' _ s8 σ6 H8 _ J8 q8
    rw [eP,eW,eA,eX] at s4'
    refine wpAny_mono s4' (fun zv s9 ⟨z,H9,J9,r9,ky,ey,m',hm,w9⟩=>?_) fun _ _ z=>z
    subst ey
    obtain ⟨J9a,l1,l2,l3,l4⟩:=low J9
    refine wpAny_dictSet_pairs (knd:=mixKind X.prog X.w) (hsz:=by rw [<- rv.length];exact hyl) (kV_is r8) (⟨ob,es,ep,l2,hexd,hdat,hkeys,hpairs,hnod⟩:s9.heap.DictOf (mixKind X.prog X.w) s2.heap.objs.size vs) fun h' hD' hs'=>?_
    have J10:Inv Y [] (cSt own fr σ) H9 { s9 with heap:=h',toks:=s9.toks+1 }:=by
     refine (weak J9a).turned (t':=s9.toks+1) (it:=s2.heap.objs.size) (fun b o hb e=>(hs'.2 b hb).trans e) l1 (by rw [eL];exact dC) (.inr hD0) cellN fun p hp=>?_
     have:p∈([]:List (Addr × Obj)):=by rw [<- hY] at hp;exact hp
     exact nomatch this
    refine ⟨m',hm,i+1,putK kvs ky z,stored vs ky zv,H9,w9,J10,?_,l3,l1,hD',rv.put ky r9⟩
    exact T.keep _ _ _ l4 fun b hb o e=>(hs'.2 b (fun z=>dfp (z ▸ hb))).trans e
 exact codeAny_compStart_dict loop (T.self X.A 0 _ _ _ st3 loop)
theorem ps_setD {spos pos':Pos} {i:Nat} {x:Str} (own:List Str) (fr:List Nat) (hN:X.N.Nodup) (hix:X.N[i]?=some x) (hx:X.env.scope.names.lookup x=some .local) (hc:X.calm=true) (S:CompSc X own fr sc) (gk:GK own.length g) (hi:PI X tg iter wi)
  (hg:∀ s H fp,PG (cxC X own fr sc s H fp) tg g) (ht:∀ s H fp,PIfs (cxC X own fr sc s H fp) ifs tt) (hk:∀ s H fp,PE (cxC X own fr sc s H fp) kx tk) (he:∀ s H fp,PE (cxC X own fr sc s H fp) vx te)
  (hsw:swapsWith (.DictComp kx vx [⟨tg,iter,ifs,0⟩] sc pos) (some (.Name x pos')) spos.line X.env=pure true:=by rfl)
  (hs:∀ x,foldedSetIterable iter X.env x=pure x:=by intro _;rfl):PS X (.Assign [.Name x pos'] (.DictComp kx vx [⟨tg,iter,ifs,0⟩] sc pos) spos) (tAsg (tDC own fr wi g tt tk te) (gName i)):=by
 intro pins s σ H D I h
 rw [exec_Assign_Name_used _ _ _ _ hsw]
 apply wpAny_bind;apply wpAny_standAt;apply wpAny_bind
 show wpAny _ _ (comprehension (.DictComp kx vx [⟨tg,iter,ifs,0⟩] sc pos) sc X.env _ newDict false (eval iter X.env) (some (assign (.Name x pos') X.env)) >>= _) _ _ s
 apply wpAny_bind
 have hclos:closureFor sc X.env=pure (clOf X.env sc.names []):=closureFor_of fun y hy hf=>I.ok.has y.1 (by
  rcases S.fre y hy hf with q | q
  ·exact .inl q
  ·exact .inr q)
 refine wpAny_mono (wpAny_comprehension_free (use:=some (assign (.Name x pos') X.env)) (Q:=fun _ s'=>SP X pins D .next s') rfl hs hclos S.kind (fun y hy hl=>lookup_of_mem_nd S.nd (by rw [<- hl];exact hy)) ?_) (fun _ s' q=>wpAny_pure (wpAny_pure q)) fun _ _ z=>z
 refine thn (hi pins s σ H _ I h) fun v s1 h1=>thn h1 fun itv s2 h2=>?_
 obtain ⟨it,fp,tn,J,H2,e,I2,T,st2,f2,L⟩:=h2
 subst e
 exact dc_core hc S gk hg ht hk he I2 T st2 f2 L fun D0 C s' ns le h=>stored_use (R:=D.nx) I2 hN hix hx ns le h
end
theorem dc_list {K:PySem.W.Frag} {a:Addr} {xs:List V} {own:List Str} {fr:List Nat} {g:TG} {tt:TT} {tk te:TE} {σ:St} {Q:VK} {H:Hp} (Pv:Nat->List (Key × V)->Hp->Prop) (h0:Pv 0 [] H) (hlen:∀ i kvs H,i<=xs.length->Pv i kvs H->kvs.length<=sizeLine)
  (hl:∀ i kvs H,i<=xs.length->Pv i kvs H->SqL K H a xs)
  (hs:∀ i x kvs H (R:List (Key × V)->Hp->Prop),xs[i]?=some x->Pv i kvs H->(∀ kvs' H',Pv (i+1) kvs' H'->R kvs' H')->g x (cSt own fr σ) H fun σ4 H4=>tt σ4 H4 fun b H5=>if b=true then tk σ4 H5 fun y H6=>te σ4 H6 fun z H7=>∃ k,y=kV k/\R (putK kvs k z) H7 else R kvs H5)
  (hd:∀ kvs H,Pv xs.length kvs H->∀ D,H D=none->Q (.ref D) (upd H D (.dK kvs))):dcLoop own fr g tt tk te σ Q (Itl K a) H:=by
 refine ⟨fun i m kvs H=>m=xs.length - i/\i<=xs.length/\Pv i kvs H,⟨xs.length,rfl,Nat.zero_le _,h0⟩,?_⟩
 rintro i m kvs H2 ⟨rfl,hi,p⟩
 refine ⟨hlen i kvs H2 hi p,?_⟩
 have q:=hl i kvs H2 hi p
 by_cases h:i < xs.length
 ·refine .inr ⟨⟨xs,xs[i],q,by simp [h]⟩,fun x H3 hy=>?_⟩
  obtain ⟨rfl,hy⟩:=hy
  have z:=hs i x kvs _ (fun kvs' H'=>∃ m',m' < xs.length - i/\(m'=xs.length - (i+1)/\i+1<=xs.length/\Pv (i+1) kvs' H')) (hy xs q) p fun kvs' H' q=>⟨xs.length - (i+1),by omega,rfl,h,q⟩
  exact z
 ·have e:i=xs.length:=by omega
  subst e
  exact .inl ⟨⟨xs,q,Nat.le_refl _⟩,hd kvs H2 p⟩
def tab:List Str->List Addr->List (Key × V)
 | z::zs,l::ls=>(Sum.inr z,V.ref l)::tab zs ls
 | _,_=>[]
theorem tab_len:∀ {zs:List Str} {ls:List Addr},ls.length=zs.length->(tab zs ls).length=zs.length
 | [],[],_=>rfl
 | [],_::_,h=>by simp at h
 | _::_,[],h=>by simp at h
 | z::zs,l::ls,h=>by
  show (tab zs ls).length+1=zs.length+1
  rw [tab_len (by simpa using h)]
theorem tab_snoc:∀ {zs:List Str} {ls:List Addr} (z:Str) (l:Addr),ls.length=zs.length->tab (zs++[z]) (ls++[l])=tab zs ls++[(Sum.inr z,V.ref l)]
 | [],[],_,_,_=>rfl
 | [],_::_,_,_,h=>by simp at h
 | _::_,[],_,_,h=>by simp at h
 | x::zs,y::ls,z,l,h=>by
  show (Sum.inr x,V.ref y)::tab (zs++[z]) (ls++[l])=_
  rw [tab_snoc z l (by simpa using h)]
  rfl
theorem tab_none:∀ {zs:List Str} {ls:List Addr} {z:Str},z ∉ zs->valV (tab zs ls) (Sum.inr z:Key)=none
 | [],_,_,_=>rfl
 | _::_,[],_,_=>rfl
 | x::zs,y::ls,z,h=>by
  have h1:¬ x=z:=fun e=>h (e ▸ List.mem_cons_self)
  show valV ((Sum.inr x,V.ref y)::tab zs ls) _=_
  rw [valV_neg (fun e=>h1 (Sum.inr.inj e))]
  exact tab_none fun m=>h (List.mem_cons_of_mem _ m)
theorem tab_at:∀ {zs:List Str} {ls:List Addr} {i:Nat} {z:Str} {l:Addr},zs.Nodup->zs[i]?=some z->ls[i]?=some l->valV (tab zs ls) (Sum.inr z:Key)=some (.ref l)
 | [],_,_,_,_,_,h,_=>by simp at h
 | _::_,[],_,_,_,_,_,h=>by simp at h
 | x::zs,y::ls,0,z,l,_,h1,h2=>by
  have e1:x=z:=by simpa using h1
  have e2:y=l:=by simpa using h2
  subst e1 e2
  exact valV_pos rfl
 | x::zs,y::ls,i+1,z,l,nd,h1,h2=>by
  rw [List.nodup_cons] at nd
  have h1':zs[i]?=some z:=by simpa using h1
  have ne:¬ x=z:=fun e=>nd.1 (e ▸ List.mem_of_getElem? h1')
  show valV ((Sum.inr x,V.ref y)::tab zs ls) _=_
  rw [valV_neg (fun e=>ne (Sum.inr.inj e))]
  exact tab_at nd.2 h1' (by simpa using h2)
theorem nd_at {α:Type} {l:List α} (nd:l.Nodup) {i j:Nat} {x:α} (hi:l[i]?=some x) (hj:l[j]?=some x):i=j:=by
 obtain ⟨h1,e1⟩:=List.getElem?_eq_some_iff.mp hi
 obtain ⟨h2,e2⟩:=List.getElem?_eq_some_iff.mp hj
 exact (List.getElem_inj nd).mp (e1.trans e2.symm)
section
variable {prog:Program} {w:World} {A:Around} {E:Value->Shared->Prop} {s:Shared}
theorem any_choose {src:Source} {n:Nat} {Q:Nat->Shared->Prop} (hn:n≠0) (h:∀ i dr,i < n->Q i { s with drawn:=dr }):wpAny (model prog w) A (choose src n) Q E s:=fun Γ p _=>by
 show Sem.wp _ Γ (.choose src n .pure) _ _ p s
 rw [Sem.wp_choose]
 exact ⟨hn,h _ _ (Nat.mod_lt _ (Nat.pos_of_ne_zero hn))⟩
theorem erase_perm {α:Type}:∀ (xs:List α) (i:Nat) (h:i < xs.length),(xs[i]::xs.eraseIdx i).Perm xs
 | [],_,h=>by simp at h
 | x::xs,0,_=>.refl _
 | x::xs,i+1,h=>(List.Perm.swap x (xs[i]'(by simpa using h)) (xs.eraseIdx i)).trans (List.Perm.cons x (erase_perm xs i (by simpa using h)))
theorem draw_order {α:Type}:∀ (n:Nat) (xs:List α) (s:Shared) (Q:List α->Shared->Prop),xs.length=n->(∀ ys dr,ys.Perm xs->Q ys { s with drawn:=dr })->wpAny (model prog w) A (drawOrder n xs) Q E s
 | 0,xs,s,Q,hl,h=>by
  have e:xs=[]:=List.eq_nil_of_length_eq_zero hl
  subst e
  exact wpAny_pure (h [] s.drawn .nil)
 | n+1,[],s,Q,hl,h=>by simp at hl
 | n+1,x::xs,s,Q,hl,h=>by
  unfold drawOrder
  refine wpAny_bind (any_choose (by simp) fun i dr hi=>?_)
  have e:(x::xs)[i]?=some (x::xs)[i]:=List.getElem?_eq_getElem hi
  rw [e]
  refine wpAny_bind (draw_order n _ _ _ (by rw [List.length_eraseIdx_of_lt hi];simpa using hl) fun ys dr' hp=>?_)
  refine wpAny_pure (h _ dr' ?_)
  exact (List.Perm.cons _ hp).trans (erase_perm _ i hi)
end
def byTxt (w:World):Bool:=w.params.followText "set-order"
section
variable {prog:Program} {w:World} {A:Around} {E:Value->Shared->Prop} {s:Shared}
theorem new_set (a:Value) {Q₁:Value->Shared->Prop} (h:Q₁ (.ref s.heap.objs.size) { s with heap:=s.heap.push { cls:=.type "set",dict:=none,data:=.set #[] 0 (.fresh 0 0 (!byTxt w)) } }) :
  codeAny (model prog w) A (.call (.builtin "set.__new__") ⟨[.type "set",a],[]⟩) (wants Q₁ E) s:=by
 apply codeAny_of_tree
 show wpAny _ A.in1 (checkBuiltinCall "set.__new__" ⟨[.type "set",a],[]⟩ >>= fun _=>again (.builtin "set.__new__" ⟨[.type "set",a],[]⟩)) _ _ s
 apply wpAny_bind
 refine wpAny_of_eq (PySem.F.newCall_set_1 a) ?_
 apply wpAny_pure
 refine ⟨plainId_quiet PySem.F.plain_set_new _,codeAny_builtin PySem.F.entry_set_new ?_⟩
 rw [Around.under_plainId PySem.F.plain_set_new _]
 have self:=sub_set_self
 obtain ⟨hp,g,d,tk,os⟩:=s
 unfold Builtin.«set.__new__» Builtin.Frozenset.newClass
 dsimp only
 wp_walk
 apply wpAny_askSetting
 apply wpAny_pure
 dsimp only [newObj]
 apply wpAny_bind
 apply wpAny_alloc
 apply wpAny_pure
 exact wpAny_pure h
end
section
variable {prog:Program} {w:World} {A:Around} {I S:Addr} {fp wr:List Addr} {G:Array GenState->Array GenState->Prop} {P:Nat->Value->Prop} {St:Nat->Shared->Prop} {zs:List Str} {R:Result->Shared->Prop} {led:Bool}
end
end L2
namespace L3
open PySem
def Rising (xs:Array Nat):Prop:=∀ i j (hi:i < xs.size) (hj:j < xs.size),i < j->xs[i] < xs[j]
theorem below_go {xs:Array Nat} {j:Nat} (r:Rising xs):∀ (fuel lo hi:Nat),lo<=hi->hi<=xs.size->hi - lo<=fuel->(∀ i (h:i < xs.size),i < lo->xs[i] < j)->(∀ i (h:i < xs.size),hi<=i->j<=xs[i]) ->
  SetTable.below.go xs j fuel lo hi<=xs.size/\(∀ i (h:i < xs.size),i < SetTable.below.go xs j fuel lo hi->xs[i] < j)/\(∀ i (h:i < xs.size),SetTable.below.go xs j fuel lo hi<=i->j<=xs[i])
 | 0,lo,hi,a,b,c,p,q=>by
  have e:lo=hi:=by omega
  subst e
  exact ⟨b,p,q⟩
 | fuel+1,lo,hi,a,b,c,p,q=>by
  rw [SetTable.below.go]
  by_cases h:lo < hi
  ·rw [if_pos h]
   dsimp only
   have hm:(lo+hi) / 2 < xs.size:=by omega
   have e:xs.getD ((lo+hi) / 2) j=xs[(lo+hi) / 2]:=by simp [Array.getD,hm]
   rw [e]
   by_cases hx:xs[(lo+hi) / 2] < j
   ·rw [if_pos hx]
    refine below_go r fuel _ _ (by omega) b (by omega) (fun i hi' hl=>?_) q
    by_cases ie:i=(lo+hi) / 2
    ·subst ie;exact hx
    ·exact Nat.lt_trans (r i _ hi' hm (by omega)) hx
   ·rw [if_neg hx]
    refine below_go r fuel _ _ (by omega) (by omega) (by omega) p (fun i hi' hl=>?_)
    by_cases ie:i=(lo+hi) / 2
    ·subst ie;omega
    ·have:=r _ i hm hi' (by omega);omega
  ·rw [if_neg h]
   have e:lo=hi:=by omega
   subst e
   exact ⟨b,p,q⟩
theorem below_is {xs:Array Nat} (r:Rising xs) (j:Nat):SetTable.below xs j<=xs.size/\(∀ i (h:i < xs.size),i < SetTable.below xs j->xs[i] < j)/\(∀ i (h:i < xs.size),SetTable.below xs j<=i->j<=xs[i]) :=
 below_go r _ _ _ (Nat.zero_le _) (Nat.le_refl _) (by omega) (fun i h z=>absurd z (Nat.not_lt_zero _)) (fun i h z=>absurd h (by omega))
theorem below_at {xs:Array Nat} (r:Rising xs) {i j:Nat} (h:xs[i]?=some j):SetTable.below xs j=i:=by
 obtain ⟨hi,e⟩:=Array.getElem?_eq_some_iff.mp h
 obtain ⟨a,b,c⟩:=below_is r j
 rcases Nat.lt_trichotomy (SetTable.below xs j) i with q | q | q
 ·have:=c _ (by omega) (Nat.le_refl _)
  have:=r _ i (by omega) hi q
  omega
 ·exact q
 ·have:=b i hi q;omega
theorem slot_live {t:SetTable} (r:Rising t.place) {i j:Nat} (h:t.place[i]?=some j):t.slot j=.live i:=by
 unfold SetTable.slot
 rw [below_at r h]
 dsimp only
 rw [h]
 simp
theorem slot_empty {t:SetTable} (d:t.dummies=#[]) {j:Nat} (h:∀ i:Nat,t.place[i]?≠some j):t.slot j=.empty:=by
 unfold SetTable.slot
 dsimp only
 rw [if_neg (by simpa using h _)]
 have e:SetTable.has t.dummies j=false:=by rw [d];rfl
 rw [e]
 rfl
abbrev Probe:=SetTable.Probe
theorem below_step {xs:Array Nat} (r:Rising xs) {i:Nat} (hi:i<=xs.size):SetTable.below xs (if i=0 then 0 else xs.getD (i - 1) 0+1)=i:=by
 obtain ⟨a,b,c⟩:=below_is r (if i=0 then 0 else xs.getD (i - 1) 0+1)
 generalize hj:SetTable.below xs (if i=0 then 0 else xs.getD (i - 1) 0+1)=j at a b c ⊢
 cases i with
 | zero =>
  rcases Nat.eq_zero_or_pos j with h | h
  ·exact h
  ·have:=b 0 (by omega) h
   simp at this
 | succ k =>
  rw [if_neg (by omega),Nat.add_sub_cancel] at b c
  have hk:k < xs.size:=by omega
  have e:xs.getD k 0=xs[k]:=by simp [hk]
  rw [e] at b c
  rcases Nat.lt_trichotomy j (k+1) with h | h | h
  ·have:=c k hk (by omega)
   omega
  ·exact h
  ·have:=b (k+1) (by omega) h
   have:=r k (k+1) hk (by omega) (by omega)
   omega
end L3
namespace L2
open PySem PySem.Spec PyProof.Rows
theorem entry_set_iter:entryFor table "set.__iter__" = some Builtin.«frozenset.__iter__» :=
 entryFor_alias (id':="frozenset.__iter__") (by kernel_rfl) rfl (by decide +kernel) (by kernel_rfl)
theorem slot_si_next:Slot "set_iterator" "__next__" "set_iterator.__next__" :=
 .of (owner:="set_iterator") (n:="__next__") (by rw [typeLookup_type,builtinLookup_eq_fast];kernel_rfl) (by decide +kernel) (by decide +kernel) (by decide +kernel)
  (by first | exact .inl (by decide +kernel) | exact .inr (by decide +kernel)) (by rw [isSubtype_type];kernel_rfl)
theorem entry_si_next:entryFor table "set_iterator.__next__" = some Builtin.«set_iterator.__next__»:=entryFor_of_tree (by kernel_rfl)
theorem args_si_next (a:Value):argsOk "set_iterator.__next__" ⟨[a],[]⟩:=by unfold argsOk;kernel_rfl
theorem slot_si_iter:Slot "set_iterator" "__iter__" "set_iterator.__iter__" :=
 .of (owner:="set_iterator") (n:="__iter__") (by rw [typeLookup_type,builtinLookup_eq_fast];kernel_rfl) (by decide +kernel) (by decide +kernel) (by decide +kernel)
  (by first | exact .inl (by decide +kernel) | exact .inr (by decide +kernel)) (by rw [isSubtype_type];kernel_rfl)
theorem entry_si_iter:entryFor table "set_iterator.__iter__" = some Builtin.«dict_keyiterator.__iter__» :=
 entryFor_alias (id':="dict_keyiterator.__iter__") (by kernel_rfl) rfl (by decide +kernel) (by kernel_rfl)
theorem args_si_iter (a:Value):argsOk "set_iterator.__iter__" ⟨[a],[]⟩:=by unfold argsOk;kernel_rfl
structure SetW (w:World) (h:Heap) (a:Addr) (es:Array (Int × Value)) (ep:Nat) (t:SetTable):Prop where
 ho:∃ o,h.get? a=some o/\o.ExactSet/\o.data=.set es ep t
 fits:t.fits es.size=true
 led:t.led=!byTxt w
 pl:1 < es.size->t.plain=false\/(t.plain=true/\L3.Rising t.place)
theorem SetW.keep {w:World} {h h':Heap} {a:Addr} {es:Array (Int × Value)} {ep:Nat} {t:SetTable} (x:SetW w h a es ep t) (k:∀ o,h.get? a=some o->h'.get? a=some o):SetW w h' a es ep t :=
 let ⟨o,ho,r⟩:=x.ho;{ x with ho:=⟨o,k o ho,r⟩ }
theorem SetW.typeIs {w:World} {s:Shared} {a:Addr} {es:Array (Int × Value)} {ep:Nat} {t:SetTable} (x:SetW w s.heap a es ep t):s.TypeIs (.ref a) "set" := let ⟨o,ho,e,_⟩:=x.ho;⟨o,ho,e.1⟩
theorem pick_go {α:Type} (next:Nat->Nat):∀ (n k:Nat) (left:List α) (out:Array α),left.length=n->(pickOrder.go next n k left out).toList.Perm (out.toList++left)
 | 0,k,left,out,h=>by
  have e:left=[]:=List.eq_nil_of_length_eq_zero h
  subst e;simp [pickOrder.go]
 | n+1,k,left,out,h=>by
  have lt:next k % left.length < left.length:=Nat.mod_lt _ (by omega)
  unfold pickOrder.go
  rw [List.getElem?_eq_getElem lt]
  dsimp only
  refine (pick_go next n (k+1) _ _ (by rw [List.length_eraseIdx_of_lt lt];omega)).trans ?_
  rw [Array.toList_push,List.append_assoc]
  exact List.Perm.append_left _ (erase_perm left _ lt)
theorem pick_perm {α:Type} (next:Nat->Nat) (xs:Array α):(pickOrder next xs).toList.Perm xs.toList:=by
 have h:=pick_go next xs.size 0 xs.toList #[] (by simp)
 simpa [pickOrder] using h
def SIter (h:Heap) (I S:Addr) (first:Value) (i n ep:Nat):Prop :=
 ∃ o,h.get? I=some o/\o.cls=.type "set_iterator" /\ o.data=.fields #[first,.int i 0,.ref S,.int n 0,.int ep 0]
theorem SIter.typeIs {s:Shared} {I S:Addr} {f:Value} {i n ep:Nat} (x:SIter s.heap I S f i n ep):s.TypeIs (.ref I) "set_iterator" := let ⟨o,ho,e,_⟩:=x;⟨o,ho,e⟩
theorem SIter.keep {h h':Heap} {I S:Addr} {f:Value} {i n ep:Nat} (x:SIter h I S f i n ep) (k:∀ o,h.get? I=some o->h'.get? I=some o):SIter h' I S f i n ep:=let ⟨o,ho,r⟩:=x;⟨o,k o ho,r⟩
section
variable {prog:Program} {w:World} {A:Around} {E:Value->Shared->Prop} {s:Shared}
theorem any_byText {Q:Bool->Shared->Prop} (h:Q (byTxt w) s):wpAny (model prog w) A setsByText Q E s:=by
 unfold setsByText
 apply wpAny_bind
 apply wpAny_askSetting
 exact wpAny_pure h
theorem si_stop {I:Addr} {o:Obj} {vs:Array Value} {Q:Option Value->Shared->Prop} (hh:A.handled=none) (ho:s.heap.get? I=some o) (hd:o.data=.fields vs) (h2:2 < vs.size)
  (hQ:∀ h',Heap.ExtBut I s.heap h'->Q none { s with heap:=h' }) :
  wpAny (model prog w) A.in1 (setField (.ref I) 2 .none >>= fun _=>newExc (.type "StopIteration") [] >>= fun e=>raiseNew (α:=Fin) e)
  (fun fin s'=>∃ v,fin=Fin.done (Flow.ret v)/\wpAny (model prog w) A (pure (some v)) Q E s')
  (fun e s'=>wpAny (model prog w) A (do
     let __do_lift <- isInstance e (Value.type "StopIteration")
     if __do_lift=true then pure none else throw e) Q E s') s:=by
 refine wpAny_bind (wpAny_setField ho hd h2 ?_)
 show wpAny _ _ (newExc (.type "StopIteration") [] >>= _) _ _ _
 refine wpAny_bind ?_
 simp only [newExc,newTuple]
 refine wpAny_bind (wpAny_newObj_type ?_ (by size_fits))
 refine wpAny_bind (m:=firstArgMember _ _) (wpAny_of_eq (a:=Value.none) (by first | rfl | (simp only [firstArgMember];rfl)) ?_)
 refine wpAny_newObj_type ?_ (by size_fits)
 simp only [raiseNew]
 refine wpAny_bind (wpAny_handled ?_)
 rw [show A.in1.handled=none from hh]
 refine wpAny_bind (wpAny_pure (wpAny_throw ?_))
 refine wpAny_bind (wpAny_isInstance (T:="StopIteration") (b:=true) ⟨_,Heap.get?_push_size _ rfl,rfl⟩ isSubtype_stop ?_)
 exact wpAny_pure (hQ _ (((Heap.SameBut.update ..).extBut.push _).push _))
theorem si_next_int {I S:Addr} {sl i ep:Nat} {es:Array (Int × Value)} {t:SetTable} {Q:Option Value->Shared->Prop} (hh:A.handled=none) (hit:SIter s.heap I S (.int sl 0) i es.size ep) (x:SetW w s.heap S es ep t) (r:Option (Value × Nat))
  (hn:∀ (Q':Option (Value × Nat)->Shared->Prop) E',Q' r s->wpAny (model prog w) A.in1 (setNext S sl i ep) Q' E' s)
  (h1:∀ v nx h',r=some (v,nx)->SIter h' I S (.int nx 0) (i+1) es.size ep->Heap.SameBut I s.heap h'->Q (some v) { s with heap:=h' })
  (h2:r=none->∀ h',Heap.ExtBut I s.heap h'->Q none { s with heap:=h' }):wpAny (model prog w) A (pyNext (.ref I)) Q E s:=by
 obtain ⟨o,ho,hc,hd⟩:=id hit
 obtain ⟨os,hos,hes,hds⟩:=x.ho
 unfold pyNext
 refine wpAny_bind (wpAny_attempt (wpAny_callSpecial?_slot (name:=Str.ofString "__next__") hit.typeIs slot_si_next
  (wpAny_call_entry slot_si_next hit.typeIs entry_si_next ?_ (args_si_next _))))
 unfold Builtin.«set_iterator.__next__»
 refine wpAny_bind (wpAny_pure ?_)
 refine wpAny_bind (wpAny_fieldsOf ho hd ?_)
 dsimp only
 refine wpAny_bind (wpAny_setEntries_of hos hds x.fits ?_)
 rw [if_neg (by simp)]
 simp only [Int.toNat_natCast]
 refine wpAny_bind (hn _ _ ?_)
 cases r with
 | none=>exact si_stop hh ho hd (by simp) (h2 rfl)
 | some p =>
  obtain ⟨v,nx⟩:=p
  dsimp only
  refine wpAny_bind (wpAny_setField ho hd (by simp) ?_)
  have ho1:=Heap.get?_update_self (Obj.mapFields (·.setIfInBounds 0 (rawInt nx))) ho (Obj.isFreed_of_fields (Obj.data_mapFields hd _))
  have hd1:=Obj.data_mapFields hd (·.setIfInBounds 0 (rawInt nx))
  refine wpAny_bind (wpAny_setField (s:={ s with heap:=_ }) ho1 hd1 (by simp) ?_)
  refine wpAny_pure ⟨_,rfl,wpAny_pure (h1 v nx _ rfl ⟨_,Heap.get?_update_self _ ho1 (Obj.isFreed_of_fields (Obj.data_mapFields hd1 _)),((Obj.cls_mapFields ..).trans (Obj.cls_mapFields ..)).trans hc,?_⟩ ((Heap.SameBut.update ..).trans (Heap.SameBut.update ..)))⟩
  rw [Obj.data_mapFields hd1];simp [rawInt]
theorem si_next_ref {I S T:Addr} {i ep:Nat} {es:Array (Int × Value)} {t:SetTable} {ord:List Nat} {Q:Option Value->Shared->Prop} (hh:A.handled=none) (hit:SIter s.heap I S (.ref T) i es.size ep) (x:SetW w s.heap S es ep t)
  (ht:s.heap.get? T=some { cls:=.type "tuple",data:=.seq (ord.map fun (k:Nat)=>rawInt k).toArray }) (le:∀ k∈ord,k < es.size)
  (h1:∀ k v h',ord[i]?=some k->es[k]?.map (·.2)=some v->SIter h' I S (.ref T) (i+1) es.size ep->Heap.SameBut I s.heap h'->Q (some v) { s with heap:=h' })
  (h2:ord[i]?=none->∀ h',Heap.ExtBut I s.heap h'->Q none { s with heap:=h' }):wpAny (model prog w) A (pyNext (.ref I)) Q E s:=by
 obtain ⟨o,ho,hc,hd⟩:=id hit
 obtain ⟨os,hos,hes,hds⟩:=x.ho
 unfold pyNext
 refine wpAny_bind (wpAny_attempt (wpAny_callSpecial?_slot (name:=Str.ofString "__next__") hit.typeIs slot_si_next
  (wpAny_call_entry slot_si_next hit.typeIs entry_si_next ?_ (args_si_next _))))
 unfold Builtin.«set_iterator.__next__»
 refine wpAny_bind (wpAny_pure ?_)
 refine wpAny_bind (wpAny_fieldsOf ho hd ?_)
 dsimp only
 refine wpAny_bind (wpAny_setEntries_of hos hds x.fits ?_)
 rw [if_neg (by simp)]
 simp only [Int.toNat_natCast]
 have nx:(List.map (fun (k:Nat)=>rawInt k) ord).toArray[i]?=Option.map (fun k:Nat=>rawInt (k:Int)) ord[i]?:=by rw [List.getElem?_toArray,List.getElem?_map]
 refine wpAny_bind ?_
 unfold seqItems?
 refine wpAny_bind (wpAny_load ht (wpAny_pure ?_))
 dsimp only
 rw [nx]
 cases hk:ord[i]? with
 | none =>
  rw [Option.map_none]
  dsimp only
  refine wpAny_bind (wpAny_setField ho hd (by simp) ?_)
  have ho1:=Heap.get?_update_self (Obj.mapFields (·.setIfInBounds 0 (rawInt 0))) ho (Obj.isFreed_of_fields (Obj.data_mapFields hd _))
  have hd1:=Obj.data_mapFields hd (·.setIfInBounds 0 (rawInt 0))
  exact si_stop (s:={ s with heap:=_ }) hh ho1 hd1 (by simp) fun h' e=>h2 hk h' fun b o' hb q=>e b o' hb ((Heap.SameBut.update ..).extBut b o' hb q)
 | some k =>
  have lt:=le k (List.mem_of_getElem? hk)
  dsimp only [Option.map_some,rawInt]
  refine wpAny_bind ?_
  unfold setNextDrawn
  refine wpAny_bind (wpAny_setState_of hos hds x.fits ?_)
  dsimp only
  rw [if_neg (by simp),Int.toNat_natCast,Array.getElem?_eq_getElem lt]
  refine wpAny_pure ?_
  refine wpAny_bind (wpAny_setField ho hd (by simp) ?_)
  refine wpAny_pure ⟨_,rfl,wpAny_pure (h1 k _ _ hk (by rw [Array.getElem?_eq_getElem lt];rfl) ⟨_,Heap.get?_update_self _ ho (Obj.isFreed_of_fields (Obj.data_mapFields hd _)),(Obj.cls_mapFields ..).trans hc,?_⟩ (Heap.SameBut.update ..))⟩
  rw [Obj.data_mapFields hd];simp [rawInt]
theorem next_text {S:Addr} {sl i ep:Nat} {es:Array (Int × Value)} {t:SetTable} (x:SetW w s.heap S es ep t) (hb:byTxt w=true) (Q':Option (Value × Nat)->Shared->Prop) (E':Value->Shared->Prop)
  (h:Q' (((pickOrder (w.params.setOrder S ep) es)[i]?).map fun e=>(e.2,sl)) s):wpAny (model prog w) A (setNext S sl i ep) Q' E' s:=by
 obtain ⟨os,hos,hes,hds⟩:=x.ho
 unfold setNext
 refine wpAny_bind (wpAny_setState_of hos hds x.fits ?_)
 dsimp only
 refine wpAny_bind (any_byText ?_)
 rw [if_pos hb,if_neg (by simp)]
 refine wpAny_bind ?_
 unfold setWalk
 refine wpAny_bind (wpAny_setState_of hos hds x.fits ?_)
 dsimp only
 refine wpAny_bind (any_byText ?_)
 rw [if_pos hb]
 refine wpAny_bind (wpAny_askSetting ?_)
 exact wpAny_pure (wpAny_pure h)
theorem next_few {S:Addr} {sl i ep:Nat} {es:Array (Int × Value)} {t:SetTable} (x:SetW w s.heap S es ep t) (hb:byTxt w=false) (few:¬ 1 < es.size\/t.plain=true) (Q':Option (Value × Nat)->Shared->Prop) (E':Value->Shared->Prop)
  (h:Q' (match es[SetTable.below t.place sl]?,t.place[SetTable.below t.place sl]? with | some (_,x),some j=>some (x,j+1) | _,_=>none) s):wpAny (model prog w) A (setNext S sl i ep) Q' E' s:=by
 obtain ⟨os,hos,hes,hds⟩:=x.ho
 have ld:t.led=true:=by rw [x.led,hb];rfl
 unfold setNext
 refine wpAny_bind (wpAny_setState_of hos hds x.fits ?_)
 dsimp only
 refine wpAny_bind (any_byText ?_)
 rw [hb,if_neg Bool.false_ne_true]
 rw [if_neg (by show ¬ ((!t.plain && decide (es.size > 1))=true);rcases few with few | few<;>simp [few])]
 refine wpAny_bind ?_
 show wpAny _ _ (if (!t.led && !es.isEmpty)=true then (unsupported "set:maker-not-led" : Sem Unit) else pure ()) _ _ _
 rw [if_neg (by rw [ld];simp)]
 exact wpAny_pure (wpAny_pure h)
theorem si_self {I S:Addr} {f:Value} {i n ep:Nat} {Q:Value->Shared->Prop} (hit:SIter s.heap I S f i n ep) (h:Q (.ref I) s):wpAny (model prog w) A (pyIter (.ref I)) Q E s:=by
 refine wpAny_pyIter_slot hit.typeIs slot_si_iter (wpAny_call_entry slot_si_iter hit.typeIs entry_si_iter ?_ (args_si_iter _))
 show wpAny _ _ (ret (.ref I)) _ _ s
 exact wpAny_pure ⟨_,rfl,"set_iterator",_,hit.typeIs,slot_si_next.lookup,h⟩
theorem walk_int {S I T:Addr} {es:Array (Int × Value)} {ep:Nat} {t:SetTable} {ys:List Value} {sl:Nat->Nat} (hIS:S≠I) (len:ys.length=es.size)
  (nx:∀ (A:Around) (s:Shared) (i:Nat) (Q':Option (Value × Nat)->Shared->Prop) (E':Value->Shared->Prop),i<=es.size->SetW w s.heap S es ep t->Q' ((ys[i]?).map fun v=>(v,sl (i+1))) s->wpAny (model prog w) A (setNext S (sl i) i ep) Q' E' s)
  (A:Around) (hh:A.handled=none):WalksS prog w A I [I,S,T] [I] (fun a b=>b=a) es.size (fun i v=>ys[i]?=some v) (fun i s=>SIter s.heap I S (.int (sl i) 0) i es.size ep/\SetW w s.heap S es ep t) where
 sub:=fun b hb=>by simp at hb;simp [hb]
 grefl:=fun _=>rfl
 gtrans:=fun _ _ _ h1 h2=>h2.trans h1
 frame:=fun i s h' tk st _ hk=>⟨st.1.keep fun o e=>hk I (by simp) o e,st.2.keep fun o e=>hk S (by simp) o e⟩
 item:=fun i s Q E hi st hQ=>by
  have lt:i < ys.length:=by omega
  have e:ys[i]?=some ys[i]:=List.getElem?_eq_getElem lt
  refine si_next_int hh st.1 st.2 (some (ys[i],sl (i+1))) (fun Q' E' q=>nx _ s i Q' E' (by omega) st.2 (by rw [e];exact q)) (fun v n h' r hit' hs=>?_) fun r=>nomatch r
  cases r
  exact hQ _ _ e ⟨hit',st.2.keep fun o q=>hs.extBut S o hIS q⟩ ⟨fun b o hb q=>hs.extBut b o (fun z=>hb (by simp [z])) q,rfl,rfl,rfl,Nat.le_refl _⟩
 done:=fun s Q E st hQ=>by
  have e:ys[es.size]?=none:=List.getElem?_eq_none (by omega)
  refine si_next_int hh st.1 st.2 none (fun Q' E' q=>nx _ s _ Q' E' (Nat.le_refl _) st.2 (by rw [e];exact q)) (fun v n h' r _ _=>nomatch r) fun _ h' he=>?_
  exact hQ _ ⟨fun b o hb q=>he b o (fun z=>hb (by simp [z])) q,rfl,rfl,rfl,Nat.le_refl _⟩
 self:=fun i s Q E st hQ=>si_self st.1 hQ
theorem walk_ref {S I T:Addr} {es:Array (Int × Value)} {ep:Nat} {t:SetTable} {ord:List Nat} (hIS:S≠I) (hIT:T≠I) (len:ord.length=es.size) (le:∀ k∈ord,k < es.size)
  (A:Around) (hh:A.handled=none):WalksS prog w A I [I,S,T] [I] (fun a b=>b=a) es.size (fun i v=>(ord.map fun k=>(es[k]?.map (·.2)).getD .none)[i]?=some v)
   (fun i s=>SIter s.heap I S (.ref T) i es.size ep/\SetW w s.heap S es ep t/\s.heap.get? T=some { cls:=.type "tuple",data:=.seq (ord.map fun (k:Nat)=>rawInt k).toArray }) where
 sub:=fun b hb=>by simp at hb;simp [hb]
 grefl:=fun _=>rfl
 gtrans:=fun _ _ _ h1 h2=>h2.trans h1
 frame:=fun i s h' tk st _ hk=>⟨st.1.keep fun o e=>hk I (by simp) o e,st.2.1.keep fun o e=>hk S (by simp) o e,hk T (by simp) _ st.2.2⟩
 item:=fun i s Q E hi st hQ=>by
  refine si_next_ref hh st.1 st.2.1 st.2.2 le (fun k v h' hk hv hit' hs=>?_) fun r=>?_
  ·refine hQ _ _ (by rw [List.getElem?_map,hk];simp [hv]) ⟨hit',st.2.1.keep fun o q=>hs.extBut S o hIS q,hs.extBut T _ hIT st.2.2⟩ ⟨fun b o hb q=>hs.extBut b o (fun z=>hb (by simp [z])) q,rfl,rfl,rfl,Nat.le_refl _⟩
  ·exact absurd (List.getElem?_eq_none_iff.mp r) (by omega)
 done:=fun s Q E st hQ=>by
  refine si_next_ref hh st.1 st.2.1 st.2.2 le (fun k v h' hk _ _ _=>?_) fun _ h' he=>?_
  ·exact absurd hk (by rw [List.getElem?_eq_none (by omega)];simp)
  ·exact hQ _ ⟨fun b o hb q=>he b o (fun z=>hb (by simp [z])) q,rfl,rfl,rfl,Nat.le_refl _⟩
 self:=fun i s Q E st hQ=>si_self st.1 hQ
theorem below_one_0 (p:Nat):SetTable.below #[p] 0=0:=by simp [SetTable.below,SetTable.below.go]
theorem below_one_1 (p:Nat):SetTable.below #[p] (p+1)=1:=by simp [SetTable.below,SetTable.below.go]
theorem arr_one {α:Type} (xs:Array α) (h:xs.size=1):∃ e,xs=#[e]:=by
 obtain ⟨l⟩:=xs
 match l,h with
 | [e],_=>exact ⟨e,rfl⟩
theorem set_iter {S:Addr} {es:Array (Int × Value)} {ep:Nat} {t:SetTable} {Q:Value->Shared->Prop} (x:SetW w s.heap S es ep t) (small:es.size<=sizeLine)
  (h:∀ (I T:Addr) (ys:List Value) (St:Nat->Shared->Prop) (h':Heap) (dr:Drawn),ys.Perm (es.toList.map (·.2))->@LE.le Nat _ s.heap.objs.size I->(T=S\/@LE.le Nat _ s.heap.objs.size T)->(∀ b o,s.heap.get? b=some o->h'.get? b=some o) ->
   @LT.lt Nat _ I h'.objs.size->@LT.lt Nat _ T h'.objs.size ->
   (∀ A:Around,A.handled=none->WalksS prog w A I [I,S,T] [I] (fun a b=>b=a) es.size (fun i v=>ys[i]?=some v) St)->(∀ i s',St i s'->s'.TypeIs (.ref I) "set_iterator")->St 0 { s with heap:=h',drawn:=dr }->Q (.ref I) { s with heap:=h',drawn:=dr }) :
  wpAny (model prog w) A (pyIter (.ref S)) Q E s:=by
 obtain ⟨os,hos,hes,hds⟩:=x.ho
 have ltS:@LT.lt Nat _ S s.heap.objs.size:=Heap.lt_size hos
 refine wpAny_pyIter_slot x.typeIs PySem.F.slot_set_iter (wpAny_call_entry PySem.F.slot_set_iter x.typeIs entry_set_iter ?_ (PySem.F.args_set_iter_1 _))
 unfold Builtin.«frozenset.__iter__» Builtin.Frozenset.slot0 slotArgs
 simp only [List.isEmpty_nil,Bool.not_true,Bool.false_eq_true,↓reduceIte,bind_assoc,List.length_nil,bne_self_eq_false]
 unfold Builtin.Frozenset.addrOf Builtin.Frozenset.sizeOf
 refine wpAny_bind (wpAny_pure ?_)
 dsimp only
 refine wpAny_bind (wpAny_pure ?_)
 refine wpAny_bind (wpAny_bind (wpAny_setEntries_of hos hds x.fits (wpAny_pure ?_)))
 refine wpAny_bind ?_
 unfold setDrawn
 refine wpAny_bind (wpAny_setState_of hos hds x.fits ?_)
 dsimp only
 refine wpAny_bind (any_byText ?_)
 refine wpAny_pure ?_
 show wpAny _ _ (if (!byTxt w && (!t.plain && decide (es.size > 1)))=true then _ else _) _ _ _
 have plainRoad:∀ (ys:List Value) (sl:Nat->Nat),sl 0=0->ys.Perm (es.toList.map (·.2))->(∀ (A:Around) (s:Shared) (i:Nat) (Q':Option (Value × Nat)->Shared->Prop) (E':Value->Shared->Prop),i<=es.size->SetW w s.heap S es ep t->Q' ((ys[i]?).map fun v=>(v,sl (i+1))) s->wpAny (model prog w) A (setNext S (sl i) i ep) Q' E' s) ->
   wpAny (model prog w) A.in1 (do
     let first <- pure (rawInt 0)
     let __do_lift <- setEpoch S
     let __do_lift <- newFields "set_iterator" [first,rawInt 0,Value.ref S,rawInt es.size,rawInt __do_lift]
     ret __do_lift) (fun fin s'=>∃ v,fin=Fin.done (Flow.ret v)/\∃ T' r,s'.TypeIs v T'/\typeLookup (Value.type T') (Str.ofString "__next__")=pure (some r)/\Q v s') E s:=fun ys sl s0 hp nx=>by
  have len:ys.length=es.size:=by rw [hp.length_eq];simp
  refine wpAny_bind (wpAny_pure (wpAny_bind (wpAny_setEpoch_of hos hds x.fits ?_)))
  refine wpAny_bind (wpAny_newObj_type (wpAny_pure ⟨_,rfl,"set_iterator",_,⟨_,Heap.get?_push_size _ rfl,rfl⟩,slot_si_next.lookup,?_⟩))
  have sz:(s.heap.push { cls:=.type "set_iterator",data:=.fields #[rawInt 0,rawInt 0,Value.ref S,rawInt es.size,rawInt ep] }).objs.size=s.heap.objs.size+1:=Heap.size_push ..
  refine h s.heap.objs.size S ys _ _ s.drawn hp (Nat.le_refl _) (.inl rfl) (fun b o e=>Heap.get?_push_of_some _ e) (by rw [sz];exact Nat.lt_succ_self _) (by rw [sz];exact Nat.lt_succ_of_lt ltS)
   (fun A hh=>walk_int (t:=t) (ep:=ep) (sl:=sl) (Nat.ne_of_lt ltS) len nx A hh) (fun i s' st=>st.1.typeIs) ⟨⟨_,Heap.get?_push_size _ rfl,rfl,by rw [s0];simp [rawInt]⟩,x.keep fun o e=>Heap.get?_push_of_some _ e⟩
 cases hb:byTxt w with
 | true =>
  rw [if_neg (by simp)]
  refine plainRoad ((pickOrder (w.params.setOrder S ep) es).toList.map (·.2)) (fun _=>0) rfl ((pick_perm _ es).map _) fun A s i Q' E' _ x' q=>next_text x' hb Q' E' ?_
  rw [List.getElem?_map,Array.getElem?_toList,Option.map_map] at q
  exact q
 | false =>
  have fz:t.place.size=es.size:=by
   have:=x.fits
   unfold SetTable.fits at this
   simp at this;exact this.1
  by_cases many:1 < es.size
  ·rcases x.pl many with np | ⟨yp,ri⟩
   rotate_left
   ·rw [if_neg (by rw [yp];simp)]
    refine plainRoad (es.toList.map (·.2)) (fun i=>if i=0 then 0 else t.place.getD (i - 1) 0+1) rfl (.refl _) fun A s i Q' E' hi x' q=>next_few x' hb (.inr yp) Q' E' ?_
    have bl:SetTable.below t.place (if i=0 then 0 else t.place.getD (i - 1) 0+1)=i:=L3.below_step ri (by rw [fz];exact hi)
    rw [bl]
    have e1:(es.toList.map (·.2))[i]?=(es[i]?).map (·.2):=by rw [List.getElem?_map,Array.getElem?_toList]
    rw [e1] at q
    by_cases c:i < es.size
    ·rw [Array.getElem?_eq_getElem c] at q ⊢
     rw [Array.getElem?_eq_getElem (show i < t.place.size by omega)]
     have e2:t.place.getD (i+1 - 1) 0=t.place[i]'(by omega):=by simp [fz,c]
     simp only [Nat.add_one_ne_zero,if_false] at q
     rw [e2] at q
     exact q
    ·rw [Array.getElem?_eq_none (by omega)] at q ⊢
     exact q
   rw [if_pos (by rw [np];simp [many])]
   refine wpAny_bind (draw_order es.size _ _ _ (by simp) fun ord dr hp=>?_)
   have lo:ord.length=es.size:=by rw [hp.length_eq];simp
   have le:∀ k∈ord,k < es.size:=fun k hk=>by simpa using hp.mem_iff.mp hk
   refine wpAny_bind (wpAny_newTuple ?_ (by rw [List.length_map,lo];exact small))
   generalize hh1:s.heap.push { cls:=.type "tuple",data:=.seq (ord.map fun (k:Nat)=>rawInt k).toArray }=h1
   have kp:∀ b o,s.heap.get? b=some o->h1.get? b=some o:=fun b o e=>by rw [<- hh1];exact Heap.get?_push_of_some _ e
   have sz:h1.objs.size=s.heap.objs.size+1:=by rw [<- hh1];exact Heap.size_push ..
   have new:h1.get? s.heap.objs.size=some { cls:=.type "tuple",data:=.seq (ord.map fun (k:Nat)=>rawInt k).toArray }:=by rw [<- hh1];exact Heap.get?_push_size _ rfl
   refine wpAny_bind (wpAny_setEpoch_of (s:={ s with heap:=h1,drawn:=dr }) (kp _ _ hos) hds x.fits ?_)
   refine wpAny_bind (wpAny_newObj_type (wpAny_pure ⟨_,rfl,"set_iterator",_,⟨_,Heap.get?_push_size _ rfl,rfl⟩,slot_si_next.lookup,?_⟩))
   have sz2:(h1.push { cls:=.type "set_iterator",data:=.fields #[Value.ref s.heap.objs.size,rawInt 0,Value.ref S,rawInt es.size,rawInt ep] }).objs.size=h1.objs.size+1:=Heap.size_push ..
   refine h h1.objs.size s.heap.objs.size _ _ _ dr ?_ (by rw [sz];exact Nat.le_succ _) (.inr (Nat.le_refl _)) (fun b o e=>Heap.get?_push_of_some _ (kp b o e)) (by rw [sz2];exact Nat.lt_succ_self _) (by rw [sz2,sz];exact Nat.lt_succ_of_lt (Nat.lt_succ_self _))
    (fun A hh=>walk_ref (t:=t) (ep:=ep) (ord:=ord) (by rw [sz];exact Nat.ne_of_lt (Nat.lt_succ_of_lt ltS)) (by rw [sz];exact Nat.ne_of_lt (Nat.lt_succ_self _)) lo le A hh) (fun i s' st=>st.1.typeIs) ⟨⟨_,Heap.get?_push_size _ rfl,rfl,by simp [rawInt]⟩,x.keep fun o e=>Heap.get?_push_of_some _ (kp _ _ e),Heap.get?_push_of_some _ new⟩
   refine (hp.map _).trans (.of_eq ?_)
   refine List.ext_getElem? fun j=>?_
   rw [List.getElem?_map,List.getElem?_map]
   by_cases hj:j < es.size
   ·have e1:(List.range es.size)[j]?=some j:=List.getElem?_range hj
    have e2:es.toList[j]?=some es[j]:=by simp [hj]
    rw [e1,e2];simp [hj]
   ·have e1:(List.range es.size)[j]?=none:=List.getElem?_eq_none (by simp;omega)
    have e2:es.toList[j]?=none:=List.getElem?_eq_none (by simp;omega)
    rw [e1,e2];rfl
  ·rw [if_neg (by simp [many])]
   refine plainRoad (es.toList.map (·.2)) (fun i=>if i=0 then 0 else t.place.getD 0 0+1) rfl (.refl _) fun A s i Q' E' hi x' q=>next_few x' hb (.inl many) Q' E' ?_
   have e0:es.size=0\/es.size=1:=by omega
   rcases e0 with e0 | e0
   ·have e1:i=0:=by omega
    subst e1
    have ee:es=#[]:=Array.eq_empty_of_size_eq_zero e0
    subst ee
    simpa using q
   ·obtain ⟨e,rfl⟩:∃ e,es=#[e]:=arr_one es e0
    obtain ⟨p,hp⟩:∃ p,t.place=#[p]:=arr_one t.place (by rw [fz];rfl)
    rw [hp]
    have hi':i=0\/i=1:=by simp at hi;omega
    rcases hi' with rfl | rfl
    ·rw [if_pos rfl,below_one_0]
     simpa [hp] using q
    ·rw [if_neg (by decide)]
     have:SetTable.below #[p] ((#[p]:Array Nat).getD 0 0+1)=1:=below_one_1 p
     rw [this]
     simpa using q
theorem hint_set {r:Addr} {Q:Bool->Shared->Prop} (hT:s.TypeIs (.ref r) "set") (h:Q false s):wpAny (model prog w) A (Builtin.List.listLengthHint (.ref r)) Q E s:=by
 unfold Builtin.List.listLengthHint
 refine wpAny_bind (wpAny_specialOf hT PySem.F.slot_set_len.lookup ?_)
 generalize hid:("set.__len__" : String)=id0
 wp_delta
 rw [show splitId id0=some ("set","__len__") from by subst hid;decide +kernel]
 subst hid
 refine wpAny_bind (wpAny_isInstance (T:="set") (b:=true) hT (by rw [isSubtype_type];kernel_rfl) ?_)
 refine wpAny_ite_split (fun hab=>absurd hab (by decide)) (fun _=>?_)
 refine wpAny_ite_split (fun _=>?_) (fun hab=>absurd (by decide +kernel) hab)
 refine wpAny_bind (wpAny_typeOf hT ?_)
 exact wpAny_pure h
theorem extend_set {S L:Addr} {es:Array (Int × Value)} {ep:Nat} {t:SetTable} {R:Result->Shared->Prop} (x:SetW w s.heap S es ep t) (small:es.size<=sizeLine) (hh:A.handled=none) (hSL:L≠S) (res:Value) (c₀:Nat) (hL:s.heap.get? L=some { cls:=.type "list",data:=.seq #[] c₀ })
  (hR:∀ h' tk dr acc' c',(∀ b o,b≠L->s.heap.get? b=some o->h'.get? b=some o)->h'.get? L=some { cls:=.type "list",dict:=none,data:=.seq acc' c',slots:=#[] }->acc'.toList.Perm (es.toList.map (·.2))->R (.ok (.ret res)) { s with heap:=h',toks:=tk,drawn:=dr }) :
  wpAny (model prog w) A.in1 (Builtin.List.listExtendWith (.ref L) (.ref S) res)
   (fun fin s'=>match fin with | .done f=>R (.ok f) s' | .again c'=>c'.quiet=true/\codeAny (model prog w) A c' R s') (fun e s'=>R (.error e) s') s:=by
 have ltL:@LT.lt Nat _ L s.heap.objs.size:=Heap.lt_size hL
 unfold Builtin.List.listExtendWith
 refine wpAny_bind (wpAny_typeOf (T:="set") x.typeIs ?_)
 have h1:Builtin.List.listSameRef (.ref L) (.ref S)=false:=by simp [Builtin.List.listSameRef,hSL]
 have n1:(Value.type "set" == Value.type "list")=false:=by decide
 have n2:(Value.type "set" == Value.type "tuple")=false:=by decide
 simp only [h1,n1,n2,Bool.or_false,Bool.false_eq_true,if_false]
 refine wpAny_bind (set_iter x small fun I T ys St h' dr hp hI hT kp ltI ltT W ty st=>?_)
 have hLf:L ∉ [I,S,T]:=by
  simp only [List.mem_cons,List.not_mem_nil,or_false,not_or]
  refine ⟨Nat.ne_of_lt (Nat.lt_of_lt_of_le ltL hI),hSL,?_⟩
  rcases hT with hT | hT
  ·rw [hT];exact hSL
  ·exact Nat.ne_of_lt (Nat.lt_of_lt_of_le ltL hT)
 have W1:=W A.in1 (by simpa using hh)
 have len:ys.length=es.size:=by rw [hp.length_eq];simp
 have key:∀ (h:Heap) (c₁ tk:Nat),St 0 { s with heap:=h,toks:=tk,drawn:=dr }->(∀ b o,b≠L->s.heap.get? b=some o->h.get? b=some o) ->
   h.get? L=some { cls:=.type "list",data:=.seq #[] c₁ }->codeAny (model prog w) A (.builtin "list.extend.loop" ⟨[.ref L,.ref I,res],[]⟩) R { s with heap:=h,toks:=tk,drawn:=dr }:=by
  intro h c₁ tk hst hk hL₁
  refine codeAny_extend_loopS W1 small L hLf res es.size 0 _ #[] c₁ rfl (Nat.zero_le _) hst hL₁ (ItemsOf.nil _) fun s' acc' c' hm hL' hacc=>?_
  obtain ⟨h2,g2,d2,t2,o2⟩:=s'
  cases (show g2=s.gens from hm.gens)
  cases (show d2=dr from hm.drawn)
  cases (show o2=s.os from hm.os)
  refine hR h2 t2 dr acc' c' (fun b o hb e=>hm.heap b o (fun hmem=>?_) (hk b o hb e)) hL' ?_
  ·rcases List.mem_cons.mp hmem with e' | hmem
   ·exact hb e'
   ·exact absurd (Heap.lt_size e) (by rw [List.mem_singleton.mp hmem];exact Nat.not_lt.mpr hI)
  ·have e:acc'.toList=ys:=by
    refine List.ext_getElem? fun j=>?_
    by_cases hj:j < es.size
    ·have l1:j < acc'.size:=by rw [hacc.1];exact hj
     have e1:acc'[j]?=some acc'[j]:=by simp [l1]
     rw [hacc.2 j _ e1,Array.getElem?_toList];exact e1
    ·rw [List.getElem?_eq_none (by rw [Array.length_toList,hacc.1];omega),List.getElem?_eq_none (by omega)]
   rw [e];exact hp
 have hL₁:=kp _ _ hL
 have x1:=x.keep fun o e=>kp _ _ e
 refine wpAny_bind (wpAny_holding (hint_set (s:={ s with heap:=h',drawn:=dr }) x1.typeIs ?_))
 refine wpAny_ite_split (fun _=>?_) (fun _=>wpAny_pure ⟨plainId_quiet PySem.F.plain_extend_loop _,key _ c₀ _ st (fun b o _ e=>kp b o e) hL₁⟩)
 refine wpAny_bind (wpAny_rule ?_)
 refine wpAny_bind ?_
 show wpAny _ _ (updateSeq L (·.push .none) >>= fun _=>updateSeq L (·.pop)) _ _ _
 refine wpAny_bind (wpAny_updateSeq hL₁ rfl ?_)
 have hL₂:=Heap.get?_update_self (Obj.mapSeq (·.push Value.none)) hL₁ rfl
 refine wpAny_updateSeq (hz:=by seq_fits) hL₂ rfl ?_
 have hL₃:=Heap.get?_update_self (Obj.mapSeq (·.pop)) hL₂ rfl
 refine wpAny_pure ⟨plainId_quiet PySem.F.plain_extend_loop _,key _ _ _ ?_ (fun b o hb e=>?_) hL₃⟩
 ·refine W1.frame 0 _ _ _ st (Nat.le_refl _) fun b hb o e=>?_
  have hbL:b≠L:=fun h=>hLf (h ▸ hb)
  exact (Heap.get?_update_other _ _ (Ne.symm hbL)).trans ((Heap.get?_update_other _ _ (Ne.symm hbL)).trans e)
 ·exact (Heap.get?_update_other _ _ (Ne.symm hb)).trans ((Heap.get?_update_other _ _ (Ne.symm hb)).trans (kp _ _ e))
theorem collect_set {S:Addr} {es:Array (Int × Value)} {ep:Nat} {t:SetTable} {R:List Value->Shared->Prop} (x:SetW w s.heap S es ep t) (small:es.size<=sizeLine) (hh:A.handled=none)
  (h:∀ (h':Heap) (tk:Nat) (dr:Drawn) (acc:List Value),(∀ b o,s.heap.get? b=some o->h'.get? b=some o)->acc.Perm (es.toList.map (·.2))->R acc { s with heap:=h',toks:=tk,drawn:=dr }) :
  wpAny (model prog w) A (collect (.ref S)) R E s:=by
 obtain ⟨os,hos,_⟩:=x.ho
 have ltS:@LT.lt Nat _ S s.heap.objs.size:=Heap.lt_size hos
 unfold collect
 refine wpAny_bind (wpAny_runValue (codeAny_builtin PySem.F.entry_proto_collect ?_))
 rw [Around.under_plainId PySem.F.plain_proto_collect _]
 show wpAny _ A.in1 (newList [] >>= fun l=>again (.builtin "list.__iadd__" ⟨[l,.ref S],[]⟩)) _ _ s
 refine wpAny_bind (wpAny_newObj_type ?_)
 refine wpAny_pure ⟨plainId_quiet PySem.F.plain_list_iadd _,codeAny_builtin PySem.F.entry_list_iadd ?_⟩
 rw [Around.under_plainId PySem.F.plain_list_iadd _]
 have hL:(s.heap.push { cls:=.type "list",data:=.seq ([]:List Value).toArray }).get? s.heap.objs.size=some { cls:=.type "list",data:=.seq #[] }:=Heap.get?_push_size _ rfl
 show wpAny _ A.in1 (Builtin.List.listExtendWith (.ref s.heap.objs.size) (.ref S) (.ref s.heap.objs.size)) _ _ _
 have key:=extend_set (prog:=prog) (w:=w) (A:=A) (s:={ s with heap:=s.heap.push { cls:=.type "list",data:=.seq ([]:List Value).toArray } })
  (R:=fun (q:Result) (s':Shared)=>∃ (h':Heap) (tk:Nat) (dr:Drawn) (acc':Array Value) (c':Nat),q=.ok (.ret (.ref s.heap.objs.size))/\s'={ s with heap:=h',toks:=tk,drawn:=dr } /\
   (∀ b o,s.heap.get? b=some o->h'.get? b=some o)/\h'.get? s.heap.objs.size=some { cls:=.type "list",dict:=none,data:=.seq acc' c',slots:=#[] }/\acc'.toList.Perm (es.toList.map (·.2)))
  (x.keep fun o e=>Heap.get?_push_of_some _ e) small hh (Nat.ne_of_gt ltS) (.ref s.heap.objs.size) 0 hL
  (fun h' tk dr acc' c' hk hL' hacc=>⟨h',tk,dr,acc',c',rfl,rfl,fun b o e=>hk b o (Nat.ne_of_lt (Heap.lt_size e)) (Heap.get?_push_of_some _ e),hL',hacc⟩)
 refine wpAny_mono key (fun fin s' x=>?_) fun e s' x=>?_
 ·cases fin with
  | done f =>
   obtain ⟨h',tk,dr,acc',c',e,rfl,hk,hL',hacc⟩:=x
   cases e
   show wpAny _ A (load s.heap.objs.size >>= _) _ _ _
   refine wpAny_bind (wpAny_load hL' ?_)
   exact wpAny_pure (h h' tk dr acc'.toList hk hacc)
  | again c₁ =>
   refine ⟨x.1,codeAny_mono x.2 fun q s₂ y=>?_⟩
   obtain ⟨h',tk,dr,acc',c',rfl,rfl,hk,hL',hacc⟩:=y
   show wpAny _ A (load s.heap.objs.size >>= _) _ _ _
   refine wpAny_bind (wpAny_load hL' ?_)
   exact wpAny_pure (h h' tk dr acc'.toList hk hacc)
 ·obtain ⟨_,_,_,_,_,e',_⟩:=x
  cases e'
end
section
variable {prog:Program} {w:World}
end
theorem Inv.drawn {X:Cx} {pins:List (Addr × Obj)} {σ:St} {H:Hp} {s:Shared} {dr:Drawn} (I:Inv X pins σ H s):Inv X pins σ H { s with drawn:=dr } :=
 ⟨I.ok,I.os,I.bare,I.base,I.loc,I.cell,I.free,I.freeC,I.pin,I.hok,I.len⟩
section
variable {X:Cx}
end
def Ite (K:PySem.W.Frag) (a:Addr):It :=
 ⟨fun i H=>∃ xs x,SqL K H a xs/\xs[i]?=some x,fun i H x H'=>∃ q y,H q=none/\(∀ xs,SqL K H a xs->xs[i]?=some y)/\x=.ref q/\H'=upd H q (.tup [.int i,y]),fun i H=>∃ xs,SqL K H a xs/\xs.length<=i⟩
theorem turn_enum {P:Program} {w:World} {K:PySem.W.Frag} {elts:List Expr} {x1} {tp:Pos} (a e it:Addr) (ne:e≠it):Turn P w K (.Tuple elts x1 tp) (Ite K a) [e,it] e (fun i h=>(∃ old,IsEnum h e it i old)/\h.IsListIter it a i) where
 mem:=by simp
 obj:=fun i h st b hb=>by
  obtain ⟨⟨old,he⟩,o,ho,c,d⟩:=st
  rcases List.mem_cons.mp hb with q | q
  ·subst q;exact ⟨_,he,fun v z=>nomatch z⟩
  ·have q':b=it:=by simpa using q
   subst q';exact ⟨o,ho,fun v z=>by rw [d] at z;cases z⟩
 keep:=fun i h h' st k=>⟨let ⟨old,he⟩:=st.1;⟨old,k e (by simp) _ he⟩,st.2.at fun o q=>k it (by simp) o q⟩
 item:=by
  intro X hP hw hK hc i pins s σ H E I hf st hg
  subst hP hw hK
  obtain ⟨⟨old,he⟩,hit⟩:=st
  obtain ⟨xs,x,hq,hx⟩:=hg
  obtain ⟨its,rv,p,hz⟩:=I.list hq
  obtain ⟨u,hu,ru⟩:=rv.get hx
  have f1:=hf e (by simp)
  have f2:=hf it (by simp)
  refine wpAny_pyNext_enum_item he hit p.isList (x:=u) (by simpa using hu) ne fun h1 o1 i1 t1 z1 k1=>⟨_,rfl,?_⟩
  refine wpAny_letOwnedTupleGo_enum o1 fun h2 e2 sb=>?_
  have nq:∀ {b:Addr} {o:Obj},s.heap.get? b=some o->b≠s.heap.objs.size:=fun {b o} q=>Nat.ne_of_lt (Heap.lt_size q)
  have ltE:@LT.lt Nat _ e s.heap.objs.size:=Heap.lt_size he
  have ltI:@LT.lt Nat _ it s.heap.objs.size:=let ⟨o,q,_⟩:=hit;Heap.lt_size q
  have qe:s.heap.objs.size≠e:=fun z=>by have z':@Eq Nat s.heap.objs.size e:=z;omega
  have hn:H s.heap.objs.size=none:=I.hok.fresh (Nat.le_refl _)
  have kk:∀ b o,b≠e->b≠it->s.heap.get? b=some o->h2.get? b=some o:=fun b o n1 n2 q=>(sb.2 b n1).trans (k1 b o n1 n2 q)
  have tq:h2.get? s.heap.objs.size=some { cls:=.type "tuple",data:=.seq #[.int i s.toks,u] }:=(sb.2 _ qe).trans t1
  have hH:∀ b o,H b=some o->b≠e/\b≠it/\b≠s.heap.objs.size:=fun b o q=>⟨ne_of_none q f1.1,ne_of_none q f2.1,ne_of_none q hn⟩
  refine ⟨.ref s.heap.objs.size,upd H s.heap.objs.size (.tup [.int i,x]),?_,rfl,⟨_,x,hn,fun ys hy=>by rw [I.list_inj hy hq];exact hx,rfl,rfl⟩,⟨⟨u,e2⟩,i1.at fun o q=>(sb.2 _ (Ne.symm ne)).trans q⟩,fun b hb=>?_⟩
  ·refine Inv.call' (ch:=[e,it]) I (s':={ s with heap:=h2,toks:=s.toks+1 }) rfl ⟨fun b ob q n hb hx=>?_,fun b ob q n hb hx=>?_,fun b ob q n hx=>?_,fun b ob q hx=>?_,fun b ys q=>?_,fun b ob ys q=>?_,fun b ps q=>⟨#[],?_⟩⟩ ?_ I.bare fun b hb=>?_
   ·exact kk b ob (fun z=>hx (by simp [z])) (fun z=>hx (by simp [z])) q
   ·exact ⟨ob.slots,kk b ob (fun z=>hx (by simp [z])) (fun z=>hx (by simp [z])) q⟩
   ·rw [upd_ne (nq q)];exact n
   ·exact ⟨ob,kk b ob (fun z=>hx (by simp [z])) (fun z=>hx (by simp [z])) q⟩
   ·rw [upd_ne (hH _ _ q).2.2];exact q
   ·rw [upd_ne (hH _ _ q).2.2];exact q
   ·rw [upd_ne (hH _ _ q).2.2,q];simp
   ·intro b ob q
    by_cases hb:b=s.heap.objs.size
    ·subst hb
     rw [upd_same] at q
     cases q
     exact ⟨by show 2<=sizeLine;decide,[.int i s.toks,u],.cons ⟨_,rfl⟩ (.cons ru .nil),⟨_,tq,rfl,0,rfl⟩⟩
    ·rw [upd_ne hb] at q
     refine (I.hok b ob q).stay (fun c v hc g=>?_) (fun c g=>?_) fun c ys g=>?_
     ·refine kk c v ?_ ?_ g
      ·rcases hc with z | z
       ·rw [z];exact (hH _ _ q).1
       ·exact (hH _ _ z).1
      ·rcases hc with z | z
       ·rw [z];exact (hH _ _ q).2.1
       ·exact (hH _ _ z).2.1
     ·rw [upd_ne (hH _ _ g).2.2];exact g
     ·rw [upd_ne (hH _ _ g).2.2];exact g
   ·rcases List.mem_cons.mp hb with z | z
    ·subst z;exact ⟨f1.2.2.2.1,f1.2.1,f1.2.2.2.2.1,f1.2.2.2.2.2⟩
    ·have z':b=it:=by simpa using z
     subst z';exact ⟨f2.2.2.2.1,f2.2.1,f2.2.2.2.2.1,f2.2.2.2.2.2⟩
  ·have lt:b≠s.heap.objs.size:=by
    rcases List.mem_cons.mp hb with z | z
    ·rw [z];exact Nat.ne_of_lt ltE
    ·have z':b=it:=by simpa using z
     rw [z'];exact Nat.ne_of_lt ltI
   rw [upd_ne lt];exact (hf b hb).1
 done:=by
  intro X hP hw hK hc i pins s σ H E I hf st hg
  subst hP hw hK
  obtain ⟨⟨old,he⟩,hit⟩:=st
  obtain ⟨xs,hq,hx⟩:=hg
  obtain ⟨its,rv,p,hz⟩:=I.list hq
  obtain ⟨f0,f1,f2,f3,f4,f5⟩:=hf it (by simp)
  have hl:=rv.length
  exact wpAny_pyNext_enum_end (I.ok.hd hc) he hit p.isList (by simp;omega) fun h' eb=>⟨rfl,I.turned (t':=s.toks) (fun b o hb q=>eb b o hb q) f0 f1 f3 f4 f5⟩
 self:=fun _ _ _ _ _ st h=>let ⟨⟨_,he⟩,_⟩:=st;wpAny_pyIter_enum he h
def iEnum (K:PySem.W.Frag) (ta:TA):TI:=fun σ H R=>ta σ H fun vs H1=>∃ a,vs=[.ref a]/\(∃ xs,SqL K H1 a xs)/\R (Ite K a) H1
section
variable {X:Cx}
theorem pi_enum {elts:List Expr} {x1} {tp:Pos} {l:Expr} {ta:TA} {p pos:Pos} (hg:Gl X "enumerate") (hm:X.mg "enumerate" = none) (ha:PA X [l] ta) (hs:starEach [l] X.env=[(false,eval l X.env)]:=by rfl):PI X (.Tuple elts x1 tp) (.Call (.Name "enumerate" p) [l] [] pos) (iEnum X.K ta):=by
 intro pins s σ H R I h
 refine wpAny_Call_Name_kw (ld_blt I hg hm boot_enumerate ?_)
 refine PyProof.Rows.callWith_type1 (thn (ha pos pins s σ H _ I h) fun us s1 ⟨vs,H1,I1,r1,q1⟩=>?_) hs rfl
 obtain ⟨a,rfl,⟨xs,hq⟩,q⟩:=q1
 obtain ⟨u,rfl,ru⟩:=vals1 r1
 cases ru
 obtain ⟨its,rv,pl,hz⟩:=I1.list hq
 refine call_enumerate_list pl.isList fun h' e1 i1 z1 k1=>?_
 refine wpAny_pyIter_enum e1 ?_
 have ne:s1.heap.objs.size+1≠s1.heap.objs.size:=Nat.succ_ne_self _
 refine ⟨s1.heap.objs.size+1,[s1.heap.objs.size+1,s1.heap.objs.size],_,_,H1,rfl,I1.kept (t':=s1.toks) k1,turn_enum a _ _ ne,⟨⟨_,e1⟩,i1⟩,fun b hb=>?_,q⟩
 have le:@LE.le Nat _ s1.heap.objs.size b:=by
  rcases List.mem_cons.mp hb with z | z
  ·rw [z];exact Nat.le_succ _
  ·have z':b=s1.heap.objs.size:=by simpa using z
   rw [z'];exact Nat.le_refl _
 exact I1.fpOk le (I1.hok.fresh le)
end
theorem for_enum {K:PySem.W.Frag} {a:Addr} {xs:List V} {g:TG} {tb:TS} {D:Ends} {σ:St} {H:Hp} (Pv:Nat->St->Hp->Prop) (h0:Pv 0 σ H) (hl:∀ i σ H,i<=xs.length->Pv i σ H->SqL K H a xs)
  (hs:∀ i x σ H q,xs[i]?=some x->Pv i σ H->H q=none->g (.ref q) σ (upd H q (.tup [.int i,x])) fun σ2 H2=>tb { D with nx:=Pv (i+1),ct:=Pv (i+1),bk:=D.nx } σ2 H2) (hd:∀ σ H,Pv xs.length σ H->D.nx σ H) :
  ∃ W:Nat->Nat->St->Hp->Prop,(∃ m,W 0 m σ H)/\∀ i m σ H,W i m σ H ->
   ((Ite K a).stop i H/\D.nx σ H)\/((Ite K a).go i H/\∃ N:St->Hp->Prop,(∀ σ' H',N σ' H'->∃ m',m' < m/\W (i+1) m' σ' H')/\∀ x H',(Ite K a).yld i H x H'->g x σ H' fun σ2 H2=>tb { D with nx:=N,ct:=N,bk:=D.nx } σ2 H2):=by
 refine ⟨fun i m σ H=>m=xs.length - i/\i<=xs.length/\Pv i σ H,⟨xs.length,by simp,Nat.zero_le _,h0⟩,?_⟩
 rintro i m σ H ⟨rfl,hi,p⟩
 have q:=hl i σ H hi p
 by_cases hlt:i < xs.length
 ·refine .inr ⟨⟨xs,xs[i],q,by simp [hlt]⟩,Pv (i+1),fun σ' H' p'=>⟨xs.length - (i+1),by omega,rfl,hlt,p'⟩,fun x H' ⟨r,y,hr,hy,e1,e2⟩=>?_⟩
  subst e1 e2
  exact hs i y σ _ r (hy xs q) p hr
 ·have e:i=xs.length:=by omega
  subst e
  exact .inl ⟨⟨xs,q,Nat.le_refl _⟩,hd σ H p⟩
end L2
namespace K75
open PySem PySem.Spec PyProof.Rows L2
structure Mt (K:PySem.W.Frag) (mg:Str->Option Value) (C fP fS:Addr) (fdP fdS:FuncData):Prop where
 wc:WC K mg C
 pF:Fun K "places" "Web.places" sPlaces fP fdP
 pM:Meth K C "places" fP
 pB:Binds K fdP ["self"] []
 sF:Fun K "ties" "Web.ties" sTies fS fdS
 sM:Meth K C "ties" fS
 sB:Binds K fdS ["self"] []
theorem WebObj.meth {C x:Addr} {H:Hp} {ns:List Str} {ps:List (Str × Str)} (h:WebObj C H x ns ps) (m:Str) (e1:(m == ("kept_places" : Str))=false:=by decide +kernel) (e2:(m == ("kept_ties" : Str))=false:=by decide +kernel):∃ dx fs,H x=some (.ins C dx fs)/\fs.lookup m=none:=by
 obtain ⟨dx,kp,kt,us,q,_⟩:=h
 exact ⟨dx,_,q,wf_no kp kt m e1 e2⟩
structure GoodW (ns:List Str) (ps:List (Str × Str)):Prop where
 good:GoodP ns
 ins:InP ns ps
 few:ps.length<=30
end K75
namespace L2
open PySem PySem.Spec PyProof.Rows
inductive Rch (ps:List (Str × Str)):Str->Str->Prop where
 | here (a:Str):Rch ps a a
 | on {a b c:Str} (h:Rch ps a b) (t:(b,c)∈ps):Rch ps a c
theorem Rch.trans {ps:List (Str × Str)} {a b c:Str} (h:Rch ps a b) (k:Rch ps b c):Rch ps a c:=by
 induction k with
 | here=>exact h
 | on _ t ih=>exact ih.on t
theorem Rch.one {ps:List (Str × Str)} {a b:Str} (t:(a,b)∈ps):Rch ps a b:=(Rch.here a).on t
theorem Rch.isin {ns:List Str} {ps:List (Str × Str)} (hi:∀ p∈ps,p.1∈ns/\p.2∈ns) {a b:Str} (h:Rch ps a b) (ha:a∈ns):b∈ns:=by
 cases h with
 | here=>exact ha
 | on _ t=>exact (hi _ t).2
theorem Rch.stays {ps:List (Str × Str)} {S:Str->Prop} {a b:Str} (h:Rch ps a b) (ha:S a) (hc:∀ p∈ps,S p.1->S p.2):S b:=by
 induction h with
 | here=>exact ha
 | on _ t ih=>exact hc _ t ih
open Classical in
noncomputable def rch (ns:List Str) (ps:List (Str × Str)) (a:Str):List Str:=srt (ns.filter fun z=>decide (Rch ps a z))
theorem perm_of {α:Type} [DecidableEq α]:∀ {l m:List α},l.Nodup->m.Nodup->(∀ x,x∈l ↔ x∈m)->l.Perm m:=fun hl hm h=>(List.perm_ext_iff_of_nodup hl hm).mpr h
theorem srt_same {l m:List Str} (hl:l.Nodup) (hm:m.Nodup) (h:∀ x,x∈l ↔ x∈m):srt l=srt m :=
 srt_of ((srt_perm l).trans (perm_of hl hm h)) (srt_pw l)
theorem srt_mem {l:List Str} {x:Str}:x∈srt l ↔ x∈l:=(srt_perm l).mem_iff
theorem srt_nd {l:List Str} (h:l.Nodup):(srt l).Nodup:=(srt_perm l).nodup_iff.mpr h
theorem rch_mem {ns:List Str} {ps:List (Str × Str)} {a z:Str}:z∈rch ns ps a ↔ z∈ns/\Rch ps a z:=by
 unfold rch
 rw [srt_mem,List.mem_filter]
 simp
theorem rch_of {ns zs:List Str} {ps:List (Str × Str)} {a:Str} (hn:ns.Nodup) (hz:zs.Nodup) (hi:∀ p∈ps,p.1∈ns/\p.2∈ns) (ha:a∈ns) (h:∀ z,z∈zs ↔ Rch ps a z):srt zs=rch ns ps a:=by
 refine srt_same hz (hn.filter _) fun x=>?_
 rw [h,List.mem_filter]
 simp only [decide_eq_true_eq]
 exact ⟨fun r=>⟨r.isin hi ha,r⟩,fun r=>r.2⟩
def outs (ps:List (Str × Str)) (a:Str):List Str:=(ps.filter fun p=>decide (p.1=a)).map (·.2)
theorem outs_mem {ps:List (Str × Str)} {a b:Str}:b∈outs ps a ↔ (a,b)∈ps:=by
 unfold outs
 rw [List.mem_map]
 constructor
 ·rintro ⟨p,hp,rfl⟩
  obtain ⟨h1,h2⟩:=List.mem_filter.mp hp
  have:p.1=a:=by simpa using h2
  rw [<- this];exact h1
 ·intro h
  exact ⟨(a,b),List.mem_filter.mpr ⟨h,by simp⟩,rfl⟩
theorem outs_snoc (ps:List (Str × Str)) (p:Str × Str) (a:Str):outs (ps++[p]) a=if p.1=a then outs ps a++[p.2] else outs ps a:=by
 unfold outs
 rw [List.filter_append,List.map_append]
 by_cases h:p.1=a<;>simp [h]
theorem outs_len (ps:List (Str × Str)) (a:Str):(outs ps a).length<=ps.length:=by
 unfold outs
 rw [List.length_map]
 exact List.length_filter_le _ _
theorem nd_le {l m:List Str} (hl:l.Nodup) (h:∀ x∈l,x∈m):l.length<=m.length:=by
 induction l generalizing m with
 | nil=>exact Nat.zero_le _
 | cons x l ih =>
  rw [List.nodup_cons] at hl
  have hx:=h x List.mem_cons_self
  have q:=ih (m:=m.erase x) hl.2 fun y hy=>(List.mem_erase_of_ne (fun e:y=x=>hl.1 (e ▸ hy))).mpr (h y (List.mem_cons_of_mem _ hy))
  rw [List.length_erase_of_mem hx] at q
  have:0 < m.length:=List.length_pos_of_mem hx
  simp only [List.length_cons]
  omega
end L2
namespace K75
open PySem PySem.Spec PyProof.Rows L2
abbrev sLeads:Stmt:=top 21 -- leads
abbrev sSpread:Stmt:=top 22 -- spread
section
variable {P:Program} {w:World} {K:PySem.W.Frag} {mg:Str->Option Value} {base:Heap}
structure StepsL (H:Hp) (d:Addr) (ns:List Str) (ps:List (Str × Str)) (ls:List Addr):Prop where
 len:ls.length=ns.length
 nd:ls.Nodup
 hd:H d=some (.dK (tab ns ls))
 at_:∀ (i:Nat) z l,ns[i]?=some z->ls[i]?=some l->H l=some (.lst ((outs ps z).map V.str))
theorem StepsL.same {H H':Hp} {d:Addr} {ns:List Str} {ps:List (Str × Str)} {ls:List Addr} (h:StepsL H d ns ps ls) (s:Same H H'):StepsL H' d ns ps ls:=⟨h.len,h.nd,s _ _ h.hd,fun i z l e1 e2=>s _ _ (h.at_ i z l e1 e2)⟩
theorem StepsL.get {H:Hp} {d:Addr} {ns:List Str} {ps:List (Str × Str)} {ls:List Addr} (h:StepsL H d ns ps ls) (nd:ns.Nodup) {z:Str} (hz:z∈ns):∃ (i:Nat) (l:Addr),ns[i]?=some z/\ls[i]?=some l/\valV (tab ns ls) (Sum.inr z:Key)=some (.ref l)/\H l=some (.lst ((outs ps z).map V.str)):=by
 obtain ⟨i,hi,e⟩:=List.getElem_of_mem hz
 have e1:ns[i]?=some z:=by rw [List.getElem?_eq_getElem hi,e]
 have hl:i < ls.length:=by rw [h.len];exact hi
 have e2:ls[i]?=some ls[i]:=List.getElem?_eq_getElem hl
 exact ⟨i,ls[i],e1,e2,tab_at nd e1 e2,h.at_ i z _ e1 e2⟩
def spLeads:Sp:=fun vs H Q _=>∃ (p t:Addr) (ns:List Str) (ts:List Addr) (ps:List (Str × Str)),vs=[.ref p,.ref t]/\H p=some (.lst (ns.map V.str))/\H t=some (.lst (ts.map V.ref))/\TiesAt H ts ps/\ns.Nodup/\ns.length<=12/\InP ns ps/\ps.length<=1000 /\
 ∀ (d:Addr) (ls:List Addr) (H':Hp),StepsL H' d ns ps ls->Same H H'->Q (.ref d) H'
abbrev nLe:List Str:=["places","ties","steps","a","b"]
theorem scLe:FnScope nLe ["places","ties"] (defScope sLeads):=⟨rfl,rfl,rfl,by decide +kernel,rfl,by decide +kernel,by decide +kernel⟩
theorem ok_leads {f:Addr} {fd:FuncData} (F:Fun K "leads" "leads" sLeads f fd) (T:Glb mg):FnOk P w K mg base CX0 1 f fd ["places","ties"] spLeads:=by
 refine F.ok scLe (fun vs H Q E h=>?_) (fun cdv A outer s H vs Q E hr h=>?_)
 ·obtain ⟨p,t,ns,ts,ps,rfl,_⟩:=h
  rfl
 ·obtain ⟨p,t,ns,ts,ps,rfl,hp,ht,hT,nd,few,hI,many,k⟩:=h
  have hu:=hu_of hr
  refine ⟨_,pss_cons (ps_setD (i:=2) ["place"] [] scLe.nd rfl rfl rfl (compSc (osc:=(defScope sLeads).names) (N:=nLe) rfl rfl (by decide +kernel)) (gk_name (by decide)) (pi_list (pv 0))
     (fun _ _ _=>pg_name (i:=0) (show (["place"]:List Str).Nodup by decide +kernel) rfl (Or.inl rfl)) (fun _ _ _=>pifs_nil) (fun _ _ _=>pv 0) (fun _ _ _=>pe_lst pa_nil))
   (pss_cons (ps_for PassesOwn.never rfl (pi_list (pv 1)) (pg_tup rfl (pgs_cons (pg_name (i:=3) scLe.nd rfl (Or.inl rfl)) (pgs_cons (pg_name (i:=4) scLe.nd rfl (Or.inl rfl)) pgs_nil)))
    (pss_one (ps_expr (pe_bm PySem.F.plainAttrs_list PySem.F.slot_list_append PySem.F.type_list_append mt_append (pe_dget hu (pv 2) (pv 3) (fun _ _=>rfl)) (pa_cons (pv 4) pa_nil)))))
   (pss_one (ps_ret (pv 2)))),?_⟩
  refine ⟨_,rfl,p,rfl,⟨_,SqL.of hp⟩,dc_list (K:=K) (xs:=ns.map V.str) (fun i kvs H2=>Same H H2/\∃ ls:List Addr,ls.length=i/\ls.Nodup/\kvs=tab (ns.take i) ls/\∀ l∈ls,H l=none/\H2 l=some (.lst [])) ⟨Same.refl _,[],rfl,List.nodup_nil,rfl,fun _ z=>nomatch z⟩ ?_ ?_ ?_ ?_⟩
  ·rintro i kvs H2 hi ⟨_,ls,e1,_,rfl,_⟩
   rw [List.length_map] at hi
   have lt:(ns.take i).length=i:=by rw [List.length_take];omega
   rw [tab_len (by rw [e1,lt]),lt]
   exact Nat.le_of_lt (small1000 (by omega))
  ·rintro i kvs H2 _ ⟨s2,_⟩
   exact SqL.of (s2 _ _ hp)
  ·rintro i x kvs H2 R hx ⟨s2,ls,e1,nl,rfl,all⟩ kR
   rw [List.getElem?_map] at hx
   obtain ⟨z,ez,rfl⟩:=Option.map_eq_some_iff.mp hx
   have hi:i < ns.length:=(List.getElem?_eq_some_iff.mp ez).1
   have lt:(ns.take i).length=i:=by rw [List.length_take];omega
   simp only [tYes,gName,if_true]
   refine ⟨_,rfl,(by decide),fun l hl=>⟨Sum.inr z,rfl,kR _ _ ?_⟩⟩
   have nz:z ∉ ns.take i:=fun m=>by
    obtain ⟨j,hj,e⟩:=List.getElem_of_mem m
    have hj':j < i:=by rw [lt] at hj;exact hj
    have q:ns[j]?=some z:=by
     rw [<- e,List.getElem_take,List.getElem?_eq_getElem]
    have:=nd_at nd q ez
    omega
   have nl':l ∉ ls:=fun m=>by rw [(all l m).2] at hl;cases hl
   refine ⟨s2.trans (same_upd hl),ls++[l],by simp [e1],nd_snoc nl nl',?_,fun y hy=>?_⟩
   ·rw [List.take_add_one,ez,putK_new _ (tab_none nz)]
    exact (tab_snoc z l (by rw [e1,lt])).symm
   ·rcases List.mem_append.mp hy with q | q
    ·exact ⟨(all y q).1,by rw [upd_ne (ne_of_none (all y q).2 hl)];exact (all y q).2⟩
    ·rw [List.mem_singleton.mp q];exact ⟨s2.free hl,upd_same⟩
  ·rintro kvs H2 ⟨s2,ls,e1,nl,rfl,all⟩ d hd
   rw [List.length_map] at e1 ⊢
   rw [List.take_of_length_le (Nat.le_refl _)]
   have hS:StepsL (upd H2 d (.dK (tab ns ls))) d ns [] ls:=⟨e1,nl,upd_same,fun i z l _ el=>by
    have:=(all l (List.mem_of_getElem? el)).2
    rw [upd_ne (ne_of_none this hd)];exact this⟩
   have s3:Same H (upd H2 d (.dK (tab ns ls))):=s2.trans (same_upd hd)
   generalize upd H2 d (.dK (tab ns ls))=H3 at hS s3 ⊢
   refine ⟨_,rfl,t,rfl,⟨_,SqL.of (s3 _ _ ht)⟩,for_list (K:=K) (xs:=ts.map V.ref) (fun i σ H4=>∃ v3 v4,σ=[some (V.ref p),some (V.ref t),some (V.ref d),v3,v4]/\Same H H4/\StepsL H4 d ns (ps.take i) ls) ⟨_,_,rfl,s3,by rw [List.take_zero];exact hS⟩ ?_ ?_ ?_⟩
   ·rintro i σ H4 _ ⟨v3,v4,rfl,s4,_⟩
    exact SqL.of (s4 _ _ ht)
   ·rintro i y σ H4 hy ⟨v3,v4,rfl,s4,S4⟩
    rw [List.getElem?_map] at hy
    obtain ⟨u,eu,rfl⟩:=Option.map_eq_some_iff.mp hy
    obtain ⟨pr,ep,hpr⟩:=hT.get eu
    obtain ⟨i1,i2⟩:=hI pr (List.mem_of_getElem? ep)
    refine ⟨u,_,rfl,SqT.of (s4 _ _ hpr),rfl,_,_,rfl,_,_,rfl,rfl,?_⟩
    obtain ⟨j,l,j1,j2,j3,j4⟩:=S4.get nd i1
    refine ⟨_,rfl,_,rfl,d,_,rfl,(show DGet H4 d (.str pr.1) (some (.ref l)) from j3 ▸ DGet.k (k:=Sum.inr pr.1) S4.hd),.inl ⟨rfl,_,SqL.of j4⟩,_,rfl,l,_,_,rfl,rfl,j4,?_,?_⟩
    ·rw [List.length_map]
     refine small1000 (Nat.le_trans (outs_len _ _) (Nat.le_trans ?_ many))
     rw [List.length_take];exact Nat.min_le_right _ _
    ·have hl0:H l=none:=(all l (List.mem_of_getElem? j2)).1
     refine ⟨_,_,rfl,Same.upd_new s4 hl0,S4.len,S4.nd,?_,fun i' z' l' e1' e2'=>?_⟩
     ·rw [upd_ne (ne_of S4.hd j4 (by intro z;cases z))];exact S4.hd
     ·rw [List.take_add_one,ep]
      show _=some (HO.lst ((outs (ps.take i++[pr]) z').map V.str))
      rw [outs_snoc]
      by_cases e:i'=j
      ·subst e
       rw [j1] at e1';rw [j2] at e2'
       cases e1';cases e2'
       rw [upd_same,if_pos rfl];simp
      ·have nl':l'≠l:=fun q=>e (nd_at nl (q ▸ e2') j2)
       have nz':¬ pr.1=z':=fun q=>e (nd_at nd (q ▸ e1') j1)
       rw [upd_ne nl',if_neg nz']
       exact S4.at_ i' z' l' e1' e2'
   ·rintro σ H4 ⟨v3,v4,rfl,s4,S4⟩
    rw [List.length_map,hT.len,List.take_of_length_le (Nat.le_refl _)] at S4
    exact ⟨_,rfl,k d ls H4 S4 s4⟩
end
structure Fl (ns:List Str) (ps:List (Str × Str)) (a:Str) (zs hs:List Str):Prop where
 nd:zs.Nodup
 sub:∀ z∈zs,z∈ns
 rch:∀ z∈zs,Rch ps a z
 hsub:∀ z∈hs,z∈zs
 hnd:hs.Nodup
theorem Fl.more {ns:List Str} {ps:List (Str × Str)} {a b c:Str} {zs hs:List Str} (F:Fl ns ps a zs hs) (hi:InP ns ps) (hb:b∈zs) (t:(b,c)∈ps) (n:c ∉ zs):Fl ns ps a (zs++[c]) (hs++[c]) where
 nd:=nd_snoc F.nd n
 sub:=fun z hz=>(List.mem_append.mp hz).elim (F.sub z) fun e=>by rw [List.mem_singleton.mp e];exact (hi _ t).2
 rch:=fun z hz=>(List.mem_append.mp hz).elim (F.rch z) fun e=>by rw [List.mem_singleton.mp e];exact (F.rch b hb).on t
 hsub:=fun z hz=>(List.mem_append.mp hz).elim (fun h=>List.mem_append_left _ (F.hsub z h)) fun e=>List.mem_append_right _ e
 hnd:=nd_snoc F.hnd fun m=>n (F.hsub c m)
def kz (zs:List Str):List (Key × V):=zs.map fun z=>(Sum.inr z,V.bl true)
theorem kz_val (zs:List Str) (z:Str):valV (kz zs) (Sum.inr z:Key)=if z∈zs then some (.bl true) else none:=by
 induction zs with
 | nil=>rfl
 | cons y r ih =>
  by_cases e:y=z
  ·subst e
   rw [if_pos List.mem_cons_self]
   exact valV_pos rfl
  ·show valV ((Sum.inr y,V.bl true)::kz r) _=_
   rw [valV_neg (fun q=>e (Sum.inr.inj q)),ih]
   have:z∈y::r ↔ z∈r:=by
    rw [List.mem_cons]
    exact ⟨fun h=>h.resolve_left fun q=>e q.symm,Or.inr⟩
   by_cases h:z∈r
   ·rw [if_pos h,if_pos (this.mpr h)]
   ·rw [if_neg h,if_neg fun q=>h (this.mp q)]
theorem kz_put {zs:List Str} {z:Str} (h:z ∉ zs):putK (kz zs) (Sum.inr z:Key) (.bl true)=kz (zs++[z]):=by
 rw [putK_new _ (by rw [kz_val,if_neg h])]
 simp [kz]
theorem kz_txt (zs:List Str):KTxt (kz zs) zs:=by simp [KTxt,kz]
section
variable {P:Program} {w:World} {K:PySem.W.Frag} {mg:Str->Option Value} {base:Heap}
def spSpread:Sp:=fun vs H Q _=>∃ (d:Addr) (a:Str) (ns:List Str) (ps:List (Str × Str)) (ls:List Addr),vs=[.ref d,.str a]/\StepsL H d ns ps ls/\ns.Nodup/\ns.length<=12/\InP ns ps/\ps.length<=1000/\a∈ns /\
 ∀ (l:Addr) (H':Hp),H l=none->H' l=some (.lst ((rch ns ps a).map V.str))->Same H H'->Q (.ref l) H'
abbrev nSp:List Str:=["steps","start","seen","ahead","place","after"]
theorem scSp:FnScope nSp ["steps","start"] (defScope sSpread):=⟨rfl,rfl,rfl,by decide +kernel,rfl,by decide +kernel,by decide +kernel⟩
def SpW (d se ah:Addr) (a:Str) (ns:List Str) (ps:List (Str × Str)) (H:Hp) (m:Nat) (σ:L2.St) (H2:Hp):Prop :=
 ∃ (v4 v5:Option V) (zs hs:List Str),σ=[some (.ref d),some (.str a),some (.ref se),some (.ref ah),v4,v5]/\Same H H2/\H2 se=some (.dK (kz zs))/\H2 ah=some (.lst (hs.map V.str))/\Fl ns ps a zs hs/\a∈zs /\
  (∀ z∈zs,z ∉ hs->∀ b∈outs ps z,b∈zs)/\m=2 * (ns.length - zs.length)+hs.length
theorem ok_spread {f:Addr} {fd:FuncData} (F:Fun K "spread" "spread" sSpread f fd) (T:Glb mg):FnOk P w K mg base CX0 1 f fd ["steps","start"] spSpread:=by
 refine F.ok scSp (fun vs H Q E h=>?_) (fun cdv A outer s H vs Q E hr h=>?_)
 ·obtain ⟨d,a,ns,ps,ls,rfl,_⟩:=h
  rfl
 ·obtain ⟨d,a,ns,ps,ls,rfl,hS,nd,few,hI,many,ha,k⟩:=h
  have hu:=hu_of hr
  refine ⟨_,pss_cons (ps_set (i:=2) scSp.nd rfl (Or.inl rfl) (pe_disp (pps_cons (pv 1) pe_bl pps_nil) rfl rfl (by intro z;cases z) (by decide)))
   (pss_cons (ps_set (i:=3) scSp.nd rfl (Or.inl rfl) (pe_lst (pa_cons (pv 1) pa_nil)))
   (pss_cons (ps_while PassesOwn.never (pt_truth (pv 3) (fun _=>rfl))
    (pss_cons (ps_set (i:=4) scSp.nd rfl (Or.inl rfl) (pe_bm0 PySem.F.plainAttrs_list PySem.F.slot_list_pop PySem.F.type_list_pop mt_pop (pv 3)))
    (pss_one (ps_for PassesOwn.never rfl (pi_list (pe_dget hu (pv 0) (pv 4) (fun _ _=>rfl))) (pg_name (i:=5) scSp.nd rfl (Or.inl rfl))
     (pss_one (ps_if (pt_cmp (pc_dnotin hu (pv 5) (pv 2)))
      (pss_cons (ps_dput hu (pv 2) (pv 5) pe_bl rfl)
      (pss_one (ps_expr (pe_bm PySem.F.plainAttrs_list PySem.F.slot_list_append PySem.F.type_list_append mt_append (pv 3) (pa_cons (pv 5) pa_nil))))) pss_nil))))))
   (pss_one (ps_ret (pe_callB (call_sorted_dk rfl) (by rfl) T.sorted boot_sorted (pa_cons (pv 2) pa_nil)))))),?_⟩
  intro se hse
  refine ⟨_,rfl,upd_same,[(Sum.inr a,V.bl true)],rfl,(by show 1<=15;decide),?_⟩
  rw [upd_upd,show mergeK [] [((Sum.inr a:Key),V.bl true)]=kz [a] from rfl]
  have s1:=same_upd (o:=.dK (kz [a])) hse
  have hse1:=upd_same (H:=H) (a:=se) (o:=.dK (kz [a]))
  generalize upd H se (.dK (kz [a]))=H1 at s1 hse1 ⊢
  refine ⟨_,rfl,(by show 1<=sizeLine;decide),fun ah hah=>?_⟩
  have hah0:H ah=none:=s1.free hah
  have nsa:se≠ah:=ne_of_none hse1 hah
  refine ⟨SpW d se ah a ns ps H,⟨_,_,_,[a],[a],rfl,s1.trans (same_upd hah),by rw [upd_ne nsa];exact hse1,upd_same,?_,List.mem_singleton.mpr rfl,fun z hz n=>absurd hz n,rfl⟩,?_⟩
  ·exact ⟨by simp,fun z hz=>by rw [List.mem_singleton.mp hz];exact ha,fun z hz=>by rw [List.mem_singleton.mp hz];exact .here _,fun z hz=>hz,by simp⟩
  rintro m σ H2 ⟨v4,v5,zs,hs,rfl,s2,hse2,hah2,FL,az,cl,rfl⟩
  refine ⟨_,rfl,_,.inl ⟨_,SqL.of hah2,rfl⟩,?_⟩
  have S2:=hS.same s2
  have zle:zs.length<=ns.length:=nd_le FL.nd FL.sub
  have hnodup:True:=trivial
  refine ite2 (fun hne=>?_) (fun hem=>?_)
  ·-- a turn
   have hpos:hs≠[]:=fun e=>by rw [e] at hne;simp at hne
   obtain ⟨hs0,pl,rfl⟩:∃ hs0 pl,hs=hs0++[pl]:=⟨hs.dropLast,hs.getLast hpos,(List.dropLast_concat_getLast hpos).symm⟩
   refine ⟨fun σ' H'=>∃ m',m' < 2 * (ns.length - zs.length)+(hs0++[pl]).length/\SpW d se ah a ns ps H m' σ' H',fun σ' H' h=>h,?_⟩
   refine ⟨_,rfl,.inl ⟨rfl,_,SqL.of hah2⟩,ah,_,.str pl,rfl,rfl,hah2,(by simp),?_⟩
   have eh:((hs0++[pl]).map V.str).dropLast=hs0.map V.str:=by simp
   rw [eh]
   have nah:se≠ah:=ne_of hse2 hah2 (by intro z;cases z)
   have s3:Same H (upd H2 ah (.lst (hs0.map V.str))):=Same.upd_new s2 hah0
   have hse3:(upd H2 ah (.lst (hs0.map V.str))) se=some (.dK (kz zs)):=by rw [upd_ne nah];exact hse2
   have hah3:=upd_same (H:=H2) (a:=ah) (o:=.lst (hs0.map V.str))
   generalize upd H2 ah (.lst (hs0.map V.str))=H3 at s3 hse3 hah3 ⊢
   have plz:pl∈zs:=FL.hsub pl (by simp)
   have S3:=hS.same s3
   obtain ⟨j,l,j1,j2,j3,j4⟩:=S3.get nd (FL.sub pl plz)
   refine ⟨_,rfl,_,rfl,d,_,rfl,(show DGet H3 d (.str pl) (some (.ref l)) from j3 ▸ DGet.k (k:=Sum.inr pl) S3.hd),l,rfl,⟨_,SqL.of j4⟩,?_⟩
   have hl0:=hS.at_ j pl l j1 j2
   refine for_list (K:=K) (xs:=(outs ps pl).map V.str) (fun i σ H4=>∃ (v5:Option V) (zs4 hs4:List Str),σ=[some (.ref d),some (.str a),some (.ref se),some (.ref ah),some (.str pl),v5]/\Same H H4/\H4 se=some (.dK (kz zs4))/\H4 ah=some (.lst (hs4.map V.str))/\Fl ns ps a zs4 hs4/\(∀ z∈zs,z∈zs4) /\
     (∀ z∈zs4,z ∉ hs4->z≠pl->∀ b∈outs ps z,b∈zs4)/\(∀ b∈(outs ps pl).take i,b∈zs4)/\2 * (ns.length - zs4.length)+hs4.length < 2 * (ns.length - zs.length)+(hs0++[pl]).length/\zs4.length<=ns.length)
    ⟨_,zs,hs0,rfl,s3,hse3,hah3,⟨FL.nd,FL.sub,FL.rch,fun z hz=>FL.hsub z (List.mem_append_left _ hz),(List.nodup_append.mp FL.hnd).1⟩,fun z hz=>hz,?_,fun b hb=>by simp at hb,by simp,zle⟩ ?_ ?_ ?_
   ·intro z hz n1 n2
    exact cl z hz fun q=>(List.mem_append.mp q).elim n1 fun e=>n2 (List.mem_singleton.mp e)
   ·rintro i σ H4 _ ⟨v5,zs4,hs4,rfl,s4,_⟩
    exact SqL.of (s4 _ _ hl0)
   ·rintro i y σ H4 hy ⟨v5,zs4,hs4,rfl,s4,hse4,hah4,F4,sub4,cl4,seen4,m4,le4⟩
    rw [List.getElem?_map] at hy
    obtain ⟨b,eb,rfl⟩:=Option.map_eq_some_iff.mp hy
    have hb:b∈outs ps pl:=List.mem_of_getElem? eb
    have tb:(pl,b)∈ps:=outs_mem.mp hb
    have ebt:(outs ps pl).take (i+1)=(outs ps pl).take i++[b]:=by rw [List.take_add_one,eb];rfl
    refine ⟨_,rfl,_,rfl,se,_,rfl,DGet.k (k:=Sum.inr b) hse4,_,rfl,?_⟩
    rw [kz_val]
    by_cases hin:b∈zs4
    ·rw [if_pos hin]
     refine iteF ⟨_,zs4,hs4,rfl,s4,hse4,hah4,F4,sub4,cl4,fun y hy=>?_,m4,le4⟩
     rw [ebt] at hy
     exact (List.mem_append.mp hy).elim (seen4 y) fun e=>by rw [List.mem_singleton.mp e];exact hin
    ·rw [if_neg hin]
     have le5:(zs4++[b]).length<=ns.length:=nd_le (F4.more hI (sub4 pl plz) tb hin).nd (F4.more hI (sub4 pl plz) tb hin).sub
     refine iteT ⟨_,rfl,_,rfl,se,_,rfl,DPut.k (k:=Sum.inr b) hse4 (by simp only [kz,List.length_map];exact small1000 (by omega)),?_⟩
     rw [kz_put hin]
     have nsa4:se≠ah:=nah
     have hah5:(upd H4 se (.dK (kz (zs4++[b])))) ah=some (.lst (hs4.map V.str)):=by rw [upd_ne (Ne.symm nsa4)];exact hah4
     have hl4:hs4.length<=1000:=by
      have:=nd_le F4.hnd F4.hsub
      omega
     refine ⟨_,rfl,.inl ⟨rfl,_,SqL.of hah5⟩,_,rfl,ah,_,_,rfl,rfl,hah5,(by rw [List.length_map];exact small1000 hl4),?_⟩
     refine ⟨_,zs4++[b],hs4++[b],rfl,Same.upd_new (Same.upd_new s4 hse) hah0,by rw [upd_ne nsa4,upd_same],by rw [upd_same];simp,F4.more hI (sub4 pl plz) tb hin,fun z hz=>List.mem_append_left _ (sub4 z hz),fun z hz n1 n2 c hc=>?_,fun y hy=>?_,?_,le5⟩
     ·rcases List.mem_append.mp hz with q | q
      ·exact List.mem_append_left _ (cl4 z q (fun e=>n1 (List.mem_append_left _ e)) n2 c hc)
      ·exact absurd (List.mem_append_right _ q) n1
     ·rw [ebt] at hy
      exact (List.mem_append.mp hy).elim (fun q=>List.mem_append_left _ (seen4 y q)) fun e=>List.mem_append_right _ e
     ·simp only [List.length_append,List.length_singleton] at m4 le5 ⊢
      omega
   ·rintro σ H4 ⟨v5,zs4,hs4,rfl,s4,hse4,hah4,F4,sub4,cl4,seen4,m4,le4⟩
    rw [List.length_map,List.take_of_length_le (Nat.le_refl _)] at seen4
    refine ⟨_,m4,_,_,zs4,hs4,rfl,s4,hse4,hah4,F4,sub4 a az,fun z hz n b hb=>?_,rfl⟩
    by_cases e:z=pl
    ·subst e;exact seen4 b hb
    ·exact cl4 z hz n e b hb
  ·-- the end
   have he:hs=[]:=by
    cases hs with
    | nil=>rfl
    | cons x r=>simp at hem
   subst he
   have all:∀ z,z∈zs ↔ Rch ps a z:=fun z=>⟨FL.rch z,fun r=>r.stays (S:=(·∈zs)) az fun p hp h1=>cl p.1 h1 (by simp) p.2 (outs_mem.mpr hp)⟩
   refine ⟨_,rfl,se,_,zs,rfl,hse2,kz_txt zs,by omega,fun l hl=>?_⟩
   rw [rch_of nd FL.nd hI ha all]
   exact k l _ (s2.free hl) upd_same (s2.trans (same_upd hl))
def spNames:Sp:=fun vs H Q _=>∃ (p:Addr) (m:Int),vs=[.ref p,.int m]/\1<=m/\m<=12/\Row H p/\∀ (q:Addr) (ns:List Str) (H':Hp),GoodP ns->(ns.length:Int)=m->H q=none->H' q=some (.lst (ns.map V.str))->Row H' p->But p H H'->Q (.ref q) H'
abbrev nNm:List Str:=["_law_pot_here","_law_many","_law_letters","_law_found","_law_k","_law_long","_law_name"]
theorem scNm:FnScope nNm ["_law_pot_here","_law_many"] (defScope sNames):=⟨rfl,rfl,rfl,by decide +kernel,rfl,by decide +kernel,by decide +kernel⟩
theorem ok_names {f fD:Addr} {fd fdD:FuncData} (F:Fun K "_law_names" "_law_names" sNames f fd) (D:Df K mg "_law_take" sTake ["_law_pot_here","_law_many"] fD fdD) (T:Glb mg):FnOk P w K mg base CX0 2 f fd ["_law_pot_here","_law_many"] spNames:=by
 have G:FnOk P w K mg base CX0 1 fD fdD ["_law_pot_here","_law_many"] spDraw:=ok_take D.fn T
 refine F.ok scNm (fun vs H Q E h=>?_) (fun cdv A outer s H vs Q E hr h=>?_)
 ·obtain ⟨p,m,rfl,_⟩:=h
  rfl
 ·obtain ⟨p,m,rfl,m1,m12,hp,k⟩:=h
  refine ⟨_,pss_cons (ps_set (i:=2) scNm.nd rfl (Or.inr rfl) pe_str)
   (pss_cons (ps_set (i:=3) scNm.nd rfl (Or.inr rfl) (pe_lst pa_nil))
   (pss_cons (ps_for PassesOwn.never rfl (pi_range1 rfl T.range (pa_cons (pv 1) pa_nil)) (pg_name (i:=4) scNm.nd rfl (Or.inl rfl))
    (pss_cons (ps_set (i:=5) scNm.nd rfl (Or.inl rfl) (pe_op op_add pe_int (pe_call G hr rfl D.mgf D.fn.kp D.b .nil pass0 (pa_cons (pv 0) (pa_cons
     (pe_ix ix_list (pe_lst (pa_cons pe_int (pa_cons pe_int (pa_cons pe_int pa_nil)))) (pe_call G hr rfl D.mgf D.fn.kp D.b .nil pass0 (pa_cons (pv 0) (pa_cons pe_int pa_nil))) (fun _ _=>rfl)) pa_nil)))))
    (pss_cons (ps_set (i:=6) scNm.nd rfl (Or.inl rfl) (pe_bm PySem.F.plainAttrs_str PySem.F.slot_str_join PySem.F.type_str_join mt_join pe_str (pa_cons
     (pe_lc ["_law_j"] [2,0] rfl (compSc (osc:=(defScope sNames).names) (N:=nNm) rfl rfl (by decide +kernel)) (gk_name (by decide))
      (pi_range1 rfl T.range (pa_cons (pv 5) pa_nil))
      (fun _ _ _=>pg_name (i:=0) (show (["_law_j","_law_letters","_law_pot_here"]:List Str).Nodup by decide +kernel) rfl (Or.inl rfl)) (fun _ _ _=>pifs_nil)
      (fun _ _ _=>pe_ix ix_str (pv 1) (pe_call G hr rfl D.mgf D.fn.kp D.b .nil pass0 (pa_cons (pv 2) (pa_cons pe_int pa_nil))) (fun _ _=>rfl))) pa_nil)))
    (pss_cons (ps_if (pt_cmpR op_in_seq (pv 6) (pv 3) rfl) (pss_one (ps_set (i:=6) scNm.nd rfl (Or.inl rfl) (pe_ix ix_list
     (pe_lc ["_law_letter"] [3] rfl (compSc (osc:=(defScope sNames).names) (N:=nNm) rfl rfl (by decide +kernel)) (gk_name (by decide)) (pi_str (pv 2))
      (fun _ _ _=>pg_name (i:=0) (show (["_law_letter","_law_found"]:List Str).Nodup by decide +kernel) rfl (Or.inl rfl)) (fun _ _ _=>pifs_one (pt_cmpR (r:=rIn K true) op_notIn_seq (pv 0) (pv 1) rfl))
      (fun _ _ _=>pv 0)) pe_int (fun _ _=>rfl)))) pss_nil)
    (pss_one (ps_expr (pe_bm PySem.F.plainAttrs_list PySem.F.slot_list_append PySem.F.type_list_append mt_append (pv 3) (pa_cons (pv 6) pa_nil))))))))
   (pss_one (ps_ret (pv 3))))),?_⟩
  refine ⟨(by decide),fun q hq=>?_⟩
  have npq:p≠q:=ne_of_none hp.lst.choose_spec hq
  obtain ⟨n,rfl⟩:∃ n:Nat,m=(n:Int):=⟨m.toNat,by omega⟩
  refine ⟨_,rfl,_,rfl,by omega,by omega,?_⟩
  refine for_range (fun i σ H2=>∃ (v4 v5 v6:Option V) (ns:List Str),σ=[some (V.ref p),some (V.int n),some (V.str abc),some (V.ref q),v4,v5,v6]/\Row H2 p/\But p H H2/\H2 q=some (.lst (ns.map V.str))/\ns.length=i/\(∀ z∈ns,nm z=true)/\ns.Nodup)
   ⟨_,_,_,[],rfl,hp.upd_ne npq,(fun c o e _=>by rw [L2.upd_ne (ne_of_none e hq)];exact e),upd_same,rfl,(fun _ z=>nomatch z),List.nodup_nil⟩ ?_ ?_
  ·rintro i σ H2 hin0 ⟨v4,v5,v6,ns,rfl,hp2,b2,hq2,hl,hn,nd⟩
   refine ⟨_,rfl,(by show 3<=sizeLine;decide),fun l0 hl0=>?_⟩
   have npl:p≠l0:=ne_of_none hp2.lst.choose_spec hl0
   have s0:=same_upd (o:=.lst [.int 1,.int 3,.int 8]) hl0
   refine ⟨_,rfl,p,3,rfl,hp2.upd_ne npl,by decide,by decide,fun d0 H0 d0a d0b hp0 b0=>?_⟩
   have b00:But p H2 H0:=fun c o e n=>b0 c o (s0 c o e) n
   have hl':=b0 _ _ upd_same (Ne.symm npl)
   obtain ⟨m,em,m0,m8⟩:∃ m:Int,atI [V.int 1,V.int 3,V.int 8] d0=some (.int m)/\0 < m/\m<=8:=by
    have:d0=0\/d0=1\/d0=2:=by omega
    rcases this with rfl | rfl | rfl
    ·exact ⟨1,rfl,by decide,by decide⟩
    ·exact ⟨3,rfl,by decide,by decide⟩
    ·exact ⟨8,rfl,by decide,by decide⟩
   refine ⟨l0,_,_,_,rfl,rfl,SqL.of hl',em,p,m,rfl,hp0,m0,by omega,fun d1 H1 d1a d1b hp1 b1=>?_⟩
   have b01:=b00.trans b1
   refine ⟨_,_,rfl,rfl,rfl,_,rfl,_,rfl,by omega,by omega,lc_range (fun i ys H3=>Row H3 p/\But p H2 H3/\∃ cs:List Nat,ys=(cs.map one).map V.str/\cs.length=i/\∀ c∈cs,(lo c && hi c)=true) ⟨hp1,b01,[],rfl,rfl,fun _ h=>nomatch h⟩ ?_ ?_ ?_⟩
   ·rintro i ys H3 hi ⟨_,_,cs,rfl,hl,_⟩
    rw [List.length_map,List.length_map,hl]
    exact Nat.le_trans hi (Nat.le_trans (show (1+d1).toNat<=8 by omega) (by decide))
   ·rintro i ys H3 R hi ⟨hp3,b3,cs,rfl,hl,h1⟩ kR
    simp only [tYes,gName,if_true]
    refine ⟨_,rfl,_,rfl,p,26,rfl,hp3,by decide,by decide,fun d2 H4 d2a d2b hp4 b4=>?_⟩
    obtain ⟨c,hc⟩:=lit_ix (z:=abc) d2a (by rw [letters26];exact d2b)
    refine ⟨_,_,c,rfl,rfl,by decide +kernel,hc,kR _ _ ⟨hp4,b3.trans b4,cs++[c],by simp,by simp [hl],fun y hy=>?_⟩⟩
    rcases List.mem_append.mp hy with q | q
    ·exact h1 y q
    ·rw [List.mem_singleton.mp q];exact abc_ok c (atI_mem hc)
   rintro ys H3 ⟨hp3,b3,cs,rfl,hlc,h1⟩ D0 hD0
   obtain ⟨b4,hp4⟩:=b3.laid (o:=.lst ((cs.map one).map V.str)) hD0 hp3
   have l1:1<=cs.length:=by rw [hlc];omega
   have l8:cs.length<=8:=by rw [hlc];omega
   have hsum:((cs.map one).map (·.length)).sum+(cs.map one).length * ("" : Str).length<=8:=by
    have e1:((cs.map one).map (·.length)).sum=cs.length:=by
     have:∀ cs:List Nat,((cs.map one).map (·.length)).sum=cs.length:=fun cs=>by
      rw [List.map_map]
      induction cs with
      | nil=>rfl
      | cons c r ih=>rw [List.map_cons,List.sum_cons,ih];show 1+_=_;simp;omega
     exact this cs
    have:("" : Str).length=0:=by decide +kernel
    rw [e1,this];omega
   have hz:nm (Txt.join "" (cs.map one))=true:=nm_of (join_ones (by intro e;rw [e] at l1;simp at l1)) l1 l8 h1
   refine ⟨"",D0,cs.map one,rfl,rfl,SqL.of upd_same,Nat.le_trans hsum (by decide),?_⟩
   generalize Txt.join "" (cs.map one)=z0 at hz ⊢
   generalize upd H3 D0 (HO.lst ((cs.map one).map V.str))=H4 at b4 hp4 ⊢
   have hq4:=b4 _ _ hq2 (Ne.symm npq)
   have b04:=b2.trans b4
   clear b3 hp3 h1 hlc l1 l8 hsum
   have fin:∀ (z:Str) (H5:Hp),nm z=true->z ∉ ns->Row H5 p->But p H H5->H5 q=some (.lst (ns.map V.str))->Row (upd H5 q (.lst (ns.map V.str++[V.str z]))) p/\But p H (upd H5 q (.lst (ns.map V.str++[V.str z])))/\upd H5 q (.lst (ns.map V.str++[V.str z])) q=some (.lst ((ns++[z]).map V.str))/\(ns++[z]).length=i+1/\(∀ y∈ns++[z],nm y=true)/\(ns++[z]).Nodup:=fun z H5 nz nin hp5 b5 hq5=>by
    refine ⟨hp5.upd_ne npq,b5.upd_new hq,by rw [upd_same];simp,by simp [hl],fun y hy=>?_,nd_snoc nd nin⟩
    rcases List.mem_append.mp hy with h | h
    ·exact hn y h
    ·rw [List.mem_singleton.mp h];exact nz
   have sml:ns.length < sizeLine:=small1000 (by rw [hl];have:=hin0;omega)
   refine ⟨_,rfl,_,rfl,q,_,rfl,.inl (SqL.of hq4),rfl,flat_strs ns,_,rfl,?_⟩
   simp only [Bool.false_eq_true,if_false]
   rw [inV_str]
   refine ite2 (fun hin=>?_) (fun hin=>?_)
   ·refine ⟨_,rfl,abc,rfl,lc_str (fun i ys H5=>H5=H4/\ys=(((abc.cps.toList.take i).filter fun c=>decide (one c ∉ ns)).map one).map V.str) ⟨rfl,rfl⟩ ?_ ?_ ?_⟩
    ·rintro i ys H5 hi ⟨_,rfl⟩
     rw [List.length_map,List.length_map]
     refine Nat.le_trans (List.length_filter_le _ _) ?_
     rw [List.length_take,Array.length_toList,abc_size]
     exact Nat.le_trans (Nat.min_le_right _ _) (by decide)
    ·rintro i c ys H5 R hc ⟨rfl,rfl⟩ kR
     simp only [gName]
     refine ⟨_,rfl,_,rfl,q,_,rfl,.inl (SqL.of hq4),rfl,flat_strs ns,_,rfl,?_⟩
     simp only [if_true]
     rw [inV_str]
     have et:abc.cps.toList.take (i+1)=abc.cps.toList.take i++[c]:=by
      rw [List.take_add_one,show abc.cps.toList[i]?=some c by simpa using hc];rfl
     have ef:((abc.cps.toList.take (i+1)).filter fun c=>decide (one c ∉ ns))=((abc.cps.toList.take i).filter fun c=>decide (one c ∉ ns))++(if one c∈ns then [] else [c]):=by
      rw [et,List.filter_append]
      by_cases h:one c∈ns<;>simp [h]
     by_cases h:one c∈ns
     ·rw [decide_eq_true h]
      refine iteF (kR _ _ ⟨rfl,?_⟩)
      rw [ef,if_pos h,List.append_nil]
     ·rw [decide_eq_false h]
      refine iteT ⟨_,rfl,kR _ _ ⟨rfl,?_⟩⟩
      rw [ef,if_neg h]
      simp
    ·rintro ys H5 ⟨rfl,rfl⟩ D1 hD1
     have all:abc.cps.toList.take abc.cps.size=abc.cps.toList:=List.take_of_length_le (by simp)
     rw [all]
     obtain ⟨b5,hp5⟩:=b04.laid (o:=.lst (((abc.cps.toList.filter fun c=>decide (one c ∉ ns)).map one).map V.str)) hD1 hp4
     have hD2:=upd_same (H:=H5) (a:=D1) (o:=.lst (((abc.cps.toList.filter fun c=>decide (one c ∉ ns)).map one).map V.str))
     have hq5:=(same_upd (o:=.lst (((abc.cps.toList.filter fun c=>decide (one c ∉ ns)).map one).map V.str)) hD1) _ _ hq4
     cases ef:abc.cps.toList.filter fun c=>decide (one c ∉ ns) with
     | nil =>
      exfalso
      have h:=pigeon _ ns abc_nd fun x hx=>by
       obtain ⟨c,hc,rfl⟩:=List.mem_map.mp hx
       have:=List.filter_eq_nil_iff.mp ef c hc
       simpa using this
      rw [List.length_map,Array.length_toList,abc_size] at h
      omega
     | cons c r =>
      rw [ef] at b5 hp5 hD2 hq5
      have hc:c∈abc.cps.toList.filter fun c=>decide (one c ∉ ns):=by rw [ef];exact List.mem_cons_self
      obtain ⟨m1,m2⟩:=List.mem_filter.mp hc
      refine ⟨D1,_,_,_,rfl,rfl,SqL.of hD2,atI_nat (j:=0) rfl,?_⟩
      refine ⟨_,rfl,.inl ⟨rfl,_,SqL.of hq5⟩,_,rfl,q,_,_,rfl,rfl,hq5,(by rw [List.length_map];exact sml),?_⟩
      exact ⟨_,_,_,ns++[one c],rfl,fin (one c) _ (nm_one (abc_ok c m1)) (by simpa using m2) hp5 b5 hq5⟩
   ·refine ⟨_,rfl,.inl ⟨rfl,_,SqL.of hq4⟩,_,rfl,q,_,_,rfl,rfl,hq4,(by rw [List.length_map];exact sml),?_⟩
    exact ⟨_,_,_,ns++[z0],rfl,fin z0 _ hz (by simpa using hin) hp4 b04 hq4⟩
  ·rintro σ H2 ⟨v4,v5,v6,ns,rfl,hp2,b2,hq2,hl,hn,nd⟩
   have el:ns.length=n:=by rw [hl];simp
   exact ⟨_,rfl,k q ns H2 ⟨by omega,by omega,hn,nd⟩ (by omega) hq hq2 hp2 b2⟩
end
end K75
namespace L2
open PySem PySem.Spec PyProof.Rows
section
variable {prog:Program} {w:World} {A:Around} {E:Value->Shared->Prop} {s:Shared} {src:Array Keyed} {kd:SortKind} {κ:PyProof.Rows.KeyKind}
abbrev ky (κ:PyProof.Rows.KeyKind) (st:SortSt) (i:Nat):κ.α:=KK κ (arrOf st) i
structure Ended (src:Array Keyed) (κ:PyProof.Rows.KeyKind) (st:SortSt):Prop where
 pm:(arrOf st).Perm src
 fl:failedOf st=none
 pn:(pendingOf st).size=1
 up:SortedToK κ (arrOf st) src.size
end
abbrev SM (α:Type):=StateT SortSt Sem α
def ltBundle:(el:Array Keyed->Nat->SM Keyed) ×' (lt:Keyed->Keyed->SM (Option Bool)) ×' (∀ i j,ltAt' i j=(do let s <- get;let x <- el (arrOf s) i;let y <- el (arrOf s) j;lt x y)):=⟨_,_,fun _ _=>rfl⟩
def elemP:Array Keyed->Nat->SM Keyed:=ltBundle.1
def ltP:Keyed->Keyed->SM (Option Bool):=ltBundle.2.1
theorem ltAt_eq (i j:Nat):ltAt' i j=(do let s <- get;let x <- elemP (arrOf s) i;let y <- elemP (arrOf s) j;ltP x y):=ltBundle.2.2 i j
section
variable {M:Model} {A:Around} {E:Value->Shared->Prop} {s:Shared}
theorem elem_ok {arr:Array Keyed} {i:Nat} {Q:Keyed->SortSt->Prop} {st:SortSt} (h:i < arr.size) (q:Q arr[i] st):wpS M A E s (elemP arr i) Q st:=by
 show wpS M A E s (match arr[i]? with | some x=>pure x | none=>liftM (PySem.unsupported "internal:list.sort.index")) Q st
 rw [Array.getElem?_eq_getElem h]
 exact wpS_pure q
theorem lt_run {st:SortSt} {i j:Nat} (hi:i < (arrOf st).size) (hj:j < (arrOf st).size) {Q:Option Bool->SortSt->Prop} (h:wpS M A E s (ltAt' i j) Q st):wpS M A E s (ltP (arrOf st)[i] (arrOf st)[j]) Q st:=by
 rw [ltAt_eq] at h
 have e1:∀ (k:Nat) (hk:k < (arrOf st).size),elemP (arrOf st) k=pure (arrOf st)[k]:=fun k hk=>by
  show (match (arrOf st)[k]? with | some x=>pure x | none=>liftM (PySem.unsupported "internal:list.sort.index"))=_
  rw [Array.getElem?_eq_getElem hk]
 have e2:(do let s <- get;let x <- elemP (arrOf s) i;let y <- elemP (arrOf s) j;ltP x y:SM (Option Bool)).run st=(ltP (arrOf st)[i] (arrOf st)[j]).run st:=by
  show (do let x <- elemP (arrOf st) i;let y <- elemP (arrOf st) j;ltP x y:SM (Option Bool)).run st=_
  rw [e1 i hi,e1 j hj]
  rfl
 unfold wpS at h ⊢
 rw [e2] at h
 exact h
end
def putM (sa:Nat) (merged:Array Keyed) (s:SortSt):SortSt:=setArr s (List.foldl (fun a x=>match x with | (p,j)=>a.setIfInBounds (sa+j) p) (arrOf s) merged.toList.zipIdx)
def mgSkel (gal:Bool->Keyed->Array Keyed->Nat->Nat->Nat->SM (Option Nat)) (lo hi:Array Keyed->Array Keyed->SM (Array Keyed)) (i:Nat):SM Bool:=do
 let s <- get
 match ((pendingOf s)[i]?,(pendingOf s)[i+1]?) with
 | (some (sa,na,power),some (sb,nb,_))=>do
  set (setPending s (((pendingOf s).setIfInBounds i (sa,na+nb,power)).eraseIdxIfInBounds (i+1)))
  let key <- elemP (arrOf s) sb
  let x <- gal false key (arrOf s) sa na 0
  match x with
  | some k =>
   match (sa+k,na - k) with
   | (sa,na) =>
    if (na == 0)=true then pure true
    else do
     let key2 <- elemP (arrOf s) (sa+na - 1)
     let y <- gal true key2 (arrOf s) sb nb (nb - 1)
     match y with
     | some nb =>
      if (nb == 0)=true then pure true
      else
       if na<=nb then do
        let m <- lo ((arrOf s).extract sa sb) ((arrOf s).extract sb (sb+nb))
        modify (putM sa m)
        let z <- get
        pure (failedOf z).isNone
       else do
        let m <- hi ((arrOf s).extract sa sb) ((arrOf s).extract sb (sb+nb))
        modify (putM sa m)
        let z <- get
        pure (failedOf z).isNone
     | _=>pure false
  | _=>pure false
 | _=>liftM (PySem.unsupported "internal:list.sort.pending")
def mgBundle:(gal:Bool->Keyed->Array Keyed->Nat->Nat->Nat->SM (Option Nat)) ×' (lo:Array Keyed->Array Keyed->SM (Array Keyed)) ×' (hi:Array Keyed->Array Keyed->SM (Array Keyed)) ×' (∀ i,mergeAt' i=mgSkel gal lo hi i):=⟨_,_,_,fun _=>rfl⟩
def galP:Bool->Keyed->Array Keyed->Nat->Nat->Nat->SM (Option Nat):=mgBundle.1
def loP:Array Keyed->Array Keyed->SM (Array Keyed):=mgBundle.2.1
def hiP:Array Keyed->Array Keyed->SM (Array Keyed):=mgBundle.2.2.1
theorem merge_eq (i:Nat):mergeAt' i=mgSkel galP loP hiP i:=mgBundle.2.2.2 i
def beyond (left:Bool) (key:Keyed) (arr:Array Keyed) (base i:Nat):SM (Option Bool):=do
 let x <- elemP arr (base+i)
 if left=true then ltP x key
 else do
  let r <- ltP key x
  pure (Option.map (fun x=>!x) r)
def galFin (left:Bool) (key:Keyed) (arr:Array Keyed) (base n lo hi:Nat):SM (Option Nat):=do
 let s <- forIn [:n] ((none:Option (Option Nat)),lo,hi) fun _ s =>
  if s.2.1 ≥ s.2.2 then pure (ForInStep.done (none,s.2.1,s.2.2))
  else do
   let x <- beyond left key arr base (s.2.1+(s.2.2 - s.2.1) / 2)
   match x with
   | some more=>if more=true then pure (ForInStep.yield (none,s.2.1+(s.2.2 - s.2.1) / 2+1,s.2.2)) else pure (ForInStep.yield (none,s.2.1,s.2.1+(s.2.2 - s.2.1) / 2))
   | _=>pure (ForInStep.done (some none,s.2.1,s.2.2))
 match s.1 with
 | some r=>pure r
 | none=>pure (some s.2.2)
theorem gal_eq (left:Bool) (key:Keyed) (arr:Array Keyed) (base n hint:Nat):galP left key arr base n hint=(do
  let x <- beyond left key arr base hint
  match x with
  | some right =>
   if right=true then do
    let s <- forIn [:n] ((none:Option (Option Nat)),0,1) fun _ s =>
     if s.2.2 ≥ n - hint then pure (ForInStep.done (none,s.2.1,s.2.2))
     else do
      let x <- beyond left key arr base (hint+s.2.2)
      match x with
      | some more=>if (!more)=true then pure (ForInStep.done (none,s.2.1,s.2.2)) else pure (ForInStep.yield (none,s.2.2,2 * s.2.2+1))
      | _=>pure (ForInStep.done (some none,s.2.1,s.2.2))
    match s.1 with
    | some r=>pure r
    | none=>galFin left key arr base n (hint+s.2.1+1) (hint+min s.2.2 (n - hint))
   else do
    let s <- forIn [:n] ((none:Option (Option Nat)),0,1) fun _ s =>
     if s.2.2 ≥ hint+1 then pure (ForInStep.done (none,s.2.1,s.2.2))
     else do
      let x <- beyond left key arr base (hint - s.2.2)
      match x with
      | some found=>if found=true then pure (ForInStep.done (none,s.2.1,s.2.2)) else pure (ForInStep.yield (none,s.2.2,2 * s.2.2+1))
      | _=>pure (ForInStep.done (some none,s.2.1,s.2.2))
    match s.1 with
    | some r=>pure r
    | none=>galFin left key arr base n (hint+1 - min s.2.2 (hint+1)) (hint - s.2.1)
  | _=>pure none):=by kernel_rfl
structure OkS (src:Array Keyed) (kd:SortKind) (st:SortSt):Prop where
 pm:(arrOf st).Perm src
 kn:kindOf st=kd
 fl:failedOf st=none
section
variable {prog:Program} {w:World} {A:Around} {E:Value->Shared->Prop} {s:Shared} {src:Array Keyed} {kd:SortKind} {κ:PyProof.Rows.KeyKind}
theorem OkS.len {st:SortSt} (q:OkS src kd st):(arrOf st).size=src.size:=q.pm.size_eq
abbrev kof (κ:PyProof.Rows.KeyKind) (x:Keyed):κ.α:=(κ.keyOf x.1).getD κ.dflt
theorem KK_at {xs:Array Keyed} {i:Nat} (h:i < xs.size):KK κ xs i=kof κ xs[i]:=by
 unfold KK
 rw [Array.getElem?_eq_getElem h]
def CmpS (prog:Program) (w:World) (A:Around) (E:Value->Shared->Prop) (s:Shared) (src:Array Keyed) (kd:SortKind) (κ:PyProof.Rows.KeyKind):Prop :=
 ∀ (st:SortSt) (i j:Nat) (R:Option Bool->SortSt->Prop),OkS src kd st->i < src.size->j < src.size->R (some (κ.blt (ky κ st i) (ky κ st j))) st->wpS (model prog w) A E s (ltAt' i j) R st
theorem lt_ok {st:SortSt} {x y:Keyed} {R:Option Bool->SortSt->Prop} (C:CmpS prog w A E s src kd κ) (q:OkS src kd st) (hx:x∈arrOf st) (hy:y∈arrOf st) (h:R (some (κ.blt (kof κ x) (kof κ y))) st):wpS (model prog w) A E s (ltP x y) R st:=by
 obtain ⟨i,hi,rfl⟩:=Array.getElem_of_mem hx
 obtain ⟨j,hj,rfl⟩:=Array.getElem_of_mem hy
 refine lt_run hi hj (C st i j R q (by rw [<- q.len];exact hi) (by rw [<- q.len];exact hj) ?_)
 show R (some (κ.blt (KK κ (arrOf st) i) (KK κ (arrOf st) j))) st
 rw [KK_at hi,KK_at hj]
 exact h
def Sub (arr:Array Keyed) (st:SortSt):Prop:=∀ x∈arr,x∈arrOf st
def bey (κ:PyProof.Rows.KeyKind) (left:Bool) (key:Keyed) (arr:Array Keyed) (base i:Nat):Bool:=if left=true then κ.blt (KK κ arr (base+i)) (kof κ key) else !κ.blt (kof κ key) (KK κ arr (base+i))
theorem bey_ok {st:SortSt} {left:Bool} {key:Keyed} {arr:Array Keyed} {base i:Nat} {R:Option Bool->SortSt->Prop} (C:CmpS prog w A E s src kd κ) (q:OkS src kd st) (hk:key∈arrOf st) (sub:Sub arr st) (hi:base+i < arr.size) (h:R (some (bey κ left key arr base i)) st) :
  wpS (model prog w) A E s (beyond left key arr base i) R st:=by
 unfold beyond
 refine wpS_bind (elem_ok hi ?_)
 have hm:=sub _ (Array.getElem_mem hi)
 unfold bey at h
 rw [KK_at hi] at h
 cases left with
 | true=>exact lt_ok C q hm hk h
 | false=>exact wpS_bind (lt_ok C q hk hm (wpS_pure h))
structure Spot (f:Nat->Bool) (n k:Nat):Prop where
 le:k<=n
 lo:∀ i,i < k->f i=true
 hi:∀ i,k<=i->i < n->f i=false
theorem fin_ok {st:SortSt} {left:Bool} {key:Keyed} {arr:Array Keyed} {base n lo hi:Nat} {R:Option Nat->SortSt->Prop} (C:CmpS prog w A E s src kd κ) (q:OkS src kd st) (hk:key∈arrOf st) (sub:Sub arr st) (hn:base+n<=arr.size)
  (mono:∀ i j,i<=j->j < n->bey κ left key arr base j=true->bey κ left key arr base i=true) (lh:lo<=hi) (hhn:hi<=n) (low:∀ i,i < lo->bey κ left key arr base i=true) (high:∀ i,hi<=i->i < n->bey κ left key arr base i=false)
  (h:∀ k,Spot (bey κ left key arr base) n k->R (some k) st):wpS (model prog w) A E s (galFin left key arr base n lo hi) R st:=by
 unfold galFin
 refine wpS_bind (wpS_mono (wpS_forRange (I:=fun x c t=>t=st/\∃ l r,c=(none,l,r)/\l<=r/\r<=n/\r<=l+(n - x)/\(∀ i,i < l->bey κ left key arr base i=true)/\∀ i,r<=i->i < n->bey κ left key arr base i=false)
  (Q:=fun c t=>t=st/\∃ k,c=(none,k,k)/\Spot (bey κ left key arr base) n k) (fun x c t _ xn z=>?_) (fun c t z=>?_) ⟨rfl,lo,hi,rfl,lh,hhn,by omega,low,high⟩) fun c t z=>?_)
 ·obtain ⟨rfl,l,r,rfl,lr,rn,gap,lo',hi'⟩:=z
  dsimp only
  by_cases met:l ≥ r
  ·rw [if_pos met]
   obtain rfl:l=r:=by omega
   exact wpS_pure ⟨rfl,l,rfl,rn,lo',hi'⟩
  ·rw [if_neg met]
   refine wpS_bind (bey_ok C q hk sub (by omega) ?_)
   generalize hm:l+(r - l) / 2=m
   have m1:l<=m:=by omega
   have m2:m < r:=by omega
   cases e:bey κ left key arr base m with
   | true=>exact wpS_pure ⟨rfl,m+1,r,rfl,by omega,rn,by omega,fun i hi2=>mono i m (by omega) (by omega) e,hi'⟩
   | false =>
    refine wpS_pure ⟨rfl,l,m,rfl,m1,by omega,by omega,lo',fun i h1 h2=>?_⟩
    cases e2:bey κ left key arr base i with
    | false=>rfl
    | true=>rw [mono m i h1 h2 e2] at e;cases e
 ·obtain ⟨rfl,l,r,rfl,lr,rn,gap,lo',hi'⟩:=z
  obtain rfl:l=r:=by omega
  exact ⟨rfl,l,rfl,rn,lo',hi'⟩
 ·obtain ⟨rfl,k,rfl,sp⟩:=z
  exact wpS_pure (h k sp)
theorem gal_ok {st:SortSt} {left:Bool} {key:Keyed} {arr:Array Keyed} {base n hint:Nat} {R:Option Nat->SortSt->Prop} (C:CmpS prog w A E s src kd κ) (q:OkS src kd st) (hk:key∈arrOf st) (sub:Sub arr st) (hn:base+n<=arr.size) (hh:hint < n)
  (mono:∀ i j,i<=j->j < n->bey κ left key arr base j=true->bey κ left key arr base i=true)
  (h:∀ k,Spot (bey κ left key arr base) n k->R (some k) st):wpS (model prog w) A E s (galP left key arr base n hint) R st:=by
 rw [gal_eq]
 have anti:∀ i j,i<=j->j < n->bey κ left key arr base i=false->bey κ left key arr base j=false:=fun i j h1 h2 e=>by
  cases e2:bey κ left key arr base j with
  | false=>rfl
  | true=>rw [mono i j h1 h2 e2] at e;cases e
 refine wpS_bind (bey_ok C q hk sub (by omega) ?_)
 dsimp only
 cases e:bey κ left key arr base hint with
 | true =>
  rw [if_pos rfl]
  refine wpS_bind (wpS_mono (wpS_forRange (I:=fun x c t=>t=st/\∃ l o,c=(none,l,o)/\l < o/\x+1<=o/\hint+l < n/\bey κ left key arr base (hint+l)=true)
   (Q:=fun c t=>t=st/\∃ l o,c=(none,l,o)/\l < o/\hint+l < n/\bey κ left key arr base (hint+l)=true/\(n - hint<=o\/(hint+o < n/\bey κ left key arr base (hint+o)=false))) (fun x c t _ xn z=>?_) (fun c t z=>?_) ⟨rfl,0,1,rfl,by omega,by omega,by omega,e⟩) fun c t z=>?_)
  ·obtain ⟨rfl,l,o,rfl,lo,xo,hl,el⟩:=z
   dsimp only
   by_cases far:o ≥ n - hint
   ·rw [if_pos far]
    exact wpS_pure ⟨rfl,l,o,rfl,lo,hl,el,.inl far⟩
   ·rw [if_neg far]
    refine wpS_bind (bey_ok C q hk sub (by omega) ?_)
    cases e2:bey κ left key arr base (hint+o) with
    | true=>exact wpS_pure ⟨rfl,o,2 * o+1,rfl,by omega,by omega,by omega,e2⟩
    | false=>exact wpS_pure ⟨rfl,l,o,rfl,lo,hl,el,.inr ⟨by omega,e2⟩⟩
  ·obtain ⟨rfl,l,o,rfl,lo,xo,hl,el⟩:=z
   exact ⟨rfl,l,o,rfl,lo,hl,el,.inl (by omega)⟩
  ·obtain ⟨rfl,l,o,rfl,lo,hl,el,end'⟩:=z
   dsimp only
   refine fin_ok C q hk sub hn mono (by omega) (by omega) (fun i hi=>mono i (hint+l) (by omega) hl el) (fun i h1 h2=>?_) h
   rcases end' with f | ⟨f1,f2⟩
   ·omega
   ·exact anti (hint+o) i (by omega) h2 f2
 | false =>
  rw [if_neg Bool.false_ne_true]
  refine wpS_bind (wpS_mono (wpS_forRange (I:=fun x c t=>t=st/\∃ l o,c=(none,l,o)/\l < o/\x+1<=o/\l<=hint/\bey κ left key arr base (hint - l)=false)
   (Q:=fun c t=>t=st/\∃ l o,c=(none,l,o)/\l < o/\l<=hint/\bey κ left key arr base (hint - l)=false/\(hint+1<=o\/(o<=hint/\bey κ left key arr base (hint - o)=true))) (fun x c t _ xn z=>?_) (fun c t z=>?_) ⟨rfl,0,1,rfl,by omega,by omega,by omega,e⟩) fun c t z=>?_)
  ·obtain ⟨rfl,l,o,rfl,lo,xo,hl,el⟩:=z
   dsimp only
   by_cases far:o ≥ hint+1
   ·rw [if_pos far]
    exact wpS_pure ⟨rfl,l,o,rfl,lo,hl,el,.inl far⟩
   ·rw [if_neg far]
    refine wpS_bind (bey_ok C q hk sub (by omega) ?_)
    cases e2:bey κ left key arr base (hint - o) with
    | true=>exact wpS_pure ⟨rfl,l,o,rfl,lo,hl,el,.inr ⟨by omega,e2⟩⟩
    | false=>exact wpS_pure ⟨rfl,o,2 * o+1,rfl,by omega,by omega,by omega,e2⟩
  ·obtain ⟨rfl,l,o,rfl,lo,xo,hl,el⟩:=z
   exact ⟨rfl,l,o,rfl,lo,hl,el,.inl (by omega)⟩
  ·obtain ⟨rfl,l,o,rfl,lo,hl,el,end'⟩:=z
   dsimp only
   refine fin_ok C q hk sub hn mono (by omega) (by omega) (fun i hi=>?_) (fun i h1 h2=>anti (hint - l) i (by omega) h2 el) h
   rcases end' with f | ⟨f1,f2⟩
   ·omega
   ·exact mono i (hint - o) (by omega) (by omega) f2
end
section
variable {κ:PyProof.Rows.KeyKind}
def kl (κ:PyProof.Rows.KeyKind) (x y:Keyed):Prop:=κ.kle (kof κ x) (kof κ y)
theorem kl_trans {x y z:Keyed} (h:kl κ x y) (k:kl κ y z):kl κ x z:=KeyOrd.kle_trans h k
theorem kl_of_lt {x y:Keyed} (h:κ.blt (kof κ x) (kof κ y)=true):kl κ x y:=KeyOrd.kle_of_klt h
theorem kl_of_not {x y:Keyed} (h:κ.blt (kof κ x) (kof κ y)=false):kl κ y x:=h
theorem drop_head {l:List Keyed} {i:Nat} (h:i < l.length):l.drop i=l[i]::l.drop (i+1):=List.drop_eq_getElem_cons h
theorem head_le {l:List Keyed} {i:Nat} {x:Keyed} (pw:(l.drop i).Pairwise (kl κ)) (h:i < l.length) (hx:kl κ x l[i]):∀ y∈l.drop i,kl κ x y:=by
 rw [drop_head h] at pw ⊢
 intro y hy
 rcases List.mem_cons.mp hy with rfl | hy
 ·exact hx
 ·exact kl_trans hx ((List.pairwise_cons.mp pw).1 y hy)
theorem last_ge {l:List Keyed} {i:Nat} {x:Keyed} (pw:(l.take (i+1)).Pairwise (kl κ)) (h:i < l.length) (hx:kl κ l[i] x):∀ y∈l.take (i+1),kl κ y x:=by
 rw [List.take_succ_eq_append_getElem h] at pw ⊢
 intro y hy
 rcases List.mem_append.mp hy with hy | hy
 ·exact kl_trans ((List.pairwise_append.mp pw).2.2 y hy l[i] (List.mem_singleton.mpr rfl)) hx
 ·rw [List.mem_singleton.mp hy];exact hx
structure MI (κ:PyProof.Rows.KeyKind) (a b out:List Keyed) (ia ib:Nat):Prop where
 pm:(out++a.drop ia++b.drop ib).Perm (a++b)
 s1:(out++a.drop ia).Pairwise (kl κ)
 s2:(out++b.drop ib).Pairwise (kl κ)
theorem MI.start {a b:List Keyed} (sa:a.Pairwise (kl κ)) (sb:b.Pairwise (kl κ)):MI κ a b [] 0 0:=⟨by simp,by simpa using sa,by simpa using sb⟩
theorem MI.takeA {a b out:List Keyed} {ia ib k:Nat} (h:MI κ a b out ia ib) (le:∀ x∈(a.drop ia).take k,∀ y∈b.drop ib,kl κ x y):MI κ a b (out++(a.drop ia).take k) (ia+k) ib:=by
 have e:out++(a.drop ia).take k++a.drop (ia+k)=out++a.drop ia:=by
  rw [<- List.drop_drop,List.append_assoc,List.take_append_drop]
 refine ⟨by rw [e];exact h.pm,by rw [e];exact h.s1,?_⟩
 have p1:=List.pairwise_append.mp h.s1
 have p2:=List.pairwise_append.mp h.s2
 refine List.pairwise_append.mpr ⟨List.pairwise_append.mpr ⟨p1.1,p1.2.1.sublist (List.take_sublist _ _),fun x hx y hy=>p1.2.2 x hx y (List.mem_of_mem_take hy)⟩,p2.2.1,fun x hx y hy=>?_⟩
 rcases List.mem_append.mp hx with q | q
 ·exact p2.2.2 x q y hy
 ·exact le x q y hy
theorem MI.takeB {a b out:List Keyed} {ia ib k:Nat} (h:MI κ a b out ia ib) (le:∀ x∈(b.drop ib).take k,∀ y∈a.drop ia,kl κ x y):MI κ a b (out++(b.drop ib).take k) ia (ib+k):=by
 have e:out++(b.drop ib).take k++b.drop (ib+k)=out++b.drop ib:=by
  rw [<- List.drop_drop,List.append_assoc,List.take_append_drop]
 refine ⟨?_,?_,by rw [e];exact h.s2⟩
 ·refine List.Perm.trans ?_ h.pm
  have e2:b.drop ib=(b.drop ib).take k++b.drop (ib+k):=by rw [<- List.drop_drop,List.take_append_drop]
  have:(out++(b.drop ib).take k++a.drop ia++b.drop (ib+k)).Perm (out++a.drop ia++((b.drop ib).take k++b.drop (ib+k))):=by
   rw [List.append_assoc,List.append_assoc,List.append_assoc]
   refine List.Perm.append_left _ ?_
   rw [<- List.append_assoc,<- List.append_assoc]
   exact List.Perm.append_right _ List.perm_append_comm
  rw [<- e2] at this
  exact this
 ·have p1:=List.pairwise_append.mp h.s1
  have p2:=List.pairwise_append.mp h.s2
  refine List.pairwise_append.mpr ⟨List.pairwise_append.mpr ⟨p2.1,p2.2.1.sublist (List.take_sublist _ _),fun x hx y hy=>p2.2.2 x hx y (List.mem_of_mem_take hy)⟩,p1.2.1,fun x hx y hy=>?_⟩
  rcases List.mem_append.mp hx with q | q
  ·exact p1.2.2 x q y hy
  ·exact le x q y hy
theorem MI.sa {a b out:List Keyed} {ia ib:Nat} (h:MI κ a b out ia ib):(a.drop ia).Pairwise (kl κ):=(List.pairwise_append.mp h.s1).2.1
theorem MI.sb {a b out:List Keyed} {ia ib:Nat} (h:MI κ a b out ia ib):(b.drop ib).Pairwise (kl κ):=(List.pairwise_append.mp h.s2).2.1
structure Mgd (κ:PyProof.Rows.KeyKind) (a b r:List Keyed):Prop where
 pm:r.Perm (a++b)
 up:r.Pairwise (kl κ)
theorem MI.endB {a b out:List Keyed} {ia ib:Nat} (h:MI κ a b out ia ib) (e:b.length<=ib):Mgd κ a b (out++a.drop ia++b.drop ib):=by
 refine ⟨h.pm,?_⟩
 rw [List.drop_eq_nil_of_le e,List.append_nil]
 exact h.s1
theorem MI.endA {a b out:List Keyed} {ia ib:Nat} (h:MI κ a b out ia ib) (e:a.length<=ia):Mgd κ a b (out++a.drop ia++b.drop ib):=by
 refine ⟨h.pm,?_⟩
 rw [List.drop_eq_nil_of_le e,List.append_nil]
 exact h.s2
theorem MI.last {a b out:List Keyed} {ia ib:Nat} (h:MI κ a b out ia ib) (le:∀ x∈b,∀ y∈a.drop ia,kl κ x y):Mgd κ a b (out++b.drop ib++a.drop ia):=by
 have p1:=List.pairwise_append.mp h.s1
 refine ⟨List.Perm.trans ?_ h.pm,List.pairwise_append.mpr ⟨h.s2,p1.2.1,fun x hx y hy=>?_⟩⟩
 ·rw [List.append_assoc,List.append_assoc]
  exact List.Perm.append_left _ List.perm_append_comm
 ·rcases List.mem_append.mp hx with q | q
  ·exact p1.2.2 x q y hy
  ·exact le x (List.mem_of_mem_drop q) y hy
structure MJ (κ:PyProof.Rows.KeyKind) (a b out:List Keyed) (na nb:Nat):Prop where
 pm:(a.take na++b.take nb++out).Perm (a++b)
 s1:(a.take na++out).Pairwise (kl κ)
 s2:(b.take nb++out).Pairwise (kl κ)
theorem MJ.start {a b:List Keyed} (sa:a.Pairwise (kl κ)) (sb:b.Pairwise (kl κ)):MJ κ a b [] a.length b.length:=⟨by simp,by simpa using sa,by simpa using sb⟩
theorem take_split {l:List Keyed} {i n:Nat} (h:i<=n):l.take n=l.take i++(l.take n).drop i:=by
 have:l.take i=(l.take n).take i:=by rw [List.take_take,Nat.min_eq_left h]
 rw [this,List.take_append_drop]
theorem MJ.takeA {a b out:List Keyed} {na nb i:Nat} (h:MJ κ a b out na nb) (hi:i<=na) (le:∀ x∈b.take nb,∀ y∈(a.take na).drop i,kl κ x y):MJ κ a b ((a.take na).drop i++out) i nb:=by
 have e:a.take i++((a.take na).drop i++out)=a.take na++out:=by rw [<- List.append_assoc,<- take_split hi]
 have p1:=List.pairwise_append.mp h.s1
 have p2:=List.pairwise_append.mp h.s2
 refine ⟨List.Perm.trans ?_ h.pm,by rw [e];exact h.s1,?_⟩
 ·rw [List.append_assoc,List.append_assoc]
  conv=>rhs;rw [take_split (l:=a) hi,List.append_assoc]
  refine List.Perm.append_left _ ?_
  rw [<- List.append_assoc,<- List.append_assoc]
  exact List.Perm.append_right _ List.perm_append_comm
 ·refine List.pairwise_append.mpr ⟨p2.1,List.pairwise_append.mpr ⟨p1.1.sublist (List.drop_sublist _ _),p1.2.1,fun x hx y hy=>p1.2.2 x (List.mem_of_mem_drop hx) y hy⟩,fun x hx y hy=>?_⟩
  rcases List.mem_append.mp hy with q | q
  ·exact le x hx y q
  ·exact p2.2.2 x hx y q
theorem MJ.takeB {a b out:List Keyed} {na nb i:Nat} (h:MJ κ a b out na nb) (hi:i<=nb) (le:∀ x∈a.take na,∀ y∈(b.take nb).drop i,kl κ x y):MJ κ a b ((b.take nb).drop i++out) na i:=by
 have e:b.take i++((b.take nb).drop i++out)=b.take nb++out:=by rw [<- List.append_assoc,<- take_split hi]
 have p1:=List.pairwise_append.mp h.s1
 have p2:=List.pairwise_append.mp h.s2
 refine ⟨List.Perm.trans (List.Perm.of_eq ?_) h.pm,?_,by rw [e];exact h.s2⟩
 ·rw [List.append_assoc,e,<- List.append_assoc]
 ·refine List.pairwise_append.mpr ⟨p1.1,List.pairwise_append.mpr ⟨p2.1.sublist (List.drop_sublist _ _),p2.2.1,fun x hx y hy=>p2.2.2 x (List.mem_of_mem_drop hx) y hy⟩,fun x hx y hy=>?_⟩
  rcases List.mem_append.mp hy with q | q
  ·exact le x hx y q
  ·exact p1.2.2 x hx y q
theorem MJ.sa {a b out:List Keyed} {na nb:Nat} (h:MJ κ a b out na nb):(a.take na).Pairwise (kl κ):=(List.pairwise_append.mp h.s1).1
theorem MJ.sb {a b out:List Keyed} {na nb:Nat} (h:MJ κ a b out na nb):(b.take nb).Pairwise (kl κ):=(List.pairwise_append.mp h.s2).1
theorem MJ.endA {a b out:List Keyed} {na nb:Nat} (h:MJ κ a b out na nb) (e:na=0):Mgd κ a b (a.take na++b.take nb++out):=by
 subst e
 exact ⟨h.pm,by simpa using h.s2⟩
theorem MJ.endB {a b out:List Keyed} {na nb:Nat} (h:MJ κ a b out na nb) (e:nb=0):Mgd κ a b (a.take na++b.take nb++out):=by
 subst e
 exact ⟨h.pm,by simpa using h.s1⟩
theorem MJ.first {a b out:List Keyed} {na nb:Nat} (h:MJ κ a b out na nb) (le:∀ x∈b.take nb,∀ y∈a,kl κ x y):Mgd κ a b (b.take nb++a.take na++out):=by
 have p2:=List.pairwise_append.mp h.s2
 refine ⟨List.Perm.trans (List.Perm.append_right _ List.perm_append_comm) h.pm,?_⟩
 rw [List.append_assoc]
 refine List.pairwise_append.mpr ⟨p2.1,h.s1,fun x hx y hy=>?_⟩
 rcases List.mem_append.mp hy with q | q
 ·exact le x hx y (List.mem_of_mem_take q)
 ·exact p2.2.2 x hx y q
end
structure Kp (st t:SortSt):Prop where
 ar:arrOf t=arrOf st
 kn:kindOf t=kindOf st
 pn:pendingOf t=pendingOf st
 fl:failedOf t=failedOf st
theorem Kp.refl (st:SortSt):Kp st st:=⟨rfl,rfl,rfl,rfl⟩
section
variable {prog:Program} {w:World} {A:Around} {E:Value->Shared->Prop} {s:Shared} {src:Array Keyed} {kd:SortKind} {κ:PyProof.Rows.KeyKind}
theorem Kp.ok {st t:SortSt} (k:Kp st t) (q:OkS src kd st):OkS src kd t:=⟨by rw [k.ar];exact q.pm,by rw [k.kn];exact q.kn,by rw [k.fl];exact q.fl⟩
theorem Kp.sub {st t:SortSt} {a:Array Keyed} (k:Kp st t) (q:Sub a st):Sub a t:=fun x hx=>by rw [k.ar];exact q x hx
theorem Kp.trans {r t u:SortSt} (a:Kp r t) (b:Kp t u):Kp r u:=⟨b.ar.trans a.ar,b.kn.trans a.kn,b.pn.trans a.pn,b.fl.trans a.fl⟩
theorem mod_gal {M:Model} {A:Around} {E:Value->Shared->Prop} {s:Shared} {f:SortSt->SortSt} {Q:PUnit->SortSt->Prop} {st:SortSt} (hf:Kp st (f st)) (h:∀ t,Kp st t->Q PUnit.unit t):wpS M A E s (modify f) Q st:=wpS_modify (h _ hf)
theorem ite_wp {α:Type} {c:Prop} [Decidable c] {x y:SM α} {M:Model} {A:Around} {E:Value->Shared->Prop} {s:Shared} {Q:α->SortSt->Prop} {st:SortSt} (h1:c->wpS M A E s x Q st) (h2:¬ c->wpS M A E s y Q st):wpS M A E s (if c then x else y) Q st:=by
 split
 ·exact h1 (by assumption)
 ·exact h2 (by assumption)
theorem mem_td {l:List Keyed} {i k:Nat} {x:Keyed} (h:x∈(l.drop i).take k):∃ t,t < k/\∃ hh:i+t < l.length,x=l[i+t]:=by
 obtain ⟨t,ht,e⟩:=List.getElem_of_mem h
 rw [List.length_take,List.length_drop] at ht
 refine ⟨t,by omega,by omega,?_⟩
 rw [<- e,List.getElem_take,List.getElem_drop]
theorem up_at {l:List Keyed} {i j:Nat} (pw:l.Pairwise (kl κ)) (ij:i<=j) (hj:j < l.length):kl κ l[i] l[j]:=by
 rcases Nat.lt_or_ge i j with q | q
 ·exact List.pairwise_iff_getElem.mp pw i j (by omega) hj q
 ·have:i=j:=by omega
  subst this
  exact KeyOrd.kle_refl _
theorem gal_mono {left:Bool} {key:Keyed} {arr:Array Keyed} {base n:Nat} (pw:arr.toList.Pairwise (kl κ)) (hn:base+n<=arr.size):∀ i j,i<=j->j < n->bey κ left key arr base j=true->bey κ left key arr base i=true:=fun i j ij jn e=>by
 have k:=up_at pw (i:=base+i) (j:=base+j) (by omega) (by rw [Array.length_toList];omega)
 rw [Array.getElem_toList,Array.getElem_toList] at k
 unfold bey at e ⊢
 rw [KK_at (show base+i < arr.size by omega)]
 rw [KK_at (show base+j < arr.size by omega)] at e
 cases left with
 | true =>
  rw [if_pos rfl] at e ⊢
  exact KeyOrd.klt_of_kle_of_klt k e
 | false =>
  rw [if_neg Bool.false_ne_true] at e ⊢
  have e':κ.blt (kof κ key) (kof κ arr[base+j])=false:=by simpa using e
  have:κ.blt (kof κ key) (kof κ arr[base+i])=false:=KeyOrd.kle_trans k e'
  rw [this]
  rfl
theorem leapR {key:Keyed} {arr:Array Keyed} {base n k:Nat} (sp:Spot (bey κ false key arr base) n k) (hn:base+n<=arr.size):(∀ t (h:base+t < arr.size),t < k->kl κ arr[base+t] key)/\∀ t (h:base+t < arr.size),k<=t->t < n->κ.blt (kof κ key) (kof κ arr[base+t])=true:=by
 refine ⟨fun t h tk=>?_,fun t h kt tn=>?_⟩
 ·have:=sp.lo t tk
  unfold bey at this
  rw [if_neg Bool.false_ne_true,KK_at h] at this
  have e:κ.blt (kof κ key) (kof κ arr[base+t])=false:=by simpa using this
  exact e
 ·have:=sp.hi t kt tn
  unfold bey at this
  rw [if_neg Bool.false_ne_true,KK_at h] at this
  simpa using this
theorem leapL {key:Keyed} {arr:Array Keyed} {base n k:Nat} (sp:Spot (bey κ true key arr base) n k) (hn:base+n<=arr.size):(∀ t (h:base+t < arr.size),t < k->kl κ arr[base+t] key)/\(∀ t (h:base+t < arr.size),t < k->κ.blt (kof κ arr[base+t]) (kof κ key)=true)/\∀ t (h:base+t < arr.size),k<=t->t < n->kl κ key arr[base+t]:=by
 refine ⟨fun t h tk=>?_,fun t h tk=>?_,fun t h kt tn=>?_⟩
 ·have:=sp.lo t tk
  unfold bey at this
  rw [if_pos rfl,KK_at h] at this
  exact kl_of_lt this
 ·have:=sp.lo t tk
  unfold bey at this
  rw [if_pos rfl,KK_at h] at this
  exact this
 ·have:=sp.hi t kt tn
  unfold bey at this
  rw [if_pos rfl,KK_at h] at this
  exact kl_of_not this
theorem lo_ok {st:SortSt} {a b:Array Keyed} {R:Array Keyed->SortSt->Prop} (C:CmpS prog w A E s src kd κ) (q:OkS src kd st) (suba:Sub a st) (subb:Sub b st) (sa:a.toList.Pairwise (kl κ)) (sb:b.toList.Pairwise (kl κ)) (a1:1<=a.size) (b1:1<=b.size)
  (first:∀ y∈a,kl κ b[0] y) (last:∀ x∈b,kl κ x a[a.size - 1]) (h:∀ r t,Kp st t->Mgd κ a.toList b.toList r.toList->R r t):wpS (model prog w) A E s (loP a b) R st:=by
 have lA:a.toList.length=a.size:=Array.length_toList
 have lB:b.toList.length=b.size:=Array.length_toList
 have ext:∀ (x:Array Keyed) (i j:Nat),(x.extract i j).toList=(x.toList.drop i).take (j - i):=fun x i j=>by rw [Array.toList_extract,List.extract_eq_drop_take]
 have rest:∀ (x:Array Keyed) (i:Nat),(x.extract i).toList=x.toList.drop i:=fun x i=>by rw [ext,List.take_of_length_le (by rw [List.length_drop,Array.length_toList];omega)]
 have doneE:∀ (out:Array Keyed) (ia ib:Nat),(out++a.extract ia++b.extract ib).toList=out.toList++a.toList.drop ia++b.toList.drop ib:=fun out ia ib=>by rw [Array.toList_append,Array.toList_append,rest,rest]
 have lastE:∀ (out:Array Keyed) (ia ib:Nat),(out++b.extract ib++a.extract ia).toList=out.toList++b.toList.drop ib++a.toList.drop ia:=fun out ia ib=>by rw [Array.toList_append,Array.toList_append,rest,rest]
 have one:∀ (x:Array Keyed) (i:Nat) (hi:i < x.size),(x.toList.drop i).take 1=[x[i]]:=fun x i hi=>by rw [drop_head (by rw [Array.length_toList];exact hi)];simp
 have lst:∀ {out:Array Keyed} {ia ib:Nat},MI κ a.toList b.toList out.toList ia ib->ia+1=a.size->Mgd κ a.toList b.toList (out++b.extract ib++a.extract ia).toList:=fun {out ia ib} m e=>by
  rw [lastE]
  refine m.last fun x hx y hy=>?_
  have:=one a ia (by omega)
  rw [List.take_of_length_le (by rw [List.length_drop,lA];omega)] at this
  rw [this] at hy
  rw [List.mem_singleton.mp hy]
  have:=last x (by simpa using hx)
  have e2:a.size - 1=ia:=by omega
  simpa [e2] using this
 have stepB:∀ {out:Array Keyed} {ia ib:Nat} (h1:ia < a.size) (h2:ib < b.size),MI κ a.toList b.toList out.toList ia ib->kl κ b[ib] a[ia]->MI κ a.toList b.toList (out.push b[ib]).toList ia (ib+1):=fun {out ia ib} h1 h2 m le=>by
  have:=m.takeB (k:=1) fun x hx y hy=>by
   rw [one b ib h2] at hx
   rw [List.mem_singleton.mp hx]
   exact head_le m.sa (by rw [lA];exact h1) (by simpa using le) y hy
  rw [one b ib h2] at this
  simpa using this
 have stepA:∀ {out:Array Keyed} {ia ib:Nat} (h1:ia < a.size) (h2:ib < b.size),MI κ a.toList b.toList out.toList ia ib->kl κ a[ia] b[ib]->MI κ a.toList b.toList (out.push a[ia]).toList (ia+1) ib:=fun {out ia ib} h1 h2 m le=>by
  have:=m.takeA (k:=1) fun x hx y hy=>by
   rw [one a ia h1] at hx
   rw [List.mem_singleton.mp hx]
   exact head_le m.sb (by rw [lB];exact h2) (by simpa using le) y hy
  rw [one a ia h1] at this
  simpa using this
 have m0:MI κ a.toList b.toList (#[b[0]]:Array Keyed).toList 0 1:=by
  have:=stepB (out:=#[]) (ia:=0) (ib:=0) (by omega) (by omega) (MI.start sa sb) (first a[0] (Array.getElem_mem (by omega)))
  simpa using this
 refine wpS_bind (wpS_lift (wpAny_rule ⟨rfl,?_⟩))
 refine wpS_bind (elem_ok (by omega) ?_)
 dsimp only
 by_cases c1:1=b.size
 ·rw [if_pos (by simpa using c1)]
  refine wpS_pure (h _ st (Kp.refl st) ?_)
  rw [doneE]
  exact m0.endB (by omega)
 rw [if_neg (by simpa using c1)]
 by_cases c2:0+1=a.size
 ·rw [if_pos (by simpa using c2)]
  exact wpS_pure (h _ st (Kp.refl st) (lst m0 c2))
 rw [if_neg (by simpa using c2)]
 refine wpS_bind (wpS_get ?_)
 refine wpS_bind (wpS_mono (wpS_forRange (I:=fun x c t=>Kp st t/\∃ out ia ib g,c=(none,out,ia,ib,g)/\MI κ a.toList b.toList out.toList ia ib/\ia+1 < a.size/\ib < b.size/\x+1<=ia+ib)
  (Q:=fun c t=>Kp st t/\∃ r y,c=(some r,y)/\Mgd κ a.toList b.toList r.toList) (fun x c t _ xn z=>?_) (fun c t z=>?_) ⟨Kp.refl st,_,0,1,_,rfl,m0,by omega,by omega,by omega⟩) fun c t z=>?_)
 ·obtain ⟨kp,out,ia,ib,g,rfl,m,la,lb,pr⟩:=z
  dsimp only
  refine wpS_bind (wpS_mono (wpS_forRange (I:=fun y c t'=>Kp st t'/\∃ out ia' ib' ac bc,c=(none,out,ia',ib',ac,bc)/\MI κ a.toList b.toList out.toList ia' ib'/\ia'+1 < a.size/\ib' < b.size/\y+(ia+ib)<=ia'+ib')
   (Q:=fun c t'=>Kp st t'/\((∃ r y,c=(some r,y)/\Mgd κ a.toList b.toList r.toList)\/∃ out ia' ib' ac bc,c=(none,out,ia',ib',ac,bc)/\MI κ a.toList b.toList out.toList ia' ib'/\ia'+1 < a.size/\ib' < b.size/\ia+ib < ia'+ib')) (fun y c t' _ yn z=>?_) (fun c t' z=>?_) ⟨kp,_,ia,ib,_,_,rfl,m,la,lb,by omega⟩) fun c t' z=>?_)
  ·obtain ⟨kp,out,ia',ib',ac,bc,rfl,m,la,lb,pr'⟩:=z
   dsimp only
   refine wpS_bind (elem_ok lb ?_)
   refine wpS_bind (elem_ok (by omega) ?_)
   refine wpS_bind (lt_ok C (kp.ok q) (kp.sub subb _ (Array.getElem_mem lb)) (kp.sub suba _ (Array.getElem_mem (by omega))) ?_)
   cases e:κ.blt (kof κ b[ib']) (kof κ a[ia']) with
   | true =>
    dsimp only
    rw [if_pos rfl]
    refine wpS_bind (elem_ok lb ?_)
    have m':=stepB (by omega) lb m (kl_of_lt e)
    by_cases d:ib'+1=b.size
    ·rw [if_pos (by simpa using d)]
     refine wpS_pure ⟨kp,.inl ⟨_,_,rfl,?_⟩⟩
     rw [doneE]
     exact m'.endB (by omega)
    ·rw [if_neg (by simpa using d)]
     refine ite_wp (fun _=>wpS_pure ⟨kp,.inr ⟨_,_,_,_,_,rfl,m',la,by omega,by omega⟩⟩) (fun _=>wpS_pure ⟨kp,_,_,_,_,_,rfl,m',la,by omega,by omega⟩)
   | false =>
    dsimp only
    rw [if_neg Bool.false_ne_true]
    refine wpS_bind (elem_ok (by omega) ?_)
    have m':=stepA (by omega) lb m (kl_of_not e)
    by_cases d:ia'+1+1=a.size
    ·rw [if_pos (by simpa using d)]
     exact wpS_pure ⟨kp,.inl ⟨_,_,rfl,lst m' d⟩⟩
    ·rw [if_neg (by simpa using d)]
     refine ite_wp (fun _=>wpS_pure ⟨kp,.inr ⟨_,_,_,_,_,rfl,m',by omega,lb,by omega⟩⟩) (fun _=>wpS_pure ⟨kp,_,_,_,_,_,rfl,m',by omega,lb,by omega⟩)
  ·obtain ⟨kp,out,ia',ib',ac,bc,rfl,m,la,lb,pr'⟩:=z
   omega
  ·obtain ⟨kp,⟨r,y,rfl,md⟩ | ⟨out,ia',ib',ac,bc,rfl,m,la,lb,pr'⟩⟩:=z
   ·exact wpS_pure ⟨kp,r,_,rfl,md⟩
   ·dsimp only
    refine wpS_bind (wpS_lift (wpAny_rule ⟨rfl,?_⟩))
    refine wpS_bind (wpS_mono (wpS_forRange (I:=fun y c t2=>Kp st t2/\∃ out i j g ac bc,c=(none,out,i,j,g,ac,bc)/\MI κ a.toList b.toList out.toList i j/\i+1 < a.size/\j < b.size/\y+(ia'+ib')<=i+j)
     (Q:=fun c t2=>Kp st t2/\((∃ r y,c=(some r,y)/\Mgd κ a.toList b.toList r.toList)\/∃ out i j g ac bc,c=(none,out,i,j,g,ac,bc)/\MI κ a.toList b.toList out.toList i j/\i+1 < a.size/\j < b.size/\ia'+ib'<=i+j)) (fun y c t2 _ yn z=>?_) (fun c t2 z=>?_) ⟨kp,_,ia',ib',_,_,_,rfl,m,la,lb,by omega⟩) fun c t2 z=>?_)
    ·obtain ⟨kp,out,i,j,g,ac,bc,rfl,m,la,lb,pr'⟩:=z
     dsimp only
     refine ite_wp (fun _=>?_) (fun _=>?_)
     all_goals
      refine wpS_bind (mod_gal ⟨rfl,rfl,rfl,rfl⟩ fun t3 k3=>?_)
      refine wpS_bind (elem_ok lb ?_)
      have kp':=kp.trans k3
      refine wpS_bind (gal_ok C (kp'.ok q) (kp'.sub subb _ (Array.getElem_mem lb)) (kp'.sub suba) (by omega) (by omega) (gal_mono sa (by omega)) fun k sp=>?_)
      have le1:=sp.le
      obtain ⟨lo1,hi1⟩:=leapR sp (by omega)
      have mA:MI κ a.toList b.toList (out.toList++(a.toList.drop i).take k) (i+k) j:=m.takeA fun x hx y hy=>by
       obtain ⟨t,tk,hh,rfl⟩:=mem_td hx
       rw [lA] at hh
       have:=lo1 t hh tk
       exact head_le m.sb (by rw [lB];exact lb) (by simpa using this) y hy
      dsimp only
      refine ite_wp (fun kpos=>?_) (fun kz=>?_)
      ·have eo:(out++a.extract i (i+k)).toList=out.toList++(a.toList.drop i).take k:=by rw [Array.toList_append,ext,Nat.add_sub_cancel_left]
       rw [<- eo] at mA
       generalize out++a.extract i (i+k)=out1 at mA ⊢
       by_cases d1:i+k+1=a.size
       ·rw [if_pos (by simpa using d1)]
        exact wpS_pure ⟨kp',.inl ⟨_,_,rfl,lst mA d1⟩⟩
       rw [if_neg (by simpa using d1)]
       by_cases d2:i+k=a.size
       ·rw [if_pos (by simpa using d2)]
        refine wpS_pure ⟨kp',.inl ⟨_,_,rfl,?_⟩⟩
        rw [doneE]
        exact mA.endA (by omega)
       rw [if_neg (by simpa using d2)]
       have hb1:=hi1 k (by omega) (Nat.le_refl _) (by omega)
       refine wpS_bind (elem_ok lb ?_)
       have mB:=stepB (by omega) lb mA (kl_of_lt hb1)
       by_cases d3:j+1=b.size
       ·rw [if_pos (by simpa using d3)]
        refine wpS_pure ⟨kp',.inl ⟨_,_,rfl,?_⟩⟩
        rw [doneE]
        exact mB.endB (by omega)
       rw [if_neg (by simpa using d3)]
       refine wpS_bind (elem_ok (by omega) ?_)
       refine wpS_bind (gal_ok C (kp'.ok q) (kp'.sub suba _ (Array.getElem_mem (by omega))) (kp'.sub subb) (by omega) (by omega) (gal_mono sb (by omega)) fun k2 sp2=>?_)
       have le2:=sp2.le
       obtain ⟨lo2,_,hi2⟩:=leapL sp2 (by omega)
       have hia:i+k < a.size:=by omega
       have mC:=mB.takeB (k:=k2) fun x hx y hy=>by
        obtain ⟨t,tk,hh,rfl⟩:=mem_td hx
        rw [lB] at hh
        have:=lo2 t hh tk
        exact head_le mB.sa (by rw [lA];exact hia) (by simpa using this) y hy
       dsimp only
       refine ite_wp (fun kpos2=>?_) (fun kz2=>?_)
       ·have eo2:∀ (o:Array Keyed),(o++b.extract (j+1) (j+1+k2)).toList=o.toList++(b.toList.drop (j+1)).take k2:=fun o=>by rw [Array.toList_append,ext,Nat.add_sub_cancel_left]
        rw [<- eo2] at mC
        by_cases d4:j+1+k2=b.size
        ·rw [if_pos (by simpa using d4)]
         refine wpS_pure ⟨kp',.inl ⟨_,_,rfl,?_⟩⟩
         rw [doneE]
         exact mC.endB (by omega)
        rw [if_neg (by simpa using d4)]
        refine wpS_bind (elem_ok (by omega) ?_)
        have mD:=stepA hia (by omega) mC (hi2 k2 (by omega) (Nat.le_refl _) (by omega))
        by_cases d5:i+k+1+1=a.size
        ·rw [if_pos (by simpa using d5)]
         exact wpS_pure ⟨kp',.inl ⟨_,_,rfl,lst mD d5⟩⟩
        rw [if_neg (by simpa using d5)]
        exact ite_wp (fun _=>wpS_pure ⟨kp',.inr ⟨_,_,_,_,_,_,rfl,mD,by omega,by omega,by omega⟩⟩) (fun _=>wpS_pure ⟨kp',_,_,_,_,_,_,rfl,mD,by omega,by omega,by omega⟩)
       ·have k20:k2=0:=by omega
        subst k20
        refine wpS_bind (elem_ok (by omega) ?_)
        have mD:=stepA hia (by omega) mB (hi2 0 (by omega) (Nat.le_refl _) (by omega))
        by_cases d5:i+k+1+1=a.size
        ·rw [if_pos (by simpa using d5)]
         exact wpS_pure ⟨kp',.inl ⟨_,_,rfl,lst mD d5⟩⟩
        rw [if_neg (by simpa using d5)]
        exact ite_wp (fun _=>wpS_pure ⟨kp',.inr ⟨_,_,_,_,_,_,rfl,mD,by omega,by omega,by omega⟩⟩) (fun _=>wpS_pure ⟨kp',_,_,_,_,_,_,rfl,mD,by omega,by omega,by omega⟩)
      ·have k0:k=0:=by omega
       subst k0
       have hb1:=hi1 0 (by omega) (Nat.le_refl _) (by omega)
       refine wpS_bind (elem_ok lb ?_)
       have mB:=stepB (by omega) lb m (kl_of_lt hb1)
       by_cases d3:j+1=b.size
       ·rw [if_pos (by simpa using d3)]
        refine wpS_pure ⟨kp',.inl ⟨_,_,rfl,?_⟩⟩
        rw [doneE]
        exact mB.endB (by omega)
       rw [if_neg (by simpa using d3)]
       refine wpS_bind (elem_ok (by omega) ?_)
       refine wpS_bind (gal_ok C (kp'.ok q) (kp'.sub suba _ (Array.getElem_mem (by omega))) (kp'.sub subb) (by omega) (by omega) (gal_mono sb (by omega)) fun k2 sp2=>?_)
       have le2:=sp2.le
       obtain ⟨lo2,_,hi2⟩:=leapL sp2 (by omega)
       have hia:i < a.size:=by omega
       have mC:=mB.takeB (k:=k2) fun x hx y hy=>by
        obtain ⟨t,tk,hh,rfl⟩:=mem_td hx
        rw [lB] at hh
        have:=lo2 t hh tk
        exact head_le mB.sa (by rw [lA];exact hia) (by simpa using this) y hy
       dsimp only
       refine ite_wp (fun kpos2=>?_) (fun kz2=>?_)
       ·have eo2:∀ (o:Array Keyed),(o++b.extract (j+1) (j+1+k2)).toList=o.toList++(b.toList.drop (j+1)).take k2:=fun o=>by rw [Array.toList_append,ext,Nat.add_sub_cancel_left]
        rw [<- eo2] at mC
        by_cases d4:j+1+k2=b.size
        ·rw [if_pos (by simpa using d4)]
         refine wpS_pure ⟨kp',.inl ⟨_,_,rfl,?_⟩⟩
         rw [doneE]
         exact mC.endB (by omega)
        rw [if_neg (by simpa using d4)]
        refine wpS_bind (elem_ok (by omega) ?_)
        have mD:=stepA hia (by omega) mC (hi2 k2 (by omega) (Nat.le_refl _) (by omega))
        by_cases d5:i+1+1=a.size
        ·rw [if_pos (by simpa using d5)]
         exact wpS_pure ⟨kp',.inl ⟨_,_,rfl,lst mD d5⟩⟩
        rw [if_neg (by simpa using d5)]
        exact ite_wp (fun _=>wpS_pure ⟨kp',.inr ⟨_,_,_,_,_,_,rfl,mD,by omega,by omega,by omega⟩⟩) (fun _=>wpS_pure ⟨kp',_,_,_,_,_,_,rfl,mD,by omega,by omega,by omega⟩)
       ·have k20:k2=0:=by omega
        subst k20
        refine wpS_bind (elem_ok (by omega) ?_)
        have mD:=stepA hia (by omega) mB (hi2 0 (by omega) (Nat.le_refl _) (by omega))
        by_cases d5:i+1+1=a.size
        ·rw [if_pos (by simpa using d5)]
         exact wpS_pure ⟨kp',.inl ⟨_,_,rfl,lst mD d5⟩⟩
        rw [if_neg (by simpa using d5)]
        exact ite_wp (fun _=>wpS_pure ⟨kp',.inr ⟨_,_,_,_,_,_,rfl,mD,by omega,by omega,by omega⟩⟩) (fun _=>wpS_pure ⟨kp',_,_,_,_,_,_,rfl,mD,by omega,by omega,by omega⟩)
    ·obtain ⟨kp,out,i,j,g,ac,bc,rfl,m,la,lb,pr'⟩:=z
     omega
    ·obtain ⟨kp,⟨r,y,rfl,md⟩ | ⟨out,i,j,g,ac,bc,rfl,m,la,lb,pr''⟩⟩:=z
     ·exact wpS_pure ⟨kp,r,_,rfl,md⟩
     ·dsimp only
      refine wpS_bind (wpS_modify (wpS_pure ⟨⟨kp.ar,kp.kn,kp.pn,kp.fl⟩,_,_,_,_,rfl,m,la,lb,by omega⟩))
 ·obtain ⟨kp,out,ia,ib,g,rfl,m,la,lb,pr⟩:=z
  omega
 ·obtain ⟨kp,r,y,rfl,md⟩:=z
  exact wpS_pure (h r t kp md)
theorem mem_dt {l:List Keyed} {i n:Nat} {x:Keyed} (h:x∈(l.take n).drop i):∃ t,(i<=t/\t < n)/\∃ hh:t < l.length,x=l[t]:=by
 obtain ⟨t,ht,e⟩:=List.getElem_of_mem h
 rw [List.length_drop,List.length_take] at ht
 refine ⟨i+t,⟨by omega,by omega⟩,by omega,?_⟩
 rw [<- e,List.getElem_drop,List.getElem_take]
theorem hi_ok {st:SortSt} {a b:Array Keyed} {R:Array Keyed->SortSt->Prop} (C:CmpS prog w A E s src kd κ) (q:OkS src kd st) (suba:Sub a st) (subb:Sub b st) (sa:a.toList.Pairwise (kl κ)) (sb:b.toList.Pairwise (kl κ)) (a1:1<=a.size) (b1:1<=b.size)
  (first:∀ y∈a,kl κ b[0] y) (last:∀ x∈b,kl κ x a[a.size - 1]) (h:∀ r t,Kp st t->Mgd κ a.toList b.toList r.toList->R r t):wpS (model prog w) A E s (hiP a b) R st:=by
 have lA:a.toList.length=a.size:=Array.length_toList
 have lB:b.toList.length=b.size:=Array.length_toList
 have ext:∀ (x:Array Keyed) (i j:Nat),(x.extract i j).toList=(x.toList.take j).drop i:=fun x i j=>by rw [Array.toList_extract,List.extract_eq_drop_take,List.drop_take]
 have ex0:∀ (x:Array Keyed) (j:Nat),(x.extract 0 j).toList=x.toList.take j:=fun x j=>by rw [ext,List.drop_zero]
 have exA:∀ (out:Array Keyed) (i n:Nat),(out++(a.extract i n).reverse).toList.reverse=(a.toList.take n).drop i++out.toList.reverse:=fun out i n=>by rw [Array.toList_append,List.reverse_append,Array.toList_reverse,List.reverse_reverse,ext]
 have exB:∀ (out:Array Keyed) (i n:Nat),(out++(b.extract i n).reverse).toList.reverse=(b.toList.take n).drop i++out.toList.reverse:=fun out i n=>by rw [Array.toList_append,List.reverse_append,Array.toList_reverse,List.reverse_reverse,ext]
 have doneE:∀ (out:Array Keyed) (na nb:Nat),(a.extract 0 na++b.extract 0 nb++out.reverse).toList=a.toList.take na++b.toList.take nb++out.toList.reverse:=fun out na nb=>by rw [Array.toList_append,Array.toList_append,ex0,ex0,Array.toList_reverse]
 have fstE:∀ (out:Array Keyed) (na nb:Nat),(b.extract 0 nb++a.extract 0 na++out.reverse).toList=b.toList.take nb++a.toList.take na++out.toList.reverse:=fun out na nb=>by rw [Array.toList_append,Array.toList_append,ex0,ex0,Array.toList_reverse]
 have one:∀ (x:Array Keyed) (n:Nat) (h1:1<=n) (hn:n - 1 < x.size),(x.toList.take n).drop (n - 1)=[x[n - 1]]:=fun x n h1 hn=>by
  have e:n=n - 1+1:=by omega
  conv=>lhs;rw [e,List.take_succ_eq_append_getElem (show n - 1 < x.toList.length by rw [Array.length_toList];exact hn)]
  rw [List.drop_append_of_le_length (by rw [List.length_take];simp;omega),List.drop_of_length_le (by rw [List.length_take];omega)]
  simp
 have fst:∀ {out:Array Keyed} {na nb:Nat},MJ κ a.toList b.toList out.toList.reverse na nb->nb=1->Mgd κ a.toList b.toList (b.extract 0 nb++a.extract 0 na++out.reverse).toList:=fun {out na nb} m e=>by
  rw [fstE]
  refine m.first fun x hx y hy=>?_
  subst e
  have t1:b.toList.take 1=[b[0]]:=(one b 1 (Nat.le_refl _) (by omega):b.toList.take 1=[b[0]])
  rw [t1] at hx
  rw [List.mem_singleton.mp hx]
  exact first y (by simpa using hy)
 have stepA:∀ {out:Array Keyed} {na nb:Nat} (h1:1<=na) (h2:na - 1 < a.size) (h3:1<=nb) (h4:nb - 1 < b.size),MJ κ a.toList b.toList out.toList.reverse na nb->kl κ b[nb - 1] a[na - 1]->MJ κ a.toList b.toList (out.push a[na - 1]).toList.reverse (na - 1) nb:=fun {out na nb} h1 h2 h3 h4 m le=>by
  have:=m.takeA (i:=na - 1) (by omega) fun x hx y hy=>by
   rw [one a na h1 h2] at hy
   rw [List.mem_singleton.mp hy]
   have e1:nb - 1+1=nb:=by omega
   have sb':=m.sb
   rw [<- e1] at sb' hx
   exact last_ge sb' (by rw [lB];exact h4) (by simpa using le) x hx
  rw [one a na h1 h2] at this
  simpa using this
 have stepB:∀ {out:Array Keyed} {na nb:Nat} (h1:1<=na) (h2:na - 1 < a.size) (h3:1<=nb) (h4:nb - 1 < b.size),MJ κ a.toList b.toList out.toList.reverse na nb->kl κ a[na - 1] b[nb - 1]->MJ κ a.toList b.toList (out.push b[nb - 1]).toList.reverse na (nb - 1):=fun {out na nb} h1 h2 h3 h4 m le=>by
  have:=m.takeB (i:=nb - 1) (by omega) fun x hx y hy=>by
   rw [one b nb h3 h4] at hy
   rw [List.mem_singleton.mp hy]
   have e1:na - 1+1=na:=by omega
   have sa':=m.sa
   rw [<- e1] at sa' hx
   exact last_ge sa' (by rw [lA];exact h2) (by simpa using le) x hx
  rw [one b nb h3 h4] at this
  simpa using this
 have m0:MJ κ a.toList b.toList (#[a[a.size - 1]]:Array Keyed).toList.reverse (a.size - 1) b.size:=by
  have st0:=MJ.start sa sb
  rw [lA,lB] at st0
  have:=stepA (out:=#[]) (na:=a.size) (nb:=b.size) (by omega) (by omega) (by omega) (by omega) st0 (last _ (Array.getElem_mem (by omega)))
  simpa using this
 refine wpS_bind (wpS_lift (wpAny_rule ⟨rfl,?_⟩))
 refine wpS_bind (elem_ok (by omega) ?_)
 dsimp only
 by_cases c1:a.size - 1=0
 ·rw [if_pos (by simpa using c1)]
  refine wpS_pure (h _ st (Kp.refl st) ?_)
  rw [doneE]
  exact m0.endA c1
 rw [if_neg (by simpa using c1)]
 by_cases c2:b.size=1
 ·rw [if_pos (by simpa using c2)]
  exact wpS_pure (h _ st (Kp.refl st) (fst m0 c2))
 rw [if_neg (by simpa using c2)]
 refine wpS_bind (wpS_get ?_)
 refine wpS_bind (wpS_mono (wpS_forRange (I:=fun x c t=>Kp st t/\∃ na nb out g,c=(none,na,nb,out,g)/\MJ κ a.toList b.toList out.toList.reverse na nb/\1<=na/\2<=nb/\na<=a.size/\nb<=b.size/\x+(na+nb)<=a.size+b.size)
  (Q:=fun c t=>Kp st t/\∃ r y,c=(some r,y)/\Mgd κ a.toList b.toList r.toList) (fun x c t _ xn z=>?_) (fun c t z=>?_) ⟨Kp.refl st,_,_,_,_,rfl,m0,by omega,by omega,by omega,by omega,by omega⟩) fun c t z=>?_)
 ·obtain ⟨kp,na0,nb0,out,g,rfl,m,ga,gb,la,lb,pr⟩:=z
  dsimp only
  refine wpS_bind (wpS_mono (wpS_forRange (I:=fun y c t'=>Kp st t'/\∃ na nb out ac bc,c=(none,na,nb,out,ac,bc)/\MJ κ a.toList b.toList out.toList.reverse na nb/\1<=na/\2<=nb/\na<=a.size/\nb<=b.size/\y+(na+nb)<=na0+nb0)
   (Q:=fun c t'=>Kp st t'/\((∃ r y,c=(some r,y)/\Mgd κ a.toList b.toList r.toList)\/∃ na nb out ac bc,c=(none,na,nb,out,ac,bc)/\MJ κ a.toList b.toList out.toList.reverse na nb/\1<=na/\2<=nb/\na<=a.size/\nb<=b.size/\na+nb < na0+nb0)) (fun y c t' _ yn z=>?_) (fun c t' z=>?_) ⟨kp,_,_,_,_,_,rfl,m,ga,gb,la,lb,by omega⟩) fun c t' z=>?_)
  ·obtain ⟨kp,na,nb,out,ac,bc,rfl,m,ga,gb,la,lb,pr'⟩:=z
   dsimp only
   have nb1:nb - 1 < b.size:=by omega
   have na1:na - 1 < a.size:=by omega
   refine wpS_bind (elem_ok nb1 ?_)
   refine wpS_bind (elem_ok na1 ?_)
   refine wpS_bind (lt_ok C (kp.ok q) (kp.sub subb _ (Array.getElem_mem nb1)) (kp.sub suba _ (Array.getElem_mem na1)) ?_)
   cases e:κ.blt (kof κ b[nb - 1]) (kof κ a[na - 1]) with
   | true =>
    dsimp only
    rw [if_pos rfl]
    refine wpS_bind (elem_ok na1 ?_)
    have m':=stepA ga na1 (by omega) nb1 m (kl_of_lt e)
    by_cases d:na - 1=0
    ·rw [if_pos (by simpa using d)]
     refine wpS_pure ⟨kp,.inl ⟨_,_,rfl,?_⟩⟩
     rw [doneE]
     exact m'.endA d
    ·rw [if_neg (by simpa using d)]
     refine ite_wp (fun _=>wpS_pure ⟨kp,.inr ⟨_,_,_,_,_,rfl,m',by omega,gb,by omega,lb,by omega⟩⟩) (fun _=>wpS_pure ⟨kp,_,_,_,_,_,rfl,m',by omega,gb,by omega,lb,by omega⟩)
   | false =>
    dsimp only
    rw [if_neg Bool.false_ne_true]
    refine wpS_bind (elem_ok nb1 ?_)
    have m':=stepB ga na1 (by omega) nb1 m (kl_of_not e)
    by_cases d:nb - 1=1
    ·rw [if_pos (by simpa using d)]
     exact wpS_pure ⟨kp,.inl ⟨_,_,rfl,fst m' d⟩⟩
    ·rw [if_neg (by simpa using d)]
     refine ite_wp (fun _=>wpS_pure ⟨kp,.inr ⟨_,_,_,_,_,rfl,m',ga,by omega,la,by omega,by omega⟩⟩) (fun _=>wpS_pure ⟨kp,_,_,_,_,_,rfl,m',ga,by omega,la,by omega,by omega⟩)
  ·obtain ⟨kp,na,nb,out,ac,bc,rfl,m,ga,gb,la,lb,pr'⟩:=z
   omega
  ·obtain ⟨kp,⟨r,y,rfl,md⟩ | ⟨na',nb',out,ac,bc,rfl,m,ga,gb,la,lb,pr'⟩⟩:=z
   ·exact wpS_pure ⟨kp,r,_,rfl,md⟩
   ·dsimp only
    refine wpS_bind (wpS_lift (wpAny_rule ⟨rfl,?_⟩))
    refine wpS_bind (wpS_mono (wpS_forRange (I:=fun y c t2=>Kp st t2/\∃ na nb out g ac bc,c=(none,na,nb,out,g,ac,bc)/\MJ κ a.toList b.toList out.toList.reverse na nb/\1<=na/\2<=nb/\na<=a.size/\nb<=b.size/\y+(na+nb)<=na'+nb')
     (Q:=fun c t2=>Kp st t2/\((∃ r y,c=(some r,y)/\Mgd κ a.toList b.toList r.toList)\/∃ na nb out g ac bc,c=(none,na,nb,out,g,ac,bc)/\MJ κ a.toList b.toList out.toList.reverse na nb/\1<=na/\2<=nb/\na<=a.size/\nb<=b.size/\na+nb<=na'+nb')) (fun y c t2 _ yn z=>?_) (fun c t2 z=>?_) ⟨kp,_,_,_,_,_,_,rfl,m,ga,gb,la,lb,by omega⟩) fun c t2 z=>?_)
    ·obtain ⟨kp,na,nb,out,g,ac,bc,rfl,m,ga,gb,la,lb,pr'⟩:=z
     dsimp only
     refine ite_wp (fun _=>?_) (fun _=>?_)
     all_goals
      refine wpS_bind (mod_gal ⟨rfl,rfl,rfl,rfl⟩ fun t3 k3=>?_)
      have nb1':nb - 1 < b.size:=by omega
      refine wpS_bind (elem_ok nb1' ?_)
      have kp':=kp.trans k3
      refine wpS_bind (gal_ok C (kp'.ok q) (kp'.sub subb _ (Array.getElem_mem nb1')) (kp'.sub suba) (by omega) (by omega) (gal_mono sa (by omega)) fun at1 sp=>?_)
      have le1:=sp.le
      obtain ⟨lo1,hi1⟩:=leapR sp (by omega)
      simp only [Nat.zero_add] at lo1 hi1
      dsimp only
      refine ite_wp (fun kpos=>?_) (fun kz=>?_)
      ·have mA:=m.takeA (i:=at1) le1 fun x hx y hy=>by
        obtain ⟨t,t1,hh,rfl⟩:=mem_dt hy
        rw [lA] at hh
        have:=kl_of_lt (hi1 t hh t1.1 t1.2)
        have e1:nb - 1+1=nb:=by omega
        have hx':x∈b.toList.take (nb - 1+1):=by rw [e1];exact hx
        have sb':=m.sb
        rw [<- e1] at sb'
        exact last_ge sb' (by rw [lB];exact nb1') (by simpa using this) x hx'
       rw [<- exA] at mA
       generalize out++(a.extract at1 na).reverse=out1 at mA ⊢
       by_cases d1:at1=0
       ·rw [if_pos (by simpa using d1)]
        refine wpS_pure ⟨kp',.inl ⟨_,_,rfl,?_⟩⟩
        rw [doneE]
        exact mA.endA d1
       rw [if_neg (by simpa using d1)]
       have lb1:=lo1 (at1 - 1) (by omega) (by omega)
       have nb1:nb - 1 < b.size:=by omega
       refine wpS_bind (elem_ok nb1 ?_)
       have mB:=stepB (by omega) (by omega) (by omega) (by omega) mA lb1
       by_cases d3:nb - 1=1
       ·rw [if_pos (by simpa using d3)]
        exact wpS_pure ⟨kp',.inl ⟨_,_,rfl,fst mB d3⟩⟩
       rw [if_neg (by simpa using d3)]
       have na1:at1 - 1 < a.size:=by omega
       refine wpS_bind (elem_ok na1 ?_)
       refine wpS_bind (gal_ok C (kp'.ok q) (kp'.sub suba _ (Array.getElem_mem na1)) (kp'.sub subb) (by omega) (by omega) (gal_mono sb (by omega)) fun at2 sp2=>?_)
       have le2:=sp2.le
       obtain ⟨lo2,_,hi2⟩:=leapL sp2 (by omega)
       simp only [Nat.zero_add] at lo2 hi2
       dsimp only
       refine ite_wp (fun kpos2=>?_) (fun kz2=>?_)
       ·have mC:=mB.takeB (i:=at2) le2 fun x hx y hy=>by
         obtain ⟨t,t1,hh,rfl⟩:=mem_dt hy
         rw [lB] at hh
         have:=hi2 t hh t1.1 t1.2
         have e1:at1 - 1+1=at1:=by omega
         have hx':x∈a.toList.take (at1 - 1+1):=by rw [e1];exact hx
         have sa':=mB.sa
         rw [<- e1] at sa'
         exact last_ge sa' (by rw [lA];exact na1) (by simpa using this) x hx'
        rw [<- exB] at mC
        by_cases d4:at2=1
        ·rw [if_pos (by simpa using d4)]
         exact wpS_pure ⟨kp',.inl ⟨_,_,rfl,fst mC d4⟩⟩
        rw [if_neg (by simpa using d4)]
        by_cases d6:at2=0
        ·rw [if_pos (by simpa using d6)]
         refine wpS_pure ⟨kp',.inl ⟨_,_,rfl,?_⟩⟩
         rw [doneE]
         exact mC.endB d6
        rw [if_neg (by simpa using d6)]
        refine wpS_bind (elem_ok na1 ?_)
        have mD:=stepA (by omega) (by omega) (by omega) (by omega) mC (lo2 (at2 - 1) (by omega) (by omega))
        by_cases d5:at1 - 1=0
        ·rw [if_pos (by simpa using d5)]
         refine wpS_pure ⟨kp',.inl ⟨_,_,rfl,?_⟩⟩
         rw [doneE]
         exact mD.endA d5
        rw [if_neg (by simpa using d5)]
        exact ite_wp (fun _=>wpS_pure ⟨kp',.inr ⟨_,_,_,_,_,_,rfl,mD,by omega,by omega,by omega,by omega,by omega⟩⟩) (fun _=>wpS_pure ⟨kp',_,_,_,_,_,_,rfl,mD,by omega,by omega,by omega,by omega,by omega⟩)
       ·refine wpS_bind (elem_ok na1 ?_)
        have mD:=stepA (by omega) (by omega) (by omega) (by omega) mB (lo2 (nb - 1 - 1) (by omega) (by omega))
        by_cases d5:at1 - 1=0
        ·rw [if_pos (by simpa using d5)]
         refine wpS_pure ⟨kp',.inl ⟨_,_,rfl,?_⟩⟩
         rw [doneE]
         exact mD.endA d5
        rw [if_neg (by simpa using d5)]
        exact ite_wp (fun _=>wpS_pure ⟨kp',.inr ⟨_,_,_,_,_,_,rfl,mD,by omega,by omega,by omega,by omega,by omega⟩⟩) (fun _=>wpS_pure ⟨kp',_,_,_,_,_,_,rfl,mD,by omega,by omega,by omega,by omega,by omega⟩)
      ·have lb1:=lo1 (na - 1) (by omega) (by omega)
       have nb1:nb - 1 < b.size:=by omega
       refine wpS_bind (elem_ok nb1 ?_)
       have mB:=stepB (by omega) (by omega) (by omega) (by omega) m lb1
       by_cases d3:nb - 1=1
       ·rw [if_pos (by simpa using d3)]
        exact wpS_pure ⟨kp',.inl ⟨_,_,rfl,fst mB d3⟩⟩
       rw [if_neg (by simpa using d3)]
       have na1:na - 1 < a.size:=by omega
       refine wpS_bind (elem_ok na1 ?_)
       refine wpS_bind (gal_ok C (kp'.ok q) (kp'.sub suba _ (Array.getElem_mem na1)) (kp'.sub subb) (by omega) (by omega) (gal_mono sb (by omega)) fun at2 sp2=>?_)
       have le2:=sp2.le
       obtain ⟨lo2,_,hi2⟩:=leapL sp2 (by omega)
       simp only [Nat.zero_add] at lo2 hi2
       dsimp only
       refine ite_wp (fun kpos2=>?_) (fun kz2=>?_)
       ·have mC:=mB.takeB (i:=at2) le2 fun x hx y hy=>by
         obtain ⟨t,t1,hh,rfl⟩:=mem_dt hy
         rw [lB] at hh
         have:=hi2 t hh t1.1 t1.2
         have e1:na - 1+1=na:=by omega
         have hx':x∈a.toList.take (na - 1+1):=by rw [e1];exact hx
         have sa':=mB.sa
         rw [<- e1] at sa'
         exact last_ge sa' (by rw [lA];exact na1) (by simpa using this) x hx'
        rw [<- exB] at mC
        by_cases d4:at2=1
        ·rw [if_pos (by simpa using d4)]
         exact wpS_pure ⟨kp',.inl ⟨_,_,rfl,fst mC d4⟩⟩
        rw [if_neg (by simpa using d4)]
        by_cases d6:at2=0
        ·rw [if_pos (by simpa using d6)]
         refine wpS_pure ⟨kp',.inl ⟨_,_,rfl,?_⟩⟩
         rw [doneE]
         exact mC.endB d6
        rw [if_neg (by simpa using d6)]
        refine wpS_bind (elem_ok na1 ?_)
        have mD:=stepA (by omega) (by omega) (by omega) (by omega) mC (lo2 (at2 - 1) (by omega) (by omega))
        by_cases d5:na - 1=0
        ·rw [if_pos (by simpa using d5)]
         refine wpS_pure ⟨kp',.inl ⟨_,_,rfl,?_⟩⟩
         rw [doneE]
         exact mD.endA d5
        rw [if_neg (by simpa using d5)]
        exact ite_wp (fun _=>wpS_pure ⟨kp',.inr ⟨_,_,_,_,_,_,rfl,mD,by omega,by omega,by omega,by omega,by omega⟩⟩) (fun _=>wpS_pure ⟨kp',_,_,_,_,_,_,rfl,mD,by omega,by omega,by omega,by omega,by omega⟩)
       ·refine wpS_bind (elem_ok na1 ?_)
        have mD:=stepA (by omega) (by omega) (by omega) (by omega) mB (lo2 (nb - 1 - 1) (by omega) (by omega))
        by_cases d5:na - 1=0
        ·rw [if_pos (by simpa using d5)]
         refine wpS_pure ⟨kp',.inl ⟨_,_,rfl,?_⟩⟩
         rw [doneE]
         exact mD.endA d5
        rw [if_neg (by simpa using d5)]
        exact ite_wp (fun _=>wpS_pure ⟨kp',.inr ⟨_,_,_,_,_,_,rfl,mD,by omega,by omega,by omega,by omega,by omega⟩⟩) (fun _=>wpS_pure ⟨kp',_,_,_,_,_,_,rfl,mD,by omega,by omega,by omega,by omega,by omega⟩)
    ·obtain ⟨kp,na,nb,out,g,ac,bc,rfl,m,ga,gb,la,lb,pr'⟩:=z
     omega
    ·obtain ⟨kp,⟨r,y,rfl,md⟩ | ⟨na,nb,out,g,ac,bc,rfl,m,ga,gb,la,lb,pr''⟩⟩:=z
     ·exact wpS_pure ⟨kp,r,_,rfl,md⟩
     ·dsimp only
      refine wpS_bind (wpS_modify (wpS_pure ⟨⟨kp.ar,kp.kn,kp.pn,kp.fl⟩,_,_,_,_,rfl,m,ga,gb,la,lb,by omega⟩))
 ·obtain ⟨kp,na,nb,out,g,rfl,m,ga,gb,la,lb,pr⟩:=z
  omega
 ·obtain ⟨kp,r,y,rfl,md⟩:=z
  exact wpS_pure (h r t kp md)
def Ris (κ:PyProof.Rows.KeyKind) (xs:Array Keyed) (lo n:Nat):Prop:=∀ i j,i<=j->j < n->κ.kle (KK κ xs (lo+i)) (KK κ xs (lo+j))
theorem ris_list {xs:Array Keyed} {lo n:Nat} (h:Ris κ xs lo n) (hn:lo+n<=xs.size):((xs.toList.drop lo).take n).Pairwise (kl κ):=by
 refine List.pairwise_iff_getElem.mpr fun i j hi hj ij=>?_
 rw [List.length_take,List.length_drop,Array.length_toList] at hi hj
 rw [List.getElem_take,List.getElem_take,List.getElem_drop,List.getElem_drop]
 have:=h i j (by omega) (by omega)
 rw [KK_at (show lo+i < xs.size by omega),KK_at (show lo+j < xs.size by omega)] at this
 exact this
theorem ris_of {xs:Array Keyed} {lo n:Nat} {Z:List Keyed} (e:(xs.toList.drop lo).take n=Z) (l:Z.length=n) (pw:Z.Pairwise (kl κ)):Ris κ xs lo n:=by
 intro i j ij jn
 have hl:((xs.toList.drop lo).take n).length=n:=by rw [e,l]
 rw [List.length_take,List.length_drop,Array.length_toList] at hl
 have h1:lo+i < xs.size:=by omega
 have h2:lo+j < xs.size:=by omega
 rw [KK_at h1,KK_at h2]
 have g:∀ (m:Nat) (hm:m < n) (hx:lo+m < xs.size),xs[lo+m]=Z[m]'(by omega):=fun m hm hx=>by
  subst e
  rw [List.getElem_take,List.getElem_drop]
  rfl
 rw [g i (by omega) h1,g j jn h2]
 exact up_at pw ij (by omega)
theorem put_list (sa:Nat):∀ (l:List Keyed) (k:Nat) (arr:Array Keyed),sa+k+l.length<=arr.size->(List.foldl (fun (a:Array Keyed) (x:Keyed × Nat)=>match x with | (p,j)=>a.setIfInBounds (sa+j) p) arr (l.zipIdx k)).toList=arr.toList.take (sa+k)++l++arr.toList.drop (sa+k+l.length)
 | [],k,arr,h=>by simp
 | x::l,k,arr,h=>by
  rw [List.length_cons] at h
  rw [List.zipIdx_cons,List.foldl_cons,put_list sa l (k+1) _ (by rw [Array.size_setIfInBounds];omega)]
  rw [Array.toList_setIfInBounds,List.length_cons]
  have lt:sa+k < arr.toList.length:=by rw [Array.length_toList];omega
  have e1:(arr.toList.set (sa+k) x).take (sa+(k+1))=arr.toList.take (sa+k)++[x]:=by
   rw [show sa+(k+1)=sa+k+1 by omega,List.take_succ_eq_append_getElem (by rw [List.length_set];exact lt),List.getElem_set_self,List.take_set_of_le (Nat.le_refl _)]
  have e2:(arr.toList.set (sa+k) x).drop (sa+(k+1)+l.length)=arr.toList.drop (sa+k+(l.length+1)):=by
   rw [List.drop_set_of_lt (by omega)]
   congr 1
   omega
  rw [e1,e2]
  simp
theorem putM_list {sa:Nat} {m:Array Keyed} {st:SortSt} (h:sa+m.size<=(arrOf st).size):(arrOf (putM sa m st)).toList=(arrOf st).toList.take sa++m.toList++(arrOf st).toList.drop (sa+m.size):=by
 have:=put_list sa m.toList 0 (arrOf st) (by rw [Nat.add_zero,Array.length_toList];exact h)
 rw [Nat.add_zero,Array.length_toList] at this
 exact this
structure Mg2 (κ:PyProof.Rows.KeyKind) (sa n:Nat) (xs ys:Array Keyed):Prop where
 lo:ys.toList.take sa=xs.toList.take sa
 hi:ys.toList.drop (sa+n)=xs.toList.drop (sa+n)
 pm:((ys.toList.drop sa).take n).Perm ((xs.toList.drop sa).take n)
 up:((ys.toList.drop sa).take n).Pairwise (kl κ)
theorem set_ok {M:Model} {A:Around} {E:Value->Shared->Prop} {s:Shared} {Q:PUnit->SortSt->Prop} {st st':SortSt} (h:Q PUnit.unit st'):wpS M A E s (set st':SM PUnit) Q st:=by
 unfold wpS
 exact wpAny_pure ⟨rfl,h⟩
theorem merge_ok {st:SortSt} {i sa na sb nb p1 p2:Nat} {R:Bool->SortSt->Prop} (C:CmpS prog w A E s src kd κ) (q:OkS src kd st) (e1:(pendingOf st)[i]?=some (sa,na,p1)) (e2:(pendingOf st)[i+1]?=some (sb,nb,p2)) (esb:sb=sa+na) (a1:1<=na) (b1:1<=nb) (hn:sb+nb<=src.size)
  (ra:Ris κ (arrOf st) sa na) (rb:Ris κ (arrOf st) sb nb)
  (h:∀ t,OkS src kd t->pendingOf t=((pendingOf st).setIfInBounds i (sa,na+nb,p1)).eraseIdxIfInBounds (i+1)->Mg2 κ sa (na+nb) (arrOf st) (arrOf t)->R true t):wpS (model prog w) A E s (mergeAt' i) R st:=by
 subst esb
 have len:(arrOf st).size=src.size:=q.len
 generalize hX:arrOf st=X at *
 have lX:X.toList.length=X.size:=Array.length_toList
 have pa:=ris_list ra (by omega)
 have pb:=ris_list rb (by omega)
 have cut:(X.toList.drop sa).take (na+nb)=(X.toList.drop sa).take na++(X.toList.drop (sa+na)).take nb:=by
  rw [List.take_add,List.drop_drop]
 have lpa:((X.toList.drop sa).take na).length=na:=by rw [List.length_take,List.length_drop];omega
 have lpb:((X.toList.drop (sa+na)).take nb).length=nb:=by rw [List.length_take,List.length_drop];omega
 rw [merge_eq]
 unfold mgSkel
 refine wpS_bind (wpS_get ?_)
 rw [e1,e2]
 dsimp only
 refine wpS_bind (set_ok ?_)
 generalize hst:setPending st (((pendingOf st).setIfInBounds i (sa,na+nb,p1)).eraseIdxIfInBounds (i+1))=t0
 have q0:OkS src kd t0:=by rw [<- hst];exact ⟨by show (arrOf st).Perm src;exact q.pm,q.kn,q.fl⟩
 have ar0:arrOf t0=X:=by rw [<- hst];exact hX
 have pn0:pendingOf t0=((pendingOf st).setIfInBounds i (sa,na+nb,p1)).eraseIdxIfInBounds (i+1):=by rw [<- hst]
 rw [hX]
 have sub0:Sub X t0:=fun x hx=>by rw [ar0];exact hx
 have hsb:sa+na < X.size:=by omega
 refine wpS_bind (elem_ok hsb ?_)
 have upX:∀ {m i j:Nat} (base:Nat),Ris κ X base m->i<=j->j < m->κ.kle (KK κ X (base+i)) (KK κ X (base+j)):=fun base h ij jm=>h _ _ ij jm
 have monoA:∀ i j,i<=j->j < na->bey κ false X[sa+na] X sa j=true->bey κ false X[sa+na] X sa i=true:=fun i j ij jn e=>by
  have k:=ra i j ij jn
  unfold bey at e ⊢
  rw [if_neg Bool.false_ne_true] at e ⊢
  have e':κ.blt (kof κ X[sa+na]) (KK κ X (sa+j))=false:=by simpa using e
  have:κ.blt (kof κ X[sa+na]) (KK κ X (sa+i))=false:=KeyOrd.kle_trans k e'
  rw [this]
  rfl
 refine wpS_bind (gal_ok C q0 (sub0 _ (Array.getElem_mem hsb)) sub0 (by omega) (by omega) monoA fun k sp=>?_)
 have lek:=sp.le
 obtain ⟨lo1,hi1⟩:=leapR sp (by omega)
 dsimp only
 by_cases c1:na - k=0
 ·rw [if_pos (by simpa using c1)]
  refine wpS_pure (h t0 q0 pn0 ?_)
  rw [ar0]
  refine ⟨rfl,rfl,List.Perm.refl _,?_⟩
  rw [cut]
  refine List.pairwise_append.mpr ⟨pa,pb,fun x hx y hy=>?_⟩
  obtain ⟨t,tk,hh,rfl⟩:=mem_td hx
  obtain ⟨u,uk,hh2,rfl⟩:=mem_td hy
  rw [lX] at hh hh2
  have k1:=lo1 t hh (by omega)
  have k2:=rb 0 u (by omega) uk
  rw [Nat.add_zero,KK_at hsb,KK_at hh2] at k2
  exact kl_trans (by simpa using k1) (by simpa [kl] using k2)
 rw [if_neg (by simpa using c1)]
 have hla:sa+k+(na - k) - 1 < X.size:=by omega
 refine wpS_bind (elem_ok hla ?_)
 have monoB:∀ i j,i<=j->j < nb->bey κ true X[sa+k+(na - k) - 1] X (sa+na) j=true->bey κ true X[sa+k+(na - k) - 1] X (sa+na) i=true:=fun i j ij jn e=>by
  have k:=rb i j ij jn
  unfold bey at e ⊢
  rw [if_pos rfl] at e ⊢
  exact KeyOrd.klt_of_kle_of_klt k e
 refine wpS_bind (gal_ok C q0 (sub0 _ (Array.getElem_mem hla)) sub0 (by omega) (by omega) monoB fun n2 sp2=>?_)
 have len2:=sp2.le
 obtain ⟨lo2,lo2',hi2⟩:=leapL sp2 (by omega)
 have ela:sa+k+(na - k) - 1=sa+(na - 1):=by omega
 simp only [ela] at lo2 lo2' hi2
 dsimp only
 by_cases c2:n2=0
 ·rw [if_pos (by simpa using c2)]
  refine wpS_pure (h t0 q0 pn0 ?_)
  rw [ar0]
  refine ⟨rfl,rfl,List.Perm.refl _,?_⟩
  rw [cut]
  refine List.pairwise_append.mpr ⟨pa,pb,fun x hx y hy=>?_⟩
  obtain ⟨t,tk,hh,rfl⟩:=mem_td hx
  obtain ⟨u,uk,hh2,rfl⟩:=mem_td hy
  rw [lX] at hh hh2
  have k1:=ra t (na - 1) (by omega) (by omega)
  rw [KK_at hh,KK_at (show sa+(na - 1) < X.size by omega)] at k1
  have k2:=hi2 u hh2 (by omega) uk
  exact kl_trans (y:=X[sa+(na - 1)]) (by simpa [kl] using k1) (by simpa using k2)
 rw [if_neg (by simpa using c2)]
 generalize ha:X.extract (sa+k) (sa+na)=a
 generalize hb:X.extract (sa+na) (sa+na+n2)=b
 have sza:a.size=na - k:=by rw [<- ha,Array.size_extract];omega
 have szb:b.size=n2:=by rw [<- hb,Array.size_extract];omega
 have la':a.toList=(X.toList.drop (sa+k)).take (na - k):=by rw [<- ha,Array.toList_extract,List.extract_eq_drop_take];congr 1;omega
 have lb':b.toList=(X.toList.drop (sa+na)).take n2:=by rw [<- hb,Array.toList_extract,List.extract_eq_drop_take];congr 1;omega
 have ata:∀ (t:Nat) (ht:t < a.size),a[t]=X[sa+k+t]'(by omega):=fun t ht=>by subst ha;rw [Array.getElem_extract]
 have atb:∀ (t:Nat) (ht:t < b.size),b[t]=X[sa+na+t]'(by omega):=fun t ht=>by subst hb;rw [Array.getElem_extract]
 have suba:Sub a t0:=fun x hx=>by
  obtain ⟨t,ht,rfl⟩:=Array.getElem_of_mem hx
  rw [ata t ht]
  exact sub0 _ (Array.getElem_mem _)
 have subb:Sub b t0:=fun x hx=>by
  obtain ⟨t,ht,rfl⟩:=Array.getElem_of_mem hx
  rw [atb t ht]
  exact sub0 _ (Array.getElem_mem _)
 have ea:(X.toList.drop sa).take na=(X.toList.drop sa).take k++a.toList:=by
  rw [la']
  conv=>lhs;rw [show na=k+(na - k) by omega]
  rw [List.take_add,List.drop_drop]
 have eb:(X.toList.drop (sa+na)).take nb=b.toList++(X.toList.drop (sa+na+n2)).take (nb - n2):=by
  rw [lb']
  conv=>lhs;rw [show nb=n2+(nb - n2) by omega]
  rw [List.take_add,List.drop_drop]
 have sa':a.toList.Pairwise (kl κ):=by rw [ea] at pa;exact (List.pairwise_append.mp pa).2.1
 have sb':b.toList.Pairwise (kl κ):=by rw [eb] at pb;exact (List.pairwise_append.mp pb).1
 have first:∀ y∈a,kl κ (b[0]'(by omega)) y:=fun y hy=>by
  obtain ⟨t,ht,rfl⟩:=Array.getElem_of_mem hy
  rw [ata t ht,atb 0 (by omega)]
  have:=kl_of_lt (hi1 (k+t) (by omega) (by omega) (by omega))
  simpa [Nat.add_assoc] using this
 have last:∀ x∈b,kl κ x (a[a.size - 1]'(by omega)):=fun x hx=>by
  obtain ⟨t,ht,rfl⟩:=Array.getElem_of_mem hx
  rw [atb t ht,ata (a.size - 1) (by omega)]
  have:=lo2 t (by omega) (by omega)
  have e:sa+k+(a.size - 1)=sa+(na - 1):=by omega
  simp only [e]
  exact this
 have fin:∀ (r:Array Keyed) (t:SortSt),Kp t0 t->Mgd κ a.toList b.toList r.toList->OkS src kd (putM (sa+k) r t)/\pendingOf (putM (sa+k) r t)=pendingOf t0/\Mg2 κ sa (na+nb) X (arrOf (putM (sa+k) r t)):=fun r t kp md=>by
  have szr:r.size=na - k+n2:=by
   have:=md.pm.length_eq
   rw [List.length_append,Array.length_toList,Array.length_toList,Array.length_toList] at this
   omega
  have art:arrOf t=X:=kp.ar.trans ar0
  have pl:=putM_list (sa:=sa+k) (m:=r) (st:=t) (by rw [art];omega)
  rw [art] at pl
  have z0:X.toList.take (sa+k)=X.toList.take sa++(X.toList.drop sa).take k:=List.take_add
  have z1:X.toList.drop (sa+k+r.size)=(X.toList.drop (sa+na+n2)).take (nb - n2)++X.toList.drop (sa+(na+nb)):=by
   rw [show sa+k+r.size=sa+na+n2 by omega]
   conv=>lhs;rw [<- List.take_append_drop (nb - n2) (X.toList.drop (sa+na+n2)),List.drop_drop]
   congr 2
   omega
  generalize hY:(arrOf (putM (sa+k) r t)).toList=Y at pl
  rw [z0,z1] at pl
  have pl':Y=X.toList.take sa++((X.toList.drop sa).take k++r.toList++(X.toList.drop (sa+na+n2)).take (nb - n2))++X.toList.drop (sa+(na+nb)):=by rw [pl];simp
  have l0:(X.toList.take sa).length=sa:=by rw [List.length_take];omega
  have l1:((X.toList.drop sa).take k++r.toList++(X.toList.drop (sa+na+n2)).take (nb - n2)).length=na+nb:=by
   simp only [List.length_append,List.length_take,List.length_drop,Array.length_toList]
   omega
  have mid:(Y.drop sa).take (na+nb)=(X.toList.drop sa).take k++r.toList++(X.toList.drop (sa+na+n2)).take (nb - n2):=by
   rw [pl',List.append_assoc,List.drop_left' l0,List.take_left' l1]
  have whole:X.toList=X.toList.take sa++(X.toList.drop sa).take (na+nb)++X.toList.drop (sa+(na+nb)):=by
   rw [List.append_assoc,<- List.drop_drop,List.take_append_drop,List.take_append_drop]
  have pmid:((X.toList.drop sa).take k++r.toList++(X.toList.drop (sa+na+n2)).take (nb - n2)).Perm ((X.toList.drop sa).take (na+nb)):=by
   rw [cut,ea,eb]
   have:((X.toList.drop sa).take k++r.toList++(X.toList.drop (sa+na+n2)).take (nb - n2)).Perm ((X.toList.drop sa).take k++(a.toList++b.toList)++(X.toList.drop (sa+na+n2)).take (nb - n2)):=List.Perm.append_right _ (List.Perm.append_left _ md.pm)
   refine this.trans (List.Perm.of_eq ?_)
   simp
  have up:((X.toList.drop sa).take k++r.toList++(X.toList.drop (sa+na+n2)).take (nb - n2)).Pairwise (kl κ):=by
   have pk:((X.toList.drop sa).take k).Pairwise (kl κ):=by rw [ea] at pa;exact (List.pairwise_append.mp pa).1
   have pr:((X.toList.drop (sa+na+n2)).take (nb - n2)).Pairwise (kl κ):=by rw [eb] at pb;exact (List.pairwise_append.mp pb).2.1
   have ka:∀ x∈(X.toList.drop sa).take k,∀ y∈a.toList++b.toList,kl κ x y:=fun x hx y hy=>by
    rcases List.mem_append.mp hy with hy | hy
    ·rw [ea] at pa
     exact (List.pairwise_append.mp pa).2.2 x hx y hy
    ·obtain ⟨t,tk,hh,rfl⟩:=mem_td hx
     rw [lX] at hh
     have k1:=lo1 t hh tk
     obtain ⟨u,hu,rfl⟩:=Array.getElem_of_mem (show y∈b by simpa using hy)
     rw [atb u hu]
     have k2:=rb 0 u (by omega) (by omega)
     rw [Nat.add_zero,KK_at hsb,KK_at (show sa+na+u < X.size by omega)] at k2
     exact kl_trans (by simpa using k1) k2
   have kb:∀ x∈a.toList++b.toList,∀ y∈(X.toList.drop (sa+na+n2)).take (nb - n2),kl κ x y:=fun x hx y hy=>by
    rcases List.mem_append.mp hx with hx | hx
    ·obtain ⟨u,hu,rfl⟩:=Array.getElem_of_mem (show x∈a by simpa using hx)
     rw [ata u hu]
     obtain ⟨t,tk,hh,rfl⟩:=mem_td hy
     rw [lX] at hh
     have k1:=ra (k+u) (na - 1) (by omega) (by omega)
     rw [KK_at (show sa+(k+u) < X.size by omega),KK_at (show sa+(na - 1) < X.size by omega)] at k1
     have k2:=hi2 (n2+t) (by omega) (by omega) (by omega)
     have:=kl_trans k1 k2
     simpa [Nat.add_assoc] using this
    ·rw [eb] at pb
     exact (List.pairwise_append.mp pb).2.2 x hx y hy
   refine List.pairwise_append.mpr ⟨List.pairwise_append.mpr ⟨pk,md.up,fun x hx y hy=>ka x hx y (md.pm.mem_iff.mp hy)⟩,pr,fun x hx y hy=>?_⟩
   rcases List.mem_append.mp hx with hx | hx
   ·have q0:=ka x hx (b[0]'(by omega)) (List.mem_append_right _ (by simp))
    exact kl_trans q0 (kb _ (List.mem_append_right _ (by simp)) y hy)
   ·exact kb x (md.pm.mem_iff.mp hx) y hy
  refine ⟨⟨?_,by show kindOf t=kd;rw [kp.kn];exact q0.kn,by show failedOf t=none;rw [kp.fl];exact q0.fl⟩,by show pendingOf t=pendingOf t0;exact kp.pn,?_⟩
  ·have pX:X.Perm src:=by rw [<- ar0];exact q0.pm
   refine Array.Perm.trans ?_ pX
   rw [Array.perm_iff_toList_perm,hY,pl']
   conv=>rhs;rw [whole]
   exact List.Perm.append_right _ (List.Perm.append_left _ pmid)
  ·refine ⟨?_,?_,?_,?_⟩
   ·rw [hY,pl',List.append_assoc,List.take_left' l0]
   ·rw [hY,pl',List.drop_left' (by rw [List.length_append,l0,l1])]
   ·rw [hY,mid];exact pmid
   ·rw [hY,mid];exact up
 refine ite_wp (fun _=>?_) (fun _=>?_)
 ·refine wpS_bind (lo_ok C q0 suba subb sa' sb' (by omega) (by omega) first last fun r t kp md=>?_)
  obtain ⟨f1,f2,f3⟩:=fin r t kp md
  refine wpS_bind (wpS_modify (wpS_bind (wpS_get (wpS_pure ?_))))
  rw [f1.fl]
  exact h _ f1 (f2.trans pn0) f3
 ·refine wpS_bind (hi_ok C q0 suba subb sa' sb' (by omega) (by omega) first last fun r t kp md=>?_)
  obtain ⟨f1,f2,f3⟩:=fin r t kp md
  refine wpS_bind (wpS_modify (wpS_bind (wpS_get (wpS_pure ?_))))
  rw [f1.fl]
  exact h _ f1 (f2.trans pn0) f3
end
def upBody (lo:Nat):Nat->(Option (Option Nat) × Nat)->SM (ForInStep (Option (Option Nat) × Nat)):=fun _ s=>do
 let x <- ltAt' (lo+s.2) (lo+s.2 - 1)
 match x with
 | some smaller=>if smaller=true then pure (ForInStep.done (none,s.2)) else pure (ForInStep.yield (none,s.2+1))
 | _=>pure (ForInStep.done (some none,s.2))
def downBody (lo:Nat):Nat->(Option (Option Nat) × Nat × Nat)->SM (ForInStep (Option (Option Nat) × Nat × Nat)):=fun _ s=>do
 let x <- ltAt' (lo+s.2.1) (lo+s.2.1 - 1)
 match x with
 | some smaller =>
  if smaller=true then
   if s.2.2 > 0 then do
    let _ <- reverseSlice' (lo+s.2.1 - (s.2.2+1)) (lo+s.2.1)
    pure (ForInStep.yield (none,s.2.1+1,0))
   else pure (ForInStep.yield (none,s.2.1+1,0))
  else do
   let y <- ltAt' (lo+s.2.1 - 1) (lo+s.2.1)
   match y with
   | some larger=>if larger=true then pure (ForInStep.done (none,s.2.1,s.2.2)) else pure (ForInStep.yield (none,s.2.1+1,s.2.2+1))
   | _=>pure (ForInStep.done (some none,s.2.1,s.2.2))
 | _=>pure (ForInStep.done (some none,s.2.1,s.2.2))
def runTail (lo n nrem:Nat):SM (Option Nat):=do
 let _ <- reverseSlice' lo (lo+n)
 let s <- forIn [n:nrem] ((none:Option (Option Nat)),n) (upBody lo)
 match s.1 with
 | some r=>pure r
 | none=>pure (some s.2)
def downPart (lo n nrem:Nat):SM (Option Nat):=do
 liftM (rule "list.sort.descending-run")
 let s <- forIn [n+1:nrem] ((none:Option (Option Nat)),n+1,0) (downBody lo)
 match s.1 with
 | some r=>pure r
 | none =>
  if s.2.2 > 0 then do
   let _ <- reverseSlice' (lo+s.2.1 - (s.2.2+1)) (lo+s.2.1)
   runTail lo s.2.1 nrem
  else runTail lo s.2.1 nrem
theorem count_eq (lo nrem:Nat):countRun' lo nrem=(do
  let s <- forIn [1:nrem] ((none:Option (Option Nat)),1) (upBody lo)
  match s.1 with
  | some r=>pure r
  | none =>
   if (s.2 == nrem)=true then pure (some s.2)
   else
    if s.2 > 1 then do
     let x <- ltAt' lo (lo+s.2 - 1)
     match x with
     | some rose=>if rose=true then pure (some s.2) else do
       let _ <- reverseSlice' lo (lo+s.2)
       downPart lo s.2 nrem
     | _=>pure none
    else downPart lo s.2 nrem):=by kernel_rfl
section
variable {prog:Program} {w:World} {A:Around} {E:Value->Shared->Prop} {s:Shared} {src:Array Keyed} {kd:SortKind} {κ:PyProof.Rows.KeyKind}
structure Fro (κ:PyProof.Rows.KeyKind) (lo:Nat) (st t:SortSt):Prop where
 pn:pendingOf t=pendingOf st
 at_:∀ i,i < lo->KK κ (arrOf t) i=KK κ (arrOf st) i
theorem Fro.refl {lo:Nat} {st:SortSt}:Fro κ lo st st:=⟨rfl,fun _ _=>rfl⟩
theorem Fro.trans {lo:Nat} {r t u:SortSt} (a:Fro κ lo r t) (b:Fro κ lo t u):Fro κ lo r u:=⟨b.pn.trans a.pn,fun i h=>(b.at_ i h).trans (a.at_ i h)⟩
theorem OkS.put {st:SortSt} {xs:Array Keyed} (q:OkS src kd st) (p:xs.Perm (arrOf st)):OkS src kd (setArr st xs):=⟨p.trans q.pm,q.kn,q.fl⟩
theorem Fro.mirror {lo i j:Nat} {st:SortSt} (h:lo<=i) (hj:j<=(arrOf st).size):Fro κ lo st (setArr st (PyProof.Rows.mirror (arrOf st) i j ((j - i) / 2))):=⟨rfl,fun k hk=>by
 show KK κ (PyProof.Rows.mirror (arrOf st) i j ((j - i) / 2)) k=_
 rw [KK_mirror hj,if_neg (by omega)]⟩
theorem ris_more {xs:Array Keyed} {lo n:Nat} (up:Ris κ xs lo n) (last:0 < n->κ.kle (KK κ xs (lo+n - 1)) (KK κ xs (lo+n))):Ris κ xs lo (n+1):=by
 intro i j ij jn
 rcases Nat.lt_or_ge j n with q | q
 ·exact up i j ij q
 ·obtain rfl:j=n:=by omega
  rcases Nat.lt_or_ge i j with r | r
  ·refine KeyOrd.kle_trans (up i (j - 1) (by omega) (by omega)) ?_
   rw [show lo+(j - 1)=lo+j - 1 by omega]
   exact last (by omega)
  ·obtain rfl:i=j:=by omega
   exact KeyOrd.kle_refl _
def Fal (κ:PyProof.Rows.KeyKind) (xs:Array Keyed) (lo n:Nat):Prop:=∀ i j,i<=j->j < n->κ.kle (KK κ xs (lo+j)) (KK κ xs (lo+i))
theorem fal_more {xs:Array Keyed} {lo n:Nat} (dn:Fal κ xs lo n) (last:0 < n->κ.kle (KK κ xs (lo+n)) (KK κ xs (lo+n - 1))):Fal κ xs lo (n+1):=by
 intro i j ij jn
 rcases Nat.lt_or_ge j n with q | q
 ·exact dn i j ij q
 ·obtain rfl:j=n:=by omega
  rcases Nat.lt_or_ge i j with r | r
  ·refine KeyOrd.kle_trans (last (by omega)) ?_
   rw [show lo+j - 1=lo+(j - 1) by omega]
   exact dn i (j - 1) (by omega) (by omega)
  ·obtain rfl:i=j:=by omega
   exact KeyOrd.kle_refl _
theorem ris_one {xs:Array Keyed} {lo:Nat}:Ris κ xs lo 1:=fun i j ij j1=>by
 obtain rfl:i=j:=by omega
 exact KeyOrd.kle_refl _
theorem upL {st:SortSt} {lo b n:Nat} {R:(Option (Option Nat) × Nat)->SortSt->Prop} (C:CmpS prog w A E s src kd κ) (q:OkS src kd st) (b1:1<=b) (bn:b<=n) (nn:lo+n<=src.size) (up:Ris κ (arrOf st) lo b)
  (k:∀ m,b<=m->m<=n->Ris κ (arrOf st) lo m->(m < n->κ.klt (KK κ (arrOf st) (lo+m)) (KK κ (arrOf st) (lo+m - 1)))->R (none,m) st):wpS (model prog w) A E s (forIn [b:n] (none,b) (upBody lo)) R st:=by
 refine wpS_forRange (I:=fun m c t=>t=st/\c=(none,m)/\Ris κ (arrOf st) lo m) (fun m c t bm mn h=>?_) (fun c t h=>?_) ⟨rfl,rfl,up⟩
 ·obtain ⟨e1,e2,um⟩:=h
  subst e1 e2
  unfold upBody
  refine wpS_bind (C _ _ _ _ q (by dsimp only;omega) (by dsimp only;omega) ?_)
  dsimp only
  by_cases lt:κ.klt (KK κ (arrOf t) (lo+m)) (KK κ (arrOf t) (lo+m - 1))
  ·have lt':κ.blt (ky κ t (lo+m)) (ky κ t (lo+m - 1))=true:=lt
   rw [lt']
   exact wpS_pure (k m bm (by omega) um fun _=>lt)
  ·have lt':κ.blt (ky κ t (lo+m)) (ky κ t (lo+m - 1))=false:=KeyOrd.kle_of_not_klt lt
   rw [lt']
   exact wpS_pure ⟨rfl,rfl,ris_more um fun _=>lt'⟩
 ·obtain ⟨e1,e2,um⟩:=h
  subst e1 e2
  rw [Nat.max_eq_right bn] at um ⊢
  exact k n bn (Nat.le_refl _) um fun z=>absurd z (Nat.lt_irrefl _)
theorem tailL {st:SortSt} {lo m n:Nat} {R:Option Nat->SortSt->Prop} (C:CmpS prog w A E s src kd κ) (q:OkS src kd st) (m1:1<=m) (mn:m<=n) (nn:lo+n<=src.size) (dn:Fal κ (arrOf st) lo m)
  (k:∀ l t,OkS src kd t->Fro κ lo st t->1<=l->l<=n->Ris κ (arrOf t) lo l->R (some l) t):wpS (model prog w) A E s (runTail lo m n) R st:=by
 unfold runTail
 have ml:lo+m<=(arrOf st).size:=by rw [q.len];omega
 refine wpS_bind (wpS_reverse ?_)
 have q2:=q.put (mirror_perm (arrOf st) lo (lo+m) ((lo+m - lo) / 2))
 refine wpS_bind (upL C q2 m1 mn nn (fun i j ij jm=>?_) fun l ml' ln up _=>wpS_pure (k l _ q2 (Fro.mirror (Nat.le_refl _) ml) (by omega) ln up))
 have ei:KK κ (mirror (arrOf st) lo (lo+m) ((lo+m - lo) / 2)) (lo+i)=KK κ (arrOf st) (lo+(lo+m) - 1 - (lo+i)):=by rw [KK_mirror ml,if_pos ⟨by omega,by omega⟩]
 have ej:KK κ (mirror (arrOf st) lo (lo+m) ((lo+m - lo) / 2)) (lo+j)=KK κ (arrOf st) (lo+(lo+m) - 1 - (lo+j)):=by rw [KK_mirror ml,if_pos ⟨by omega,by omega⟩]
 show κ.kle (KK κ (mirror (arrOf st) lo (lo+m) ((lo+m - lo) / 2)) (lo+i)) (KK κ (mirror (arrOf st) lo (lo+m) ((lo+m - lo) / 2)) (lo+j))
 rw [ei,ej,show lo+(lo+m) - 1 - (lo+i)=lo+(m - 1 - i) by omega,show lo+(lo+m) - 1 - (lo+j)=lo+(m - 1 - j) by omega]
 exact dn _ _ (by omega) (by omega)
def FlatL (κ:PyProof.Rows.KeyKind) (xs:Array Keyed) (lo m e:Nat):Prop:=e < m/\∀ i,lo+m - (e+1)<=i->i < lo+m->KK κ xs i=KK κ xs (lo+m - 1)
theorem flatL_0 {xs:Array Keyed} {lo m:Nat} (h:0 < m):FlatL κ xs lo m 0:=⟨h,fun i a b=>by
 have e:i=lo+m - 1:=by omega
 rw [e]⟩
theorem downL {st:SortSt} {lo b n:Nat} {R:(Option (Option Nat) × Nat × Nat)->SortSt->Prop} (C:CmpS prog w A E s src kd κ) (q:OkS src kd st) (b1:1<=b) (bn:b<=n) (nn:lo+n<=src.size) (dn:Fal κ (arrOf st) lo b)
  (k:∀ m e t,OkS src kd t->Fro κ lo st t->b<=m->m<=n->Fal κ (arrOf t) lo m->FlatL κ (arrOf t) lo m e->R (none,m,e) t):wpS (model prog w) A E s (forIn [b:n] (none,b,0) (downBody lo)) R st:=by
 refine wpS_forRange (I:=fun m c t=>∃ e,c=(none,m,e)/\OkS src kd t/\Fro κ lo st t/\Fal κ (arrOf t) lo m/\FlatL κ (arrOf t) lo m e) (fun m c t bm mn h=>?_) (fun c t h=>?_) ⟨0,rfl,q,Fro.refl,dn,flatL_0 (by omega)⟩
 ·obtain ⟨e,rfl,qt,fr,dt,fl⟩:=h
  have ml:lo+m<=(arrOf t).size:=by rw [qt.len];omega
  unfold downBody
  refine wpS_bind (C _ _ _ _ qt (by dsimp only;omega) (by dsimp only;omega) ?_)
  dsimp only
  by_cases lt:κ.klt (KK κ (arrOf t) (lo+m)) (KK κ (arrOf t) (lo+m - 1))
  ·have lt':κ.blt (ky κ t (lo+m)) (ky κ t (lo+m - 1))=true:=lt
   rw [lt']
   try dsimp only
   rw [if_pos rfl]
   by_cases e0:e > 0
   ·rw [if_pos e0]
    have same:∀ i,KK κ (mirror (arrOf t) (lo+m - (e+1)) (lo+m) ((lo+m - (lo+m - (e+1))) / 2)) i=KK κ (arrOf t) i:=KK_mirror_equal ml fl.2
    refine wpS_bind (wpS_reverse (wpS_pure ⟨0,rfl,qt.put (mirror_perm _ _ _ _),fr.trans (Fro.mirror (by have:=fl.1;omega) ml),?_,flatL_0 (by omega)⟩))
    refine fal_more (fun i j ij jm=>?_) fun _=>?_
    ·show κ.kle (KK κ (mirror (arrOf t) _ _ _) (lo+j)) (KK κ (mirror (arrOf t) _ _ _) (lo+i))
     rw [same,same];exact dt i j ij jm
    ·show κ.kle (KK κ (mirror (arrOf t) _ _ _) (lo+m)) (KK κ (mirror (arrOf t) _ _ _) (lo+m - 1))
     rw [same,same];exact KeyOrd.kle_of_klt lt
   ·rw [if_neg e0]
    exact wpS_pure ⟨0,rfl,qt,fr,fal_more dt fun _=>KeyOrd.kle_of_klt lt,flatL_0 (by omega)⟩
  ·have lt':κ.blt (ky κ t (lo+m)) (ky κ t (lo+m - 1))=false:=KeyOrd.kle_of_not_klt lt
   rw [lt']
   try dsimp only
   rw [if_neg Bool.false_ne_true]
   refine wpS_bind (C _ _ _ _ qt (by omega) (by omega) ?_)
   by_cases gt:κ.klt (KK κ (arrOf t) (lo+m - 1)) (KK κ (arrOf t) (lo+m))
   ·have gt':κ.blt (ky κ t (lo+m - 1)) (ky κ t (lo+m))=true:=gt
    rw [gt']
    exact wpS_pure (k m e t qt fr bm (by omega) dt fl)
   ·have gt':κ.blt (ky κ t (lo+m - 1)) (ky κ t (lo+m))=false:=KeyOrd.kle_of_not_klt gt
    rw [gt']
    have alike:KK κ (arrOf t) (lo+m)=KK κ (arrOf t) (lo+m - 1):=KeyOrd.kle_antisymm gt' lt'
    refine wpS_pure ⟨e+1,rfl,qt,fr,fal_more dt fun _=>gt',by have:=fl.1;omega,fun i a b=>?_⟩
    rw [show lo+(m+1) - 1=lo+m by omega]
    rcases Nat.lt_or_ge i (lo+m) with r | r
    ·exact (fl.2 i (by omega) r).trans alike.symm
    ·obtain rfl:i=lo+m:=by omega
     rfl
 ·obtain ⟨e,rfl,qt,fr,dt,fl⟩:=h
  rw [Nat.max_eq_right bn] at dt fl ⊢
  exact k n e t qt fr bn (Nat.le_refl _) dt fl
theorem partL {st:SortSt} {lo m n:Nat} {R:Option Nat->SortSt->Prop} (C:CmpS prog w A E s src kd κ) (q:OkS src kd st) (mn:m+1<=n) (nn:lo+n<=src.size) (dn:Fal κ (arrOf st) lo (m+1))
  (k:∀ l t,OkS src kd t->Fro κ lo st t->1<=l->l<=n->Ris κ (arrOf t) lo l->R (some l) t):wpS (model prog w) A E s (downPart lo m n) R st:=by
 unfold downPart
 refine wpS_bind (wpS_lift (wpAny_rule ⟨rfl,?_⟩))
 refine wpS_bind (downL C q (by omega) mn nn dn fun l e t qt fr bl ln dt fl=>?_)
 dsimp only
 by_cases e0:e > 0
 ·rw [if_pos e0]
  have ll:lo+l<=(arrOf t).size:=by rw [qt.len];omega
  have same:∀ i,KK κ (mirror (arrOf t) (lo+l - (e+1)) (lo+l) ((lo+l - (lo+l - (e+1))) / 2)) i=KK κ (arrOf t) i:=KK_mirror_equal ll fl.2
  refine wpS_bind (wpS_reverse (tailL C (qt.put (mirror_perm _ _ _ _)) (by omega) ln nn (fun i j ij jl=>?_) fun l2 t2 q2 f2=>k l2 t2 q2 ((fr.trans (Fro.mirror (by have:=fl.1;omega) ll)).trans f2)))
  show κ.kle (KK κ (mirror (arrOf t) _ _ _) (lo+j)) (KK κ (mirror (arrOf t) _ _ _) (lo+i))
  rw [same,same];exact dt i j ij jl
 ·rw [if_neg e0]
  exact tailL C qt (by omega) ln nn dt fun l2 t2 q2 f2=>k l2 t2 q2 (fr.trans f2)
theorem runL {st:SortSt} {lo n:Nat} {R:Option Nat->SortSt->Prop} (C:CmpS prog w A E s src kd κ) (q:OkS src kd st) (n1:1<=n) (nn:lo+n<=src.size)
  (k:∀ l t,OkS src kd t->Fro κ lo st t->1<=l->l<=n->Ris κ (arrOf t) lo l->R (some l) t):wpS (model prog w) A E s (countRun' lo n) R st:=by
 rw [count_eq]
 refine wpS_bind (upL C q (Nat.le_refl 1) n1 nn ris_one fun m m1 mn up low=>?_)
 dsimp only
 by_cases whole:m=n
 ·rw [if_pos (by simpa using whole)]
  exact wpS_pure (k m st q Fro.refl m1 mn up)
 rw [if_neg (by simpa using whole)]
 have less:=low (by omega)
 by_cases long:m > 1
 ·rw [if_pos long]
  refine wpS_bind (C _ _ _ _ q (by omega) (by omega) ?_)
  by_cases rose:κ.klt (KK κ (arrOf st) lo) (KK κ (arrOf st) (lo+m - 1))
  ·have rose':κ.blt (ky κ st lo) (ky κ st (lo+m - 1))=true:=rose
   rw [rose']
   exact wpS_pure (k m st q Fro.refl m1 mn up)
  ·have rose':κ.blt (ky κ st lo) (ky κ st (lo+m - 1))=false:=KeyOrd.kle_of_not_klt rose
   rw [rose']
   have ml:lo+m<=(arrOf st).size:=by rw [q.len];omega
   have alike:∀ i,lo<=i->i < lo+m->KK κ (arrOf st) i=KK κ (arrOf st) (lo+m - 1):=fun i h1 im=>by
    have u1:=up (i - lo) (m - 1) (by omega) (by omega)
    have u2:=up 0 (i - lo) (by omega) (by omega)
    rw [show lo+(i - lo)=i by omega] at u1 u2
    rw [show lo+(m - 1)=lo+m - 1 by omega] at u1
    rw [Nat.add_zero] at u2
    exact KeyOrd.kle_antisymm u1 (KeyOrd.kle_trans rose' u2)
   have same:∀ i,KK κ (mirror (arrOf st) lo (lo+m) ((lo+m - lo) / 2)) i=KK κ (arrOf st) i:=KK_mirror_equal ml alike
   dsimp only
   rw [if_neg Bool.false_ne_true]
   refine wpS_bind (wpS_reverse (partL C (q.put (mirror_perm _ _ _ _)) (by omega) nn (fal_more (fun i j ij jm=>?_) fun _=>?_) fun l2 t2 q2 f2=>k l2 t2 q2 ((Fro.mirror (Nat.le_refl _) ml).trans f2)))
   ·show κ.kle (KK κ (mirror (arrOf st) _ _ _) (lo+j)) (KK κ (mirror (arrOf st) _ _ _) (lo+i))
    rw [same,same,alike (lo+i) (by omega) (by omega),alike (lo+j) (by omega) (by omega)]
    exact KeyOrd.kle_refl _
   ·show κ.kle (KK κ (mirror (arrOf st) _ _ _) (lo+m)) (KK κ (mirror (arrOf st) _ _ _) (lo+m - 1))
    rw [same,same];exact KeyOrd.kle_of_klt less
 ·rw [if_neg long]
  obtain rfl:m=1:=by omega
  refine partL C q (by omega) nn (fal_more (fun i j ij j1=>?_) fun _=>KeyOrd.kle_of_klt less) k
  obtain rfl:i=j:=by omega
  exact KeyOrd.kle_refl _
theorem seekL {st:SortSt} {lo k:Nat} {R:Option Bool × Nat × Nat->SortSt->Prop} (C:CmpS prog w A E s src kd κ) (q:OkS src kd st) (kn:lo+k < src.size) (up:Ris κ (arrOf st) lo k)
  (f:Nat->Option Bool × Nat × Nat->StateT SortSt Sem (ForInStep (Option Bool × Nat × Nat)))
  (hf:∀ x l r,f x (none,l,r)=if l ≥ r then pure (.done (none,l,r)) else ltAt' (lo+k) (lo+(l+r) / 2) >>= fun b=>match b with
   | some true=>pure (.yield (none,l,(l+r) / 2))
   | some false=>pure (.yield (none,(l+r) / 2+1,r))
   | none=>pure (.done (some false,l,r)))
  (h:∀ l r,l<=k->(∀ i,i < l->κ.kle (KK κ (arrOf st) (lo+i)) (KK κ (arrOf st) (lo+k)))->(∀ i,l<=i->i < k->κ.klt (KK κ (arrOf st) (lo+k)) (KK κ (arrOf st) (lo+i)))->R (none,l,r) st) :
  wpS (model prog w) A E s (forIn [0:k] (none,0,k) f) R st:=by
 refine wpS_forRange (I:=fun x c t=>t=st/\∃ l r,c=(none,l,r)/\l<=r/\r<=k/\r<=l+(k - x)/\(∀ i,i < l->κ.kle (KK κ (arrOf st) (lo+i)) (KK κ (arrOf st) (lo+k)))/\∀ i,r<=i->i < k->κ.klt (KK κ (arrOf st) (lo+k)) (KK κ (arrOf st) (lo+i)))
  (fun x c t _ xk z=>?_) (fun c t z=>?_) ⟨rfl,0,k,rfl,Nat.zero_le _,Nat.le_refl _,by omega,fun i z=>absurd z (Nat.not_lt_zero _),fun i a b=>by omega⟩
 ·obtain ⟨e,l,r,rfl,lr,rk,gap,lo',hi⟩:=z
  subst e
  rw [hf]
  by_cases met:l ≥ r
  ·rw [if_pos met]
   obtain rfl:l=r:=by omega
   exact wpS_pure (h l l rk lo' hi)
  ·rw [if_neg met]
   refine wpS_bind (C _ _ _ _ q (by omega) (by omega) ?_)
   by_cases lt:κ.klt (KK κ (arrOf t) (lo+k)) (KK κ (arrOf t) (lo+(l+r) / 2))
   ·have lt':κ.blt (ky κ t (lo+k)) (ky κ t (lo+(l+r) / 2))=true:=lt
    rw [lt']
    exact wpS_pure ⟨rfl,l,(l+r) / 2,rfl,by omega,by omega,by omega,lo',fun i a b=>KeyOrd.klt_of_klt_of_kle lt (up _ _ a b)⟩
   ·have lt':κ.blt (ky κ t (lo+k)) (ky κ t (lo+(l+r) / 2))=false:=KeyOrd.kle_of_not_klt lt
    rw [lt']
    exact wpS_pure ⟨rfl,(l+r) / 2+1,r,rfl,by omega,rk,by omega,fun i a=>KeyOrd.kle_trans (up i ((l+r) / 2) (by omega) (by omega)) lt',hi⟩
 ·obtain ⟨e,l,r,rfl,lr,rk,gap,lo',hi⟩:=z
  subst e
  obtain rfl:l=r:=by omega
  exact h l l rk lo' hi
theorem movedL {xs:Array Keyed} {lo k l:Nat} (kn:lo+k < xs.size) (lk:l<=k) (up:Ris κ xs lo k) (lw:∀ i,i < l->κ.kle (KK κ xs (lo+i)) (KK κ xs (lo+k))) (hi:∀ i,l<=i->i < k->κ.klt (KK κ xs (lo+k)) (KK κ xs (lo+i))) :
  Ris κ (bubble xs (lo+k) (lo+k - (lo+l))) lo (k+1):=by
 have at_:∀ i,KK κ (bubble xs (lo+k) (lo+k - (lo+l))) (lo+i)=if i=l then KK κ xs (lo+k) else if l < i/\i<=k then KK κ xs (lo+i - 1) else KK κ xs (lo+i):=fun i=>by
  rw [KK_bubble kn (by omega)]
  by_cases c1:i=l
  ·rw [if_pos (by omega),if_pos c1]
  ·rw [if_neg (by omega),if_neg c1]
   by_cases c2:l < i/\i<=k
   ·rw [if_pos (by omega),if_pos c2]
   ·rw [if_neg (by omega),if_neg c2]
 intro i j ij jk
 rw [at_,at_]
 have sub1:∀ i,0 < i->lo+i - 1=lo+(i - 1):=fun i h=>by omega
 rcases Nat.lt_trichotomy i l with a | a | a
 ·rw [if_neg (by omega),if_neg (by omega)]
  rcases Nat.lt_trichotomy j l with b | b | b
  ·rw [if_neg (by omega),if_neg (by omega)];exact up i j ij (by omega)
  ·rw [if_pos b];exact lw i a
  ·rw [if_neg (by omega),if_pos ⟨b,by omega⟩,sub1 j (by omega)];exact up i (j - 1) (by omega) (by omega)
 ·rw [if_pos a]
  rcases Nat.lt_or_ge l j with b | b
  ·rw [if_neg (by omega),if_pos ⟨b,by omega⟩,sub1 j (by omega)];exact KeyOrd.kle_of_klt (hi _ (by omega) (by omega))
  ·rw [if_pos (by omega)];exact KeyOrd.kle_refl _
 ·rw [if_neg (by omega),if_pos ⟨a,by omega⟩,if_neg (by omega),if_pos ⟨by omega,by omega⟩,sub1 i (by omega),sub1 j (by omega)]
  exact up (i - 1) (j - 1) (by omega) (by omega)
theorem insL {st:SortSt} {lo n m:Nat} {R:Bool->SortSt->Prop} (C:CmpS prog w A E s src kd κ) (q:OkS src kd st) (nn:lo+n<=src.size) (m1:1<=m) (mn:m<=n) (up:Ris κ (arrOf st) lo m)
  (k:∀ t,OkS src kd t->Fro κ lo st t->Ris κ (arrOf t) lo n->R true t):wpS (model prog w) A E s (binarySort' lo n m) R st:=by
 rw [binarySort'_eq]
 rw [Nat.max_eq_left m1]
 refine wpS_bind (wpS_mono (wpS_forRange (I:=fun x c t=>c=(none,())/\OkS src kd t/\Fro κ lo st t/\Ris κ (arrOf t) lo (min x n)) (Q:=fun c t=>c=(none,())/\OkS src kd t/\Fro κ lo st t/\Ris κ (arrOf t) lo n)
  (fun x c t mx xn z=>?_) (fun c t z=>?_) ⟨rfl,q,Fro.refl,?_⟩) fun c t z=>?_)
 ·obtain ⟨rfl,qt,fr,ut⟩:=z
  rw [Nat.min_eq_left (by omega)] at ut
  have xs:lo+x < (arrOf t).size:=by rw [qt.len];omega
  refine wpS_bind (seekL (k:=x) C qt (by omega) ut _ (fun y l r=>?_) fun l r lx lw hi=>?_)
  ·dsimp only
   split
   ·rfl
   ·congr 1
    funext b
    match b with
    | some true=>rfl
    | some false=>rfl
    | none=>rfl
  ·show wpS _ _ _ _ (moveDown' (lo+x) (lo+l) >>= fun _=>pure (ForInStep.yield (none,()))) _ _
   rw [moveDown'_eq]
   refine wpS_bind (wpS_modify (wpS_pure ⟨rfl,qt.put (bubble_perm _ _ _),fr.trans ⟨rfl,fun i hi2=>?_⟩,?_⟩))
   ·show KK κ (bubble (arrOf t) (lo+x) (lo+x - (lo+l))) i=_
    rw [KK_bubble xs (by omega),if_neg (by omega),if_neg (by omega)]
   ·rw [Nat.min_eq_left (by omega)]
    exact movedL xs lx ut lw hi
 ·obtain ⟨rfl,qt,fr,ut⟩:=z
  refine ⟨rfl,qt,fr,?_⟩
  rw [Nat.max_eq_right mn,Nat.min_self] at ut
  exact ut
 ·rw [Nat.min_eq_left mn];exact up
 ·obtain ⟨rfl,qt,fr,ut⟩:=z
  exact wpS_pure (k t qt fr ut)
def Rns (κ:PyProof.Rows.KeyKind) (xs:Array Keyed):Nat->List (Nat × Nat × Nat)->Nat->Prop
 | lo,[],hi=>lo=hi
 | lo,u::rs,hi=>u.1=lo/\1<=u.2.1/\Ris κ xs lo u.2.1/\Rns κ xs (lo+u.2.1) rs hi
theorem Rns.len {xs:Array Keyed}:∀ {rs:List (Nat × Nat × Nat)} {lo hi:Nat},Rns κ xs lo rs hi->lo+rs.length<=hi
 | [],lo,hi,h=>by have:lo=hi:=h;simp;omega
 | u::rs,lo,hi,h=>by
  have:=Rns.len h.2.2.2
  have:=h.2.1
  rw [List.length_cons]
  omega
theorem Rns.kk {xs ys:Array Keyed}:∀ {rs:List (Nat × Nat × Nat)} {lo hi:Nat},Rns κ xs lo rs hi->(∀ i,lo<=i->i < hi->KK κ ys i=KK κ xs i)->Rns κ ys lo rs hi
 | [],lo,hi,h,_=>h
 | u::rs,lo,hi,h,k=>by
  have l:=Rns.len h.2.2.2
  refine ⟨h.1,h.2.1,fun i j ij jn=>?_,Rns.kk h.2.2.2 fun i a b=>k i (by omega) b⟩
  rw [k (lo+i) (by omega) (by omega),k (lo+j) (by omega) (by omega)]
  exact h.2.2.1 i j ij jn
theorem Rns.snoc {xs:Array Keyed} {n p:Nat}:∀ {rs:List (Nat × Nat × Nat)} {lo hi:Nat},Rns κ xs lo rs hi->1<=n->Ris κ xs hi n->Rns κ xs lo (rs++[(hi,n,p)]) (hi+n)
 | [],lo,hi,h,n1,r=>by
  have e:lo=hi:=h
  subst e
  exact ⟨rfl,n1,r,rfl⟩
 | u::rs,lo,hi,h,n1,r=>⟨h.1,h.2.1,h.2.2.1,Rns.snoc h.2.2.2 n1 r⟩
theorem Rns.pow {xs:Array Keyed} {pw:Nat}:∀ {rs:List (Nat × Nat × Nat)} {lo hi:Nat} (i:Nat),Rns κ xs lo rs hi->Rns κ xs lo (rs.modify i fun x=>match x with | (st,len,_)=>(st,len,pw)) hi
 | [],lo,hi,i,h=>by cases i<;>exact h
 | u::rs,lo,hi,0,h=>by
  obtain ⟨a,b,c⟩:=u
  exact h
 | u::rs,lo,hi,i+1,h=>⟨h.1,h.2.1,h.2.2.1,Rns.pow i h.2.2.2⟩
theorem Rns.two {xs:Array Keyed}:∀ {pre:List (Nat × Nat × Nat)} {u v:Nat × Nat × Nat} {post:List (Nat × Nat × Nat)} {lo hi:Nat},Rns κ xs lo (pre++u::v::post) hi ->
  v.1=u.1+u.2.1/\1<=u.2.1/\1<=v.2.1/\v.1+v.2.1<=hi/\Ris κ xs u.1 u.2.1/\Ris κ xs v.1 v.2.1 /\
  ∀ ys:Array Keyed,(∀ i,i < u.1->KK κ ys i=KK κ xs i)->(∀ i,u.1+(u.2.1+v.2.1)<=i->KK κ ys i=KK κ xs i)->Ris κ ys u.1 (u.2.1+v.2.1)->Rns κ ys lo (pre++(u.1,u.2.1+v.2.1,u.2.2)::post) hi
 | [],u,v,post,lo,hi,h=>by
  obtain ⟨a1,a2,a3,b1,b2,b3,r⟩:=h
  have l:=Rns.len r
  subst a1
  refine ⟨b1,a2,b2,by omega,a3,by rw [b1];exact b3,fun ys k1 k2 up=>⟨rfl,by show 1<=u.2.1+v.2.1;omega,up,?_⟩⟩
  show Rns κ ys (u.1+(u.2.1+v.2.1)) post hi
  rw [<- Nat.add_assoc]
  exact r.kk fun i a b=>k2 i (by omega)
 | w::pre,u,v,post,lo,hi,h=>by
  obtain ⟨c1,c2,c3,r⟩:=h
  obtain ⟨d1,d2,d3,d4,d5,d6,d7⟩:=Rns.two r
  have pl:lo+w.2.1<=u.1:=by
   have:∀ (pre:List (Nat × Nat × Nat)) (lo:Nat),Rns κ xs lo (pre++u::v::post) hi->lo<=u.1:=by
    intro pre
    induction pre with
    | nil=>intro lo h;have:=h.1;omega
    | cons x l ih=>intro lo h;have:=ih _ h.2.2.2;omega
   exact this pre _ r
  refine ⟨d1,d2,d3,d4,d5,d6,fun ys k1 k2 up=>⟨c1,c2,fun i j ij jn=>?_,d7 ys k1 k2 up⟩⟩
  rw [k1 (lo+i) (by omega),k1 (lo+j) (by omega)]
  exact c3 i j ij jn
theorem kk_take {xs ys:Array Keyed} {m i:Nat} (e:ys.toList.take m=xs.toList.take m) (h:i < m):KK κ ys i=KK κ xs i:=by
 have g:ys[i]?=xs[i]?:=by
  have:=congrArg (fun l=>l[i]?) e
  simp only [List.getElem?_take,h,if_true,Array.getElem?_toList] at this
  exact this
 unfold KK
 rw [g]
theorem kk_drop {xs ys:Array Keyed} {m i:Nat} (e:ys.toList.drop m=xs.toList.drop m) (h:m<=i):KK κ ys i=KK κ xs i:=by
 have g:ys[i]?=xs[i]?:=by
  have:=congrArg (fun l=>l[i - m]?) e
  simp only [List.getElem?_drop,Array.getElem?_toList] at this
  rw [show m+(i - m)=i by omega] at this
  exact this
 unfold KK
 rw [g]
theorem mergeR {st:SortSt} {i hi:Nat} {R:Bool->SortSt->Prop} (C:CmpS prog w A E s src kd κ) (q:OkS src kd st) (hh:hi<=src.size) (rn:Rns κ (arrOf st) 0 (pendingOf st).toList hi) (hi1:i+1 < (pendingOf st).size)
  (h:∀ t,OkS src kd t->Rns κ (arrOf t) 0 (pendingOf t).toList hi->(pendingOf t).size+1=(pendingOf st).size->(∀ j,hi<=j->KK κ (arrOf t) j=KK κ (arrOf st) j)->R true t):wpS (model prog w) A E s (mergeAt' i) R st:=by
 generalize hL:(pendingOf st).toList=L at rn
 have lL:L.length=(pendingOf st).size:=by rw [<- hL,Array.length_toList]
 have i1:i < L.length:=by omega
 have i2:i+1 < L.length:=by omega
 have eL:L=L.take i++L[i]::L[i+1]::L.drop (i+2):=by
  rw [<- List.drop_eq_getElem_cons i2,<- List.drop_eq_getElem_cons i1,List.take_append_drop]
 have e1:(pendingOf st)[i]?=some L[i]:=by rw [<- Array.getElem?_toList,hL,List.getElem?_eq_getElem i1]
 have e2:(pendingOf st)[i+1]?=some L[i+1]:=by rw [<- Array.getElem?_toList,hL,List.getElem?_eq_getElem i2]
 generalize hu:L[i]=u at e1 eL
 generalize hv:L[i+1]=v at e2 eL
 rw [eL] at rn
 obtain ⟨d1,d2,d3,d4,d5,d6,d7⟩:=Rns.two rn
 obtain ⟨sa,na,p1⟩:=u
 obtain ⟨sb,nb,p2⟩:=v
 refine merge_ok C q e1 e2 d1 d2 d3 (by dsimp only at d4;omega) d5 d6 fun t qt pn mg=>?_
 have tl:(pendingOf t).toList=L.take i++(sa,na+nb,p1)::L.drop (i+2):=by
  rw [pn,Array.toList_eraseIdxIfInBounds,Array.toList_setIfInBounds,hL]
  conv=>lhs;rw [eL]
  have lt:(L.take i).length=i:=by rw [List.length_take];omega
  rw [List.set_append_right _ _ (by omega),lt,Nat.sub_self,List.set_cons_zero,List.eraseIdx_append_of_length_le (by omega),lt]
  simp
 have ris:Ris κ (arrOf t) sa (na+nb):=ris_of rfl (by
  have:=mg.pm.length_eq
  rw [this,List.length_take,List.length_drop,Array.length_toList,q.len]
  dsimp only at d1 d4
  omega) mg.up
 have low:∀ i,i < sa->KK κ (arrOf t) i=KK κ (arrOf st) i:=fun i h=>kk_take mg.lo h
 have high:∀ i,sa+(na+nb)<=i->KK κ (arrOf t) i=KK κ (arrOf st) i:=fun i h=>kk_drop mg.hi h
 refine h t qt ?_ ?_ fun j hj=>high j (by dsimp only at d1 d4;omega)
 ·rw [tl]
  exact d7 _ low high ris
 ·rw [<- Array.length_toList,tl,<- lL]
  conv=>rhs;rw [eL]
  simp
  omega
theorem Ris.kk {xs ys:Array Keyed} {lo n:Nat} (r:Ris κ xs lo n) (k:∀ j,lo<=j->KK κ ys j=KK κ xs j):Ris κ ys lo n:=fun i j ij jn=>by
 rw [k _ (by omega),k _ (by omega)]
 exact r i j ij jn
structure Stk (src:Array Keyed) (kd:SortKind) (κ:PyProof.Rows.KeyKind) (lo:Nat) (st:SortSt):Prop where
 ok:OkS src kd st
 rn:Rns κ (arrOf st) 0 (pendingOf st).toList lo
def pushRun (size lo n:Nat):SM (ForInStep (Option Unit × Nat)):=do
 let st <- get
 match (pendingOf st).back? with
 | some (s1,n1,_)=>do
  let c <- forIn [0:size] ((none:Option Unit),()) fun _ _=>do
   let st <- get
   match (if (pendingOf st).size > 1 then (pendingOf st)[(pendingOf st).size - 2]? else none) with
   | some (_,_,older) =>
    if older<=power' size (2 * s1+n1) (2 * s1+n1+n1+n) size then pure (ForInStep.done (none,()))
    else do
     let b <- mergeAt' ((pendingOf st).size - 2)
     if (!b)=true then pure (ForInStep.done (some (),())) else pure (ForInStep.yield (none,()))
   | _=>pure (ForInStep.done (none,()))
  match c.1 with
  | some r=>pure (ForInStep.done (some r,lo))
  | none=>do
   modify fun s=>setPending s ((pendingOf s).modify ((pendingOf s).size - 1) fun x=>(x.1,x.2.1,power' size (2 * s1+n1) (2 * s1+n1+n1+n) size))
   modify fun s=>setPending s ((pendingOf s).push (lo,n,0))
   pure (ForInStep.yield (none,lo+n))
 | _=>do
  modify fun s=>setPending s ((pendingOf s).push (lo,n,0))
  pure (ForInStep.yield (none,lo+n))
def runBody (size:Nat):Nat->(Option Unit × Nat)->SM (ForInStep (Option Unit × Nat)):=fun _ c =>
 if c.2 ≥ size then pure (ForInStep.done (none,c.2)) else do
  let x <- countRun' c.2 (size - c.2)
  match x with
  | some found =>
   if found < minRun' size size 0 then do
    liftM (rule "list.sort.binary-insertion")
    let b <- binarySort' c.2 (min (size - c.2) (minRun' size size 0)) found
    if (!b)=true then pure (ForInStep.done (some (),c.2)) else pushRun size c.2 (min (size - c.2) (minRun' size size 0))
   else pushRun size c.2 found
  | _=>pure (ForInStep.done (some (),c.2))
def pick (p:Array (Nat × Nat × Nat)):Nat :=
 let i:=p.size - 2
 let before:=if i > 0 then p[i - 1]?.map (·.2.1) else none
 if before.any (· < (p[i+1]?.elim 0 (·.2.1))) then i - 1 else i
theorem pick_le (p:Array (Nat × Nat × Nat)) (h:2<=p.size):pick p+1 < p.size:=by
 have:∀ b:Prop,[Decidable b]->(if b then p.size - 2 - 1 else p.size - 2)+1 < p.size:=fun b _=>by
  by_cases h:b
  ·rw [if_pos h];omega
  ·rw [if_neg h];omega
 exact this _
def endBody:Nat->(Option Unit × Unit)->SM (ForInStep (Option Unit × Unit)):=fun _ _=>do
 let st <- get
 if (pendingOf st).size<=1 then pure (ForInStep.done (none,())) else do
  let b <- mergeAt' (pick (pendingOf st))
  if (!b)=true then pure (ForInStep.done (some (),())) else pure (ForInStep.yield (none,()))
theorem runs_eq:sortRuns'=(do
  let st <- get
  let c <- forIn [0:(arrOf st).size] ((none:Option Unit),0) (runBody (arrOf st).size)
  match c.1 with
  | some r=>pure r
  | none=>do
   let c <- forIn [0:(arrOf st).size] ((none:Option Unit),()) endBody
   match c.1 with
   | some r=>pure r
   | none=>pure ()):=by kernel_rfl
theorem push_ok {st:SortSt} {lo n:Nat} {R:ForInStep (Option Unit × Nat)->SortSt->Prop} (C:CmpS prog w A E s src kd κ) (q:Stk src kd κ lo st) (n1:1<=n) (nn:lo+n<=src.size) (up:Ris κ (arrOf st) lo n)
  (k:∀ t,Stk src kd κ (lo+n) t->R (.yield (none,lo+n)) t):wpS (model prog w) A E s (pushRun src.size lo n) R st:=by
 unfold pushRun
 have fin:∀ t,Stk src kd κ lo t->Ris κ (arrOf t) lo n->Stk src kd κ (lo+n) (setPending t ((pendingOf t).push (lo,n,0))):=fun t qt u=>⟨⟨qt.ok.pm,qt.ok.kn,qt.ok.fl⟩,by
  show Rns κ (arrOf t) 0 ((pendingOf t).push (lo,n,0)).toList (lo+n)
  rw [Array.toList_push]
  exact qt.rn.snoc n1 u⟩
 refine wpS_bind (wpS_get ?_)
 generalize (pendingOf st).back?=bk
 match bk with
 | none=>exact wpS_bind (wpS_modify (wpS_pure (k _ (fin st q up))))
 | some (s1,n1',p1) =>
  dsimp only
  refine wpS_bind (wpS_mono (wpS_forRange (I:=fun x c t=>c=(none,())/\Stk src kd κ lo t/\∀ j,lo<=j->KK κ (arrOf t) j=KK κ (arrOf st) j) (Q:=fun c t=>c=(none,())/\Stk src kd κ lo t/\∀ j,lo<=j->KK κ (arrOf t) j=KK κ (arrOf st) j)
   (fun x c t _ xn z=>?_) (fun c t z=>z) ⟨rfl,q,fun _ _=>rfl⟩) fun c t z=>?_)
  ·obtain ⟨rfl,qt,kt⟩:=z
   refine wpS_bind (wpS_get ?_)
   by_cases c1:(pendingOf t).size > 1
   ·rw [if_pos c1,Array.getElem?_eq_getElem (show (pendingOf t).size - 2 < (pendingOf t).size by omega)]
    generalize (pendingOf t)[(pendingOf t).size - 2]=u
    obtain ⟨a,b,older⟩:=u
    dsimp only
    refine ite_wp (fun _=>wpS_pure ⟨rfl,qt,kt⟩) (fun _=>?_)
    refine wpS_bind (mergeR C qt.ok (by omega) qt.rn (by omega) fun t2 q2 r2 _ k2=>?_)
    exact wpS_pure ⟨rfl,⟨q2,r2⟩,fun j hj=>(k2 j hj).trans (kt j hj)⟩
   ·rw [if_neg c1]
    exact wpS_pure ⟨rfl,qt,kt⟩
  ·obtain ⟨rfl,qt,kt⟩:=z
   dsimp only
   generalize power' src.size (2 * s1+n1') (2 * s1+n1'+n1'+n) src.size=pw
   refine wpS_bind (wpS_modify (wpS_bind (wpS_modify (wpS_pure (k _ (fin _ ⟨⟨qt.ok.pm,qt.ok.kn,qt.ok.fl⟩,?_⟩ (up.kk kt)))))))
   show Rns κ (arrOf t) 0 ((pendingOf t).modify ((pendingOf t).size - 1) fun x=>(x.1,x.2.1,pw)).toList lo
   rw [Array.toList_modify]
   exact qt.rn.pow _
theorem all_runsL {st:SortSt} {R:Unit->SortSt->Prop} (C:CmpS prog w A E s src kd κ) (q:OkS src kd st) (pn:pendingOf st=#[]) (two:2<=src.size) (k:∀ t,Ended src κ t->R () t):wpS (model prog w) A E s sortRuns' R st:=by
 rw [runs_eq]
 refine wpS_bind (wpS_get ?_)
 rw [q.len]
 refine wpS_bind (wpS_mono (wpS_forRange (I:=fun x c t=>∃ lo,c=(none,lo)/\x<=lo/\lo<=src.size/\Stk src kd κ lo t) (Q:=fun c t=>c=(none,src.size)/\Stk src kd κ src.size t)
  (fun x c t _ xn z=>?_) (fun c t z=>?_) ⟨0,rfl,Nat.le_refl _,Nat.zero_le _,q,by rw [pn];exact rfl⟩) fun c t z=>?_)
 ·obtain ⟨lo,rfl,xl,ls,qt,rt⟩:=z
  unfold runBody
  dsimp only
  generalize minRun' src.size src.size 0=mr
  by_cases full:lo ≥ src.size
  ·rw [if_pos full]
   obtain rfl:lo=src.size:=by omega
   exact wpS_pure ⟨rfl,qt,rt⟩
  rw [if_neg full]
  refine wpS_bind (runL C qt (by omega) (by omega) fun l t1 q1 f1 l1 ln u1=>?_)
  dsimp only
  have r1:Rns κ (arrOf t1) 0 (pendingOf t1).toList lo:=by
   rw [f1.pn]
   exact rt.kk fun i _ h=>f1.at_ i h
  by_cases short:l < mr
  ·rw [if_pos short]
   refine wpS_bind (wpS_lift (wpAny_rule ⟨rfl,?_⟩))
   have fo:min (src.size - lo) mr<=src.size - lo:=Nat.min_le_left _ _
   have fl:l<=min (src.size - lo) mr:=Nat.le_min.mpr ⟨ln,Nat.le_of_lt short⟩
   generalize min (src.size - lo) mr=force at fo fl ⊢
   refine wpS_bind (insL C q1 (by omega) l1 fl u1 fun t2 q2 f2 u2=>?_)
   simp only [Bool.not_true,Bool.false_eq_true,if_false]
   refine push_ok C ⟨q2,?_⟩ (by omega) (by omega) u2 fun t3 q3=>⟨_,rfl,by omega,by omega,q3⟩
   rw [f2.pn]
   exact r1.kk fun i _ h=>f2.at_ i h
  ·rw [if_neg short]
   exact push_ok C ⟨q1,r1⟩ l1 (by omega) u1 fun t3 q3=>⟨_,rfl,by omega,by omega,q3⟩
 ·obtain ⟨lo,rfl,xl,ls,qt⟩:=z
  obtain rfl:lo=src.size:=by omega
  exact ⟨rfl,qt⟩
 ·obtain ⟨rfl,qt,rt⟩:=z
  dsimp only
  have len:∀ {t},Stk src kd κ src.size t->(pendingOf t).size<=src.size:=fun {t} q=>by
   have:=q.rn.len
   rw [Array.length_toList] at this
   omega
  have pos:∀ {t},Stk src kd κ src.size t->1<=(pendingOf t).size:=fun {t} q=>by
   have:=q.rn
   rw [<- Array.length_toList]
   generalize (pendingOf t).toList=L at this
   match L,this with
   | [],h=>have:0=src.size:=h;omega
   | _::_,_=>simp
  refine wpS_bind (wpS_mono (wpS_forRange (I:=fun x c t'=>c=(none,())/\Stk src kd κ src.size t'/\(pendingOf t').size+x<=max src.size (x+1)) (Q:=fun c t'=>c=(none,())/\Stk src kd κ src.size t'/\(pendingOf t').size<=1)
   (fun x c t' _ xn z=>?_) (fun c t' z=>?_) ⟨rfl,⟨qt,rt⟩,by have:=len ⟨qt,rt⟩;omega⟩) fun c t' z=>?_)
  ·obtain ⟨rfl,q',hx⟩:=z
   unfold endBody
   refine wpS_bind (wpS_get ?_)
   by_cases few:(pendingOf t').size<=1
   ·rw [if_pos few]
    exact wpS_pure ⟨rfl,q',few⟩
   rw [if_neg few]
   refine wpS_bind (mergeR C q'.ok (Nat.le_refl _) q'.rn (pick_le _ (by omega)) fun t2 q2 r2 e2 _=>?_)
   exact wpS_pure ⟨rfl,⟨q2,r2⟩,by omega⟩
  ·obtain ⟨rfl,q',hx⟩:=z
   exact ⟨rfl,q',by omega⟩
  ·obtain ⟨rfl,q',one⟩:=z
   refine wpS_pure (k _ ⟨q'.ok.pm,q'.ok.fl,by have:=pos q';omega,?_⟩)
   have:=q'.rn
   have l1:(pendingOf t').toList.length=1:=by rw [Array.length_toList];have:=pos q';omega
   generalize (pendingOf t').toList=L at this l1
   match L,l1,this with
   | [u],_,h =>
    obtain ⟨a,b,r,e⟩:=h
    have e:0+u.2.1=src.size:=e
    intro i j ij jn
    have:=r i j ij (by omega)
    rw [Nat.zero_add,Nat.zero_add] at this
    exact this
theorem sort_anyL {h:Heap} {us:List Value} {P:Fin->Shared->Prop} (hs:s.heap=h.push (seqObj "list" us.toArray 0)) (few:us.length<=PySem.sizeLine) (kd:SortKind) (κ:PyProof.Rows.KeyKind)
  (hk:∀ (t:Shared),(∀ b o,h.get? b=some o->t.heap.get? b=some o)->2<=us.length->∀ (R:SortKind->Shared->Prop),R kd t->wpAny (model prog w) A (keyKind' us.toArray) R E t)
  (C:∀ (t:Shared),(∀ b o,h.get? b=some o->t.heap.get? b=some o)->CmpS prog w A E t (pairsOf us) kd κ)
  (k:∀ (out:Array Keyed) (n:Nat) (h2:Heap),out.Perm (pairsOf us)->SortedToK κ out us.length->(∀ b o,h.get? b=some o->h2.get? b=some o)->h2.get? h.objs.size=some (seqObj "list" (out.map (·.2)) n)->P (.done (.ret .none)) { s with heap:=h2 }) :
  wpAny (model prog w) A (Builtin.«list.sort» ⟨[.ref h.objs.size],[]⟩) P E s:=by
 have ho:s.heap.get? h.objs.size=some (seqObj "list" us.toArray 0):=by rw [hs];exact Heap.get?_push_size _ rfl
 have old:∀ b o,h.get? b=some o->b≠h.objs.size:=fun b o e=>Nat.ne_of_lt (Heap.lt_size e)
 have k0:∀ b o,h.get? b=some o->s.heap.get? b=some o:=fun b o e=>by rw [hs];exact Heap.get?_push_of_some _ e
 rw [list_sort_plain]
 refine wpAny_bind (listItems_at ho rfl ?_)
 refine wpAny_bind (listUpdate_at ho rfl ?_)
 have ho1:=get?_update_seq ho (fun _=>#[])
 have k1:∀ b o,h.get? b=some o->(s.heap.update h.objs.size (Obj.mapSeq fun _=>#[])).get? b=some o:=fun b o e=>(Heap.get?_update_other _ _ (Ne.symm (old b o e))).trans (k0 b o e)
 generalize s.heap.update h.objs.size (Obj.mapSeq fun _=>#[])=h1 at ho1 k1 ⊢
 generalize (if ((fun _=>#[]) us.toArray).size == us.toArray.size then 0 else 0+1)=e1 at ho1
 refine wpAny_bind (seqEpoch_at ho1 rfl ?_)
 refine wpAny_bind (wpAny_newTuple ?_ few)
 refine wpAny_bind (wpAny_newList ?_)
 refine wpAny_holding ?_
 dsimp only
 have lt1:@LT.lt Nat _ h.objs.size h1.objs.size:=Heap.lt_size ho1
 have k2:∀ b o,h1.get? b=some o->((h1.push (seqObj "tuple" us.toArray.toList.toArray 0)).push (seqObj "list" #[] 0)).get? b=some o:=fun b o e=>Heap.get?_push_of_some _ (Heap.get?_push_of_some _ e)
 have ho2:=k2 _ _ ho1
 show wpAny (model prog w) A _ P E { s with heap:=(h1.push (seqObj "tuple" us.toArray.toList.toArray 0)).push (seqObj "list" #[] 0) }
 generalize (h1.push (seqObj "tuple" us.toArray.toList.toArray 0)).push (seqObj "list" #[] 0)=h2 at k2 ho2 ⊢
 have us2:us.toArray.size=us.length:=List.size_toArray ..
 by_cases two:us.length < 2
 ·rw [if_pos (by rw [us2];exact two)]
  refine wpAny_bind (wpAny_pure ?_)
  rw [if_pos (by rw [us2];exact two),StateT.run_pure]
  refine wpAny_bind (wpAny_pure ?_)
  have up:SortedToK κ (pairsOf us) us.length:=fun i j ij j1=>by
   obtain rfl:i=j:=by omega
   exact KeyOrd.kle_refl _
  obtain ⟨st,es,ef,pm⟩:∃ st,st=SortSt.mk' general' (us.toArray.zip us.toArray) #[] 7 none/\failedOf st=none/\arrOf st=pairsOf us:=⟨_,rfl,rfl,rfl⟩
  rw [<- es]
  dsimp only
  have len:((arrOf st).map (·.2)).size=us.length:=by rw [Array.size_map,((by rw [pm]:(arrOf st).Perm (pairsOf us))).size_eq,pairsOf_size]
  refine wpAny_bind (seqEpoch_at ho2 rfl ?_)
  refine wpAny_bind (listUpdate_at ho2 rfl ?_ (hsz2:=by rw [len];exact Nat.le_succ_of_le few))
  rw [ef]
  dsimp only
  rw [if_neg (by simp)]
  have ho3:=get?_update_seq ho2 (fun _=>(arrOf st).map (·.2))
  exact wpAny_pure (k (arrOf st) _ _ ((by rw [pm]:(arrOf st).Perm (pairsOf us))) (by rw [pm];exact up) (fun b o e=>(Heap.get?_update_other _ _ (Ne.symm (old b o e))).trans (k2 b o (k1 b o e))) ho3)
 ·rw [if_neg (by rw [us2];exact two)]
  refine wpAny_bind (hk _ (fun b o e=>k2 b o (k1 b o e)) (by omega) _ ?_)
  rw [if_neg (by rw [us2];exact two)]
  refine wpAny_bind (wpAny_mono (all_runsL (R:=fun _ t=>Ended (pairsOf us) κ t) (C _ (fun b o e=>k2 b o (k1 b o e))) (st:=SortSt.mk' kd (us.toArray.zip us.toArray) #[] 7 none) ⟨Array.Perm.refl _,rfl,rfl⟩ rfl (by rw [pairsOf_size];omega) fun t en=>en) (fun r s' z=>?_) fun _ _ z=>z)
  obtain ⟨u,st⟩:=r
  obtain ⟨e,en⟩:=z
  subst e
  have up:=en.up
  rw [pairsOf_size] at up
  dsimp only
  have len:((arrOf st).map (·.2)).size=us.length:=by rw [Array.size_map,(en.pm).size_eq,pairsOf_size]
  refine wpAny_bind (seqEpoch_at ho2 rfl ?_)
  refine wpAny_bind (listUpdate_at ho2 rfl ?_ (hsz2:=by rw [len];exact Nat.le_succ_of_le few))
  rw [en.fl]
  dsimp only
  rw [if_neg (by simp)]
  have ho3:=get?_update_seq ho2 (fun _=>(arrOf st).map (·.2))
  exact wpAny_pure (k (arrOf st) _ _ (en.pm) (up) (fun b o e=>(Heap.get?_update_other _ _ (Ne.symm (old b o e))).trans (k2 b o (k1 b o e))) ho3)
end
def ltT:List Str->List Str->Bool
 | [],[]=>false
 | [],_::_=>true
 | _::_,[]=>false
 | a::as,b::bs=>if a=b then ltT as bs else decide (a.cps.toList < b.cps.toList)
theorem keyLt_tuples (b:Bool) (x y:Value):keyLt' (tuples' b) x y=(do
  let xs <- Builtin.List.listItems x;let ys <- Builtin.List.listItems y
  for ((p,q),i) in (xs.toList.zip ys.toList).zipIdx do
   if !(<- eqBool p q) then return <- oneLt' (b && i == 0) p q
  return xs.size < ys.size):=rfl
section
variable {prog:Program} {w:World} {A:Around} {E:Value->Shared->Prop} {s:Shared}
end
section
variable {X:Cx}
theorem of_ints:∀ {us:List Value} {ns:List Int},IntsAre us ns->Vals (ns.map V.int) us
 | _,_,.nil=>.nil
 | _,_,.cons n t h=>.cons ⟨t,rfl⟩ (of_ints h)
theorem call_sorted_int:CallR X (.builtin "sorted") (fun xs H Q=>∃ (p:Addr) (ns:List Int),xs=[.ref p]/\SqL X.K H p (ns.map V.int)/\ns.length < 64/\∀ l (ms:List Int),H l=none->ms.Perm ns->ms.Pairwise (·<=·)->Q (.ref l) (upd H l (.lst (ms.map V.int)))):=by
 intro pins s σ H xs us Q I r h
 obtain ⟨p,ns,rfl,hq,few,q⟩:=h
 obtain ⟨u,rfl,rx⟩:=vals1 r
 cases rx
 obtain ⟨its,rv,pl,hz⟩:=I.list hq
 have el:its.length=ns.length:=by rw [<- rv.length,List.length_map]
 refine sorted_ints pl.isList (intsAre_of rv) (by omega) fun out ss a1 a2 a3=>?_
 obtain ⟨n,hn⟩:=sortedAll_at s.heap its out
 have lb:(ss.map V.int).length<=sizeLine:=by
  rw [List.length_map,a2.length_eq]
  exact Nat.le_trans (Nat.le_of_lt few) (by decide)
 refine ⟨.ref (s.heap.objs.size+1),_,I.laid (t':=s.toks) (o:=.lst (ss.map V.int)) (fun b o e=>sortedAll_old e) (Nat.le_succ _) ?_,rfl,q _ ss (I.hok.fresh (Nat.le_succ _)) a2 ?_⟩
 ·exact ⟨lb,out.toList,n,of_ints a1,by rw [hn]⟩
 ·exact a3
end
section
variable {prog:Program} {w:World} {A:Around} {I S:Addr} {fp wr:List Addr} {G:Array GenState->Array GenState->Prop} {P:Nat->Value->Prop} {St:Nat->Shared->Prop} {zs:List Int} {R:Result->Shared->Prop} {led:Bool}
end
section
variable {prog:Program} {w:World} {A:Around} {E:Value->Shared->Prop} {s:Shared}
theorem sorts_newI {h:Heap} {tk:Nat} {us:List Value} {zs:List Int} {Q:Value->Shared->Prop} (hz:IntsAre us zs) (few:us.length < 64)
  (q:∀ (out:List Value) (ms:List Int) (n:Nat) (h2:Heap),IntsAre out ms->ms.Perm zs->ms.Pairwise (·<=·)->(∀ b o,h.get? b=some o->h2.get? b=some o)->h2.get? h.objs.size=some { cls:=.type "list",data:=.seq out.toArray n }->Q (.ref h.objs.size) { s with heap:=h2,toks:=tk }) :
  wpAny (model prog w) A (call (.builtin "list.sort") [.ref h.objs.size]) (fun _ s'=>Q (.ref h.objs.size) s') E { s with heap:=h.push { cls:=.type "list",data:=.seq us.toArray },toks:=tk }:=by
 have at0:(h.push { cls:=.type "list",data:=.seq us.toArray }).get? h.objs.size=some (seqObj "list" us.toArray 0):=Heap.get?_push_size _ rfl
 refine wpAny_call_entry PySem.F.slot_list_sort ⟨_,at0,rfl⟩ PySem.F.entry_list_sort ?_ (args_list_sort _)
 refine list_sort_tree at0 hz few fun out ms c1 c2 c3=>⟨_,rfl,?_⟩
 obtain ⟨n,hn⟩:=sortedHeap_at (out:=out) at0
 refine q out.toList ms n _ c1 c2 c3 (fun b o eb=>?_) (by rw [hn])
 have lt:b < h.objs.size:=Heap.lt_size eb
 rw [sortedHeap_old (Nat.ne_of_lt lt) (by rw [Heap.size_push];exact Nat.lt_succ_of_lt lt)]
 exact Heap.get?_push_of_some _ eb
end
end L2
namespace L3
open PySem PySem.Spec PyProof.Rows L2
def ltI:List Int->List Int->Bool
 | [],[]=>false
 | [],_::_=>true
 | _::_,[]=>false
 | a::as,b::bs=>if a=b then ltI as bs else decide (a < b)
theorem ltI_irrefl:∀ a:List Int,ltI a a=false
 | []=>rfl
 | x::xs=>by rw [ltI,if_pos rfl];exact ltI_irrefl xs
theorem ltI_trans:∀ a b c:List Int,ltI a b=true->ltI b c=true->ltI a c=true
 | [],[],_,h,_=>by cases h
 | [],_::_,[],_,h=>by cases h
 | [],_::_,_::_,_,_=>rfl
 | _::_,[],_,h,_=>by cases h
 | _::_,_::_,[],_,h=>by cases h
 | x::xs,y::ys,z::zs,h1,h2=>by
  rw [ltI] at h1 h2 ⊢
  by_cases e1:x=y
  ·subst e1
   rw [if_pos rfl] at h1
   by_cases e2:x=z
   ·subst e2;rw [if_pos rfl] at h2 ⊢;exact ltI_trans xs ys zs h1 h2
   ·rw [if_neg e2] at h2 ⊢;exact h2
  ·rw [if_neg e1,decide_eq_true_iff] at h1
   by_cases e2:y=z
   ·subst e2;rw [if_neg e1];exact decide_eq_true h1
   ·rw [if_neg e2,decide_eq_true_iff] at h2
    rw [if_neg (by omega)];exact decide_eq_true (by omega)
theorem ltI_neg:∀ a b c:List Int,ltI a c=true->ltI a b=true\/ltI b c=true
 | [],[],_,h=>.inr h
 | [],_::_,_,_=>.inl rfl
 | _::_,_,[],h=>by cases h
 | _::_,[],_::_,_=>.inr rfl
 | x::xs,y::ys,z::zs,h=>by
  rw [ltI] at h
  rw [ltI,ltI]
  by_cases e:x=z
  ·subst e
   rw [if_pos rfl] at h
   by_cases e1:x=y
   ·subst e1;rw [if_pos rfl,if_pos rfl];exact ltI_neg xs ys zs h
   ·rw [if_neg e1,if_neg (Ne.symm e1)]
    rcases Int.lt_or_gt_of_ne e1 with q | q
    ·exact .inl (decide_eq_true q)
    ·exact .inr (decide_eq_true q)
  ·rw [if_neg e,decide_eq_true_iff] at h
   by_cases e1:x=y
   ·subst e1;rw [if_neg e];exact .inr (decide_eq_true h)
   ·by_cases e2:y=z
    ·subst e2;rw [if_neg e1];exact .inl (decide_eq_true h)
    ·rw [if_neg e1,if_neg e2]
     by_cases q:x < y
     ·exact .inl (decide_eq_true q)
     ·exact .inr (decide_eq_true (by omega))
theorem ltI_total:∀ a b:List Int,ltI a b=false->ltI b a=false->a=b
 | [],[],_,_=>rfl
 | [],_::_,h,_=>by cases h
 | _::_,[],_,h=>by cases h
 | x::xs,y::ys,h1,h2=>by
  rw [ltI] at h1 h2
  by_cases e:x=y
  ·subst e;rw [if_pos rfl] at h1 h2;rw [ltI_total xs ys h1 h2]
  ·rw [if_neg e,decide_eq_false_iff_not] at h1
   rw [if_neg (Ne.symm e),decide_eq_false_iff_not] at h2
   omega
theorem ints_len:∀ {its:List Value} {zs:List Int},IntsAre its zs->its.length=zs.length:=IntsAre.length
theorem ints_of:∀ {ys:List Int} {us:List Value},Vals (ys.map V.int) us->IntsAre us ys
 | [],_,h=>by cases h;exact .nil
 | y::ys,_,h=>by
  cases h with
  | cons r t =>
   obtain ⟨k,rfl⟩:=(show ∃ k,_=Value.int y k from r)
   exact .cons y k (ints_of t)
def HoldI (H:Hp) (ps:List (Addr × List Int)):Prop:=∀ p∈ps,H p.1=some (.tup (p.2.map V.int))
def tupOrdI (f:Addr->List Int):PyProof.Rows.KeyKind where
 α:=List Int
 blt:=ltI
 irrefl:=ltI_irrefl
 trans:=ltI_trans
 negTrans:=ltI_neg
 total:=ltI_total
 keyOf v:=match v with | .ref a=>some (f a) | _=>none
 dflt:=[]
section
variable {prog:Program} {w:World} {A:Around} {E:Value->Shared->Prop} {s:Shared}
theorem oneLtI_any {a b:Int} {t u:Tok} {o:Bool} {Q:Bool->Shared->Prop} (h:Q (decide (a < b)) s):wpAny (model prog w) A (oneLt' o (.int a t) (.int b u)) Q E s:=by
 cases o with
 | true=>exact oneLt_int h
 | false =>
  rw [oneLt'_eq]
  simp only [Bool.false_eq_true,if_false]
  refine wpAny_bind ?_
  show wpAny _ _ (compareOp .Lt (.int a t) (.int b u)) _ _ _
  exact PyProof.Rows.lt_int (wpAny_truthy_bool h)
theorem ltI_loop {o:Bool} {f:(Value × Value) × Nat->Option Bool × Unit->Sem (ForInStep (Option Bool × Unit))}
  (hf:∀ p q i,f ((p,q),i) (none,())=eqBool p q >>= fun e=>if (!e)=true then oneLt' (o && i == 0) p q >>= fun r=>pure (.done (some r,())) else pure (.yield (none,()))) :
  ∀ {xs:List Value} {as:List Int},IntsAre xs as->∀ {ys:List Value} {bs:List Int},IntsAre ys bs->∀ (k:Nat) (Q:Option Bool × Unit->Shared->Prop),
   (∀ r,(match r with | some b=>b=ltI as bs | none=>ltI as bs=decide (as.length < bs.length))->Q (r,()) s)->wpAny (model prog w) A (forIn ((xs.zip ys).zipIdx k) (none,()) f) Q E s:=by
 intro xs as sx
 induction sx with
 | nil =>
  intro ys bs sy k Q h
  rw [List.zip_nil_left,List.zipIdx_nil,List.forIn_nil]
  refine wpAny_pure (h none ?_)
  cases bs<;>simp [ltI]
 | cons a ta sx ih =>
  intro ys bs sy k Q h
  cases sy with
  | nil =>
   rw [List.zip_nil_right,List.zipIdx_nil,List.forIn_nil]
   exact wpAny_pure (h none (by simp [ltI]))
  | cons b tb sy =>
   rw [List.zip_cons_cons,List.zipIdx_cons,List.forIn_cons,hf]
   refine wpAny_bind (wpAny_bind (wpAny_eqBool_int ?_))
   by_cases e:a=b
   ·rw [show (a == b)=true from by simpa using e,if_neg (by simp)]
    refine wpAny_pure (ih sy (k+1) Q fun r z=>h r ?_)
    cases r with
    | some v=>rw [show v=_ from z,ltI,if_pos e]
    | none =>
     show ltI (a::_) (b::_)=_
     rw [ltI,if_pos e,show ltI _ _=_ from z]
     simp
   ·rw [show (a == b)=false from by simpa using e,if_pos (by simp)]
    refine wpAny_bind (oneLtI_any (wpAny_pure (wpAny_pure (h (some _) ?_))))
    show _=ltI (a::_) (b::_)
    rw [ltI,if_neg e]
theorem ltI_tups {x y:Addr} {xs ys:List Value} {as bs:List Int} {o:Bool} {Q:Bool->Shared->Prop} (hx:IsTup s.heap x xs.toArray) (hy:IsTup s.heap y ys.toArray) (sx:IntsAre xs as) (sy:IntsAre ys bs) (h:Q (ltI as bs) s) :
  wpAny (model prog w) A (keyLt' (tuples' o) (.ref x) (.ref y)) Q E s:=by
 obtain ⟨ox,hox,_,nx,dx⟩:=hx
 obtain ⟨oy,hoy,_,ny,dy⟩:=hy
 rw [keyLt_tuples]
 refine wpAny_bind (listItems_at hox dx ?_)
 refine wpAny_bind (listItems_at hoy dy ?_)
 refine wpAny_bind ?_
 refine ltI_loop (o:=o) (fun p q i=>rfl) (by simpa using sx) (by simpa using sy) 0 _ fun r z=>?_
 cases r with
 | some v=>rw [show v=_ from z];exact wpAny_pure h
 | none =>
  refine wpAny_pure ?_
  have lx:=ints_len sx
  have ly:=ints_len sy
  rw [List.size_toArray,List.size_toArray,lx,ly,<- show ltI as bs=_ from z]
  exact h
def TupsVI (h:Heap):List Value->List (List Int)->Prop:=Paired fun v zs=>∃ a its,v=.ref a/\IsTup h a its.toArray/\IntsAre its zs
theorem firstI_tup {a:Addr} {its:List Value} {z:Int} {zs:List Int} {Q:Option Value->Shared->Prop} (ha:IsTup s.heap a its.toArray) (q:IntsAre its (z::zs)) (h:∀ t,Q (some (.int z t)) s):wpAny (model prog w) A (firstOfTuple' (.ref a)) Q E s:=by
 obtain ⟨o,ho,hc,n,hd⟩:=id ha
 cases q with
 | cons _ t r =>
  show wpAny _ _ (typeOf (.ref a) >>= fun t=>if (t != .type "tuple")=true then pure none else Builtin.List.listItems (.ref a) >>= fun xs=>pure xs[0]?) _ _ _
  refine wpAny_bind (wpAny_typeOf ha.typeIs ?_)
  rw [if_neg (by decide)]
  exact wpAny_bind (listItems_at ho hd (wpAny_pure (h t)))
theorem firstsI:∀ {us:List Value} {zss:List (List Int)} {Q:List (Option Value)->Shared->Prop},TupsVI s.heap us zss->(∀ zs∈zss,zs≠[])->(∀ vs ss,IntsAre vs ss->vs.length=us.length->Q (vs.map some) s)->wpAny (model prog w) A (us.mapM firstOfTuple') Q E s
 | [],_,Q,.nil,_,h=>by rw [List.mapM_nil];exact wpAny_pure (h [] [] .nil rfl)
 | u::us,_,Q,.cons (b:=zs) ⟨a,its,e,ha,q⟩ t,ne,h=>by
  subst e
  rw [List.mapM_cons]
  match zs,q,ne zs List.mem_cons_self with
  | z::zr,q,_ =>
   refine wpAny_bind (firstI_tup ha q fun tk=>wpAny_bind (firstsI t (fun zs' hz=>ne zs' (List.mem_cons_of_mem _ hz)) fun vs ss sv lv=>wpAny_pure ?_))
   exact h (.int z tk::vs) (z::ss) (.cons z tk sv) (by simp [lv])
  | [],_,z=>exact absurd rfl z
theorem kindI_tups {us:List Value} {zss:List (List Int)} {R:SortKind->Shared->Prop} (t:TupsVI s.heap us zss) (ne:∀ zs∈zss,zs≠[]) (two:2<=us.length) (h:R (tuples' true) s):wpAny (model prog w) A (keyKind' us.toArray) R E s:=by
 rw [keyKind'_eq,List.mapM_toArray]
 refine wpAny_bind ?_
 show wpAny _ _ (List.toArray <$> us.mapM firstOfTuple') _ _ _
 rw [map_eq_pure_bind]
 refine wpAny_bind (firstsI t ne fun vs ss sv lv=>wpAny_pure ?_)
 rw [if_pos (by simp)]
 refine wpAny_bind (wpAny_rule ?_)
 have e:((vs.map some).toArray.filterMap id)=vs.toArray:=by simp
 rw [e,oneTypeOnly'_eq,List.mapM_toArray,mapM_typeOf_ints sv]
 simp only [map_pure,pure_bind]
 match vs,lv,sv with
 | v::r,lv,sv =>
  have all:((List.map (fun _=>Value.type "int") (v::r)).toArray.all fun x=>x == Value.type "int")=true:=by
   simp only [List.all_toArray,List.all_map,List.all_eq_true]
   intro _ _;rfl
  have h0:(List.map (fun _=>Value.type "int") (v::r)).toArray[0]?=some (Value.type "int"):=by simp
  rw [h0]
  simp only [all,if_true,pure_bind]
  exact wpAny_pure h
 | [],lv,_=>simp at lv;omega
end
def keyAtI (ps:List (Addr × List Int)) (a:Addr):List Int:=((ps.find? fun p=>decide (p.1=a)).map (·.2)).getD []
theorem int_inj:∀ {xs ys:List Int},xs.map V.int=ys.map V.int->xs=ys
 | [],[],_=>rfl
 | [],_::_,h=>by simp at h
 | _::_,[],h=>by simp at h
 | x::xs,y::ys,h=>by
  simp only [List.map_cons,List.cons.injEq,V.int.injEq] at h
  rw [h.1,int_inj h.2]
theorem keyAtI_of {H:Hp} {ps:List (Addr × List Int)} (h:HoldI H ps) {p:Addr × List Int} (hp:p∈ps):keyAtI ps p.1=p.2:=by
 unfold keyAtI
 cases e:ps.find? fun q=>decide (q.1=p.1) with
 | none =>
  have:=List.find?_eq_none.mp e p hp
  simp at this
 | some q =>
  have h1:=List.find?_some e
  have h2:=List.mem_of_find?_eq_some e
  have e1:q.1=p.1:=by simpa using h1
  have a:=h q h2
  rw [e1,h p hp] at a
  have a':p.2.map V.int=q.2.map V.int:=by injection a with a;injection a
  exact (int_inj a').symm
section
variable {prog:Program} {w:World} {A:Around} {E:Value->Shared->Prop} {s:Shared}
def TupFI (h:Heap) (f:Addr->List Int) (v:Value):Prop:=∃ a its,v=.ref a/\IsTup h a its.toArray/\IntsAre its (f a)/\f a≠[]
theorem TupFI.keep {h h':Heap} {f:Addr->List Int} {v:Value} (x:TupFI h f v) (k:∀ b o,h.get? b=some o->h'.get? b=some o):TupFI h' f v:=let ⟨a,its,e,⟨o,ho,r⟩,q⟩:=x;⟨a,its,e,⟨o,k _ _ ho,r⟩,q⟩
theorem tupsVI_of {h:Heap} {f:Addr->List Int}:∀ {us:List Value},(∀ v∈us,TupFI h f v)->∃ zss,TupsVI h us zss/\∀ zs∈zss,zs≠[]
 | [],_=>⟨[],.nil,fun _ z=>nomatch z⟩
 | u::us,k=>by
  obtain ⟨zss,t,n⟩:=tupsVI_of fun v hv=>k v (List.mem_cons_of_mem _ hv)
  obtain ⟨a,its,e,hi,hs,ne⟩:=k u List.mem_cons_self
  exact ⟨f a::zss,.cons ⟨a,its,e,hi,hs⟩ t,fun z hz=>(List.mem_cons.mp hz).elim (fun e=>e ▸ ne) (n z)⟩
theorem cmp_tupsI {us:List Value} {f:Addr->List Int} (k:∀ v∈us,TupFI s.heap f v):CmpS prog w A E s (pairsOf us) (tuples' true) (tupOrdI f):=by
 intro st i j R q hi hj hR
 have at_:∀ {i:Nat},i < (pairsOf us).size->∃ a its p,(arrOf st)[i]?=some (.ref a,p)/\IsTup s.heap a its.toArray/\IntsAre its (f a):=fun {i} hi=>by
  have hi':i < (arrOf st).size:=by rw [q.len];exact hi
  have m:(arrOf st)[i]∈(pairsOf us).toList:=by
   have:(arrOf st)[i]∈pairsOf us:=q.pm.mem_iff.mp (Array.getElem_mem hi')
   simpa using this
  have m2:((arrOf st)[i]).1∈us:=by
   have:(arrOf st)[i]∈us.zip us:=by simpa [pairsOf] using m
   exact (List.of_mem_zip this).1
  obtain ⟨a,its,e,h1,h2,_⟩:=k _ m2
  exact ⟨a,its,((arrOf st)[i]).2,by rw [Array.getElem?_eq_getElem hi',<- e],h1,h2⟩
 obtain ⟨a,ia,pa,ea,ta,sa⟩:=at_ hi
 obtain ⟨b,ib,pb,eb,tb,sb⟩:=at_ hj
 have ka:ky (tupOrdI f) st i=f a:=by show KK _ _ _=_;unfold KK;rw [ea];rfl
 have kb:ky (tupOrdI f) st j=f b:=by show KK _ _ _=_;unfold KK;rw [eb];rfl
 rw [ka,kb] at hR
 rw [ltAt'_eq]
 refine wpS_bind (wpS_get ?_)
 show wpS _ _ _ _ (do let x <- elem' (arrOf st) i;let y <- elem' (arrOf st) j;lt' x y) R st
 rw [elem'_eq,elem'_eq,ea,eb]
 refine wpS_bind (wpS_pure (wpS_bind (wpS_pure ?_)))
 rw [lt'_eq]
 refine wpS_bind (wpS_get ?_)
 rw [q.kn]
 refine wpS_bind (wpS_lift (wpAny_attempt (ltI_tups ta tb sa sb ⟨rfl,?_⟩)))
 exact wpS_pure hR
theorem sorts_tupsI {h:Heap} {tk:Nat} {us:List Value} {f:Addr->List Int} {Q:Value->Shared->Prop} (hk:∀ v∈us,TupFI h f v) (few:us.length<=PySem.sizeLine)
  (q:∀ (out:List Addr) (n:Nat) (h2:Heap),(out.map Value.ref).Perm us->out.Pairwise (fun a b=>ltI (f b) (f a)=false)->(∀ b o,h.get? b=some o->h2.get? b=some o)->h2.get? h.objs.size=some { cls:=.type "list",data:=.seq (out.map Value.ref).toArray n }->Q (.ref h.objs.size) { s with heap:=h2,toks:=tk }) :
  wpAny (model prog w) A (call (.builtin "list.sort") [.ref h.objs.size]) (fun _ s'=>Q (.ref h.objs.size) s') E { s with heap:=h.push { cls:=.type "list",data:=.seq us.toArray },toks:=tk }:=by
 have at0:(h.push { cls:=.type "list",data:=.seq us.toArray }).get? h.objs.size=some (seqObj "list" us.toArray 0):=Heap.get?_push_size _ rfl
 refine wpAny_call_entry PySem.F.slot_list_sort ⟨_,at0,rfl⟩ PySem.F.entry_list_sort ?_ (args_list_sort _)
 refine sort_anyL (h:=h) (us:=us) rfl few (tuples' true) (tupOrdI f) (fun t kp two R r=>?_) (fun t kp=>cmp_tupsI fun v hv=>(hk v hv).keep kp) fun out n h2 pm srt kp g=>⟨_,rfl,?_⟩
 ·obtain ⟨zss,T,ne⟩:=tupsVI_of fun v hv=>(hk v hv).keep kp
  exact kindI_tups T ne two r
 ·have ln:out.size=us.length:=by rw [pm.size_eq,pairsOf_size]
  have pr:∀ x∈out.toList,x.1=x.2/\x.2∈us:=fun x hx=>by
   have m:x∈(pairsOf us).toList:=by
    have:x∈pairsOf us:=pm.mem_iff.mp (by simpa using hx)
    simpa using this
   have m':x∈us.zip us:=by simpa [pairsOf] using m
   obtain ⟨a,b⟩:=x
   refine ⟨?_,(List.of_mem_zip m').2⟩
   obtain ⟨i,hi,e⟩:=List.getElem_of_mem m'
   rw [List.getElem_zip] at e
   cases e
   rfl
  have ad:∃ outs:List Addr,out.toList.map (·.2)=outs.map Value.ref:=by
   have:∀ l:List Keyed,(∀ x∈l,x.2∈us)->∃ outs:List Addr,l.map (·.2)=outs.map Value.ref:=by
    intro l
    induction l with
    | nil=>intro _;exact ⟨[],rfl⟩
    | cons x l ih =>
     intro hx
     obtain ⟨outs,e⟩:=ih fun y hy=>hx y (List.mem_cons_of_mem _ hy)
     obtain ⟨a,its,ea,_⟩:=hk _ (hx x List.mem_cons_self)
     exact ⟨a::outs,by rw [List.map_cons,List.map_cons,e,ea]⟩
   exact this _ fun x hx=>(pr x hx).2
  obtain ⟨outs,eo⟩:=ad
  have lo:outs.length=us.length:=by
   have:=congrArg List.length eo
   simp at this
   omega
  have zu:(us.zip us).map (·.2)=us:=by
   have:∀ l:List Value,(l.zip l).map (·.2)=l:=fun l=>by induction l with | nil=>rfl | cons x l ih=>simp [ih]
   exact this us
  refine q outs n h2 ?_ ?_ kp ?_
  ·rw [<- eo]
   have p1:out.toList.Perm (pairsOf us).toList:=Array.perm_iff_toList_perm.mp pm
   have p2:=p1.map (·.2)
   have e2:(pairsOf us).toList.map (·.2)=us:=by
    have:(pairsOf us).toList=us.zip us:=by simp [pairsOf]
    rw [this,zu]
   rw [e2] at p2
   exact p2
  ·refine List.pairwise_iff_getElem.mpr fun i j hi hj ij=>?_
   have s0:=srt i j (by omega) (by omega)
   have kk:∀ {i:Nat} (hi:i < outs.length),KK (tupOrdI f) out i=f outs[i]:=fun {i} hi=>by
    have hi':i < out.size:=by omega
    have e1:out[i]?=some out[i]:=Array.getElem?_eq_getElem hi'
    have m:=pr out[i] (by simp)
    have e2:out[i].2=Value.ref outs[i]:=by
     have:=congrArg (fun l=>l[i]?) eo
     simp [hi',hi] at this
     exact this
    unfold KK
    rw [e1]
    show ((tupOrdI f).keyOf out[i].1).getD _=_
    rw [m.1,e2]
    rfl
   rw [kk hi,kk hj] at s0
   exact s0
  ·rw [g]
   have:(out.map (·.2))=(outs.map Value.ref).toArray:=by
    apply Array.toList_inj.mp
    simp [eo]
   rw [this]
end
section
variable {X:Cx}
def rSortTI (K:PySem.W.Frag):List V->Hp->VK->Prop:=fun xs H Q=>∃ (p:Addr) (ps:List (Addr × List Int)),xs=[.ref p]/\SqL K H p (ps.map fun q=>V.ref q.1)/\HoldI H ps/\(∀ x∈ps,x.2≠[])/\ps.length<=10000 /\
  ∀ l (qs:List (Addr × List Int)),H l=none->qs.Perm ps->qs.Pairwise (fun a b=>ltI b.2 a.2=false)->Q (.ref l) (upd H l (.lst (qs.map fun q=>V.ref q.1)))
theorem call_sorted_ltI:CallR X (.builtin "sorted") (rSortTI X.K):=by
 intro pins s σ H xs us Q I r h
 obtain ⟨p,ps,rfl,hp,hold,ne,few,q⟩:=h
 obtain ⟨u,rfl,rx⟩:=vals1 r
 cases rx
 obtain ⟨its,rv,pl,_⟩:=I.list hp
 have hl:=rv.length
 rw [List.length_map] at hl
 have ei:its=ps.map fun q=>Value.ref q.1:=by
  have:∀ (l:List (Addr × List Int)) (vs:List Value),Vals (l.map fun q=>V.ref q.1) vs->vs=l.map fun q=>Value.ref q.1:=by
   intro l
   induction l with
   | nil=>intro vs h;cases h;rfl
   | cons x l ih =>
    intro vs h
    cases h with
    | cons r t =>
     cases r
     rw [ih _ t]
     rfl
  exact this ps its rv
 refine Calls.call_function_entry kind_sorted plain_sorted entry_sorted (args_sorted1 _) ?_
 unfold Builtin.«sorted»
 apply wpAny_bind (m:=checkCount "sorted" 1 1 _)
 apply wpAny_pure
 apply wpAny_bind
 obtain ⟨o,ho,hc,n0,hd⟩:=pl.isList
 refine wpAny_collect_seq p (.inl rfl) ho hc hd (fun h1 keep=>?_) (by simp only [List.size_toArray];exact Nat.le_trans (by omega) (show 10000<=sizeLine by decide))
 have tf:∀ v∈its,TupFI h1 (keyAtI ps) v:=fun v hv=>by
  rw [ei] at hv
  obtain ⟨pp,hpp,rfl⟩:=List.mem_map.mp hv
  obtain ⟨its,rv,⟨ot,ho,r1⟩,_⟩:=I.tuple (SqT.of (K:=X.K) (hold pp hpp))
  have e:=keyAtI_of hold hpp
  exact ⟨pp.1,its,rfl,⟨ot,keep _ _ ho,r1⟩,by rw [e];exact ints_of rv,by rw [e];exact ne pp hpp⟩
 apply wpAny_bind
 refine wpAny_newList ?_ (by simp only [];exact Nat.le_trans (by omega) (show 10000<=sizeLine by decide))
 apply wpAny_bind
 apply wpAny_holding
 refine wpAny_mono (sorts_tupsI (prog:=X.prog) (w:=X.w) (s:=s) (h:=h1) (us:=its) (tk:=s.toks) (Q:=EP X pins σ Q) tf (Nat.le_trans (show its.length<=10000 by omega) (by decide)) fun out n h2 o1 o2 o3 o4=>?_) (fun _ _ z=>wpAny_pure ⟨_,rfl,z⟩) fun _ _ z=>z
 have no:s.heap.get? h1.objs.size=none:=by
  cases e:s.heap.get? h1.objs.size with
  | none=>rfl
  | some o=>exact absurd (Heap.lt_size (keep _ _ e)) (Nat.lt_irrefl _)
 have noH:H h1.objs.size=none:=by
  cases e:H h1.objs.size with
  | none=>rfl
  | some o =>
   obtain ⟨u,eu⟩:=(I.hok _ _ e).there
   rw [no] at eu;cases eu
 have pa:out.Perm (ps.map (·.1)):=by
  have:=(ei ▸ o1).map fun v=>match v with | Value.ref a=>a | _=>0
  rw [List.map_map,List.map_map] at this
  have e1:(out.map ((fun v=>match v with | Value.ref a=>a | _=>0) ∘ Value.ref))=out:=by
   rw [show ((fun v=>match v with | Value.ref a=>a | _=>(0:Addr)) ∘ Value.ref)=id from rfl];simp
  rw [e1] at this
  exact this
 have qp:(out.map fun a=>(a,keyAtI ps a)).Perm ps:=by
  have:=pa.map fun a=>(a,keyAtI ps a)
  rw [List.map_map] at this
  have e:ps.map ((fun a=>(a,keyAtI ps a)) ∘ (·.1))=ps:=by
   have:∀ l:List (Addr × List Int),(∀ x∈l,x∈ps)->l.map ((fun a=>(a,keyAtI ps a)) ∘ (·.1))=l:=by
    intro l
    induction l with
    | nil=>intro _;rfl
    | cons y l ih =>
     intro hy
     rw [List.map_cons,ih fun z hz=>hy z (List.mem_cons_of_mem _ hz)]
     show (y.1,keyAtI ps y.1)::l=y::l
     rw [keyAtI_of hold (hy y List.mem_cons_self)]
   exact this ps fun _ h=>h
  rw [e] at this
  exact this
 have qw:(out.map fun a=>(a,keyAtI ps a)).Pairwise (fun a b=>ltI b.2 a.2=false):=List.pairwise_map.mpr o2
 have em:(out.map fun a=>(a,keyAtI ps a)).map (fun q=>V.ref q.1)=out.map V.ref:=by rw [List.map_map];rfl
 have fin:=q h1.objs.size _ noH qp qw
 rw [em] at fin
 refine ⟨.ref h1.objs.size,_,I.laidN (t':=s.toks) (o:=.lst (out.map V.ref)) (fun b o e=>o3 _ _ (keep _ _ e)) no noH ?_,rfl,fin⟩
 refine ⟨by rw [List.length_map];have:=qp.length_eq;rw [List.length_map] at this;rw [this];exact Nat.le_trans few (by decide),out.map Value.ref,n,?_,o4⟩
 have:∀ l:List Addr,Vals (l.map V.ref) (l.map Value.ref):=fun l=>by
  induction l with
  | nil=>exact .nil
  | cons x l ih=>exact .cons rfl ih
 exact this out
end
end L3
namespace K75
open L2
theorem perm_of_sub' {l m:List Nat} (hl:l.Nodup) (hm:m.Nodup) (sub:∀ x∈l,x∈m) (le:m.length<=l.length):l.Perm m:=perm_of hl hm fun x=>⟨sub x,fun hx=>by
 by_cases h:x∈l
 ·exact h
 ·have:(x::l).length<=m.length:=(List.nodup_cons.mpr ⟨h,hl⟩).length_le_of_subset fun y hy=>by
   rcases List.mem_cons.mp hy with rfl | hy
   ·exact hx
   ·exact sub y hy
  simp at this
  omega⟩
section
variable {α:Type} [DecidableEq α] (a b:Nat->α)
def chn:α->List Nat->α->Prop
 | x,[],y=>x=y
 | x,k::c,y=>a k=x/\chn (b k) c y
theorem chn_app:∀ {x y:α} {c d:List Nat},chn a b x (c++d) y ↔ ∃ z,chn a b x c z/\chn a b z d y
 | x,y,[],d=>by
  constructor
  ·intro h;exact ⟨x,rfl,h⟩
  ·rintro ⟨z,rfl,h⟩;exact h
 | x,y,k::c,d=>by
  rw [List.cons_append]
  show (a k=x/\chn a b (b k) (c++d) y) ↔ ∃ z,(a k=x/\chn a b (b k) c z)/\chn a b z d y
  rw [chn_app]
  constructor
  ·rintro ⟨h,z,h1,h2⟩;exact ⟨z,⟨h,h1⟩,h2⟩
  ·rintro ⟨z,⟨h,h1⟩,h2⟩;exact ⟨h,z,h1,h2⟩
def Inj (s:List Nat):Prop:=∀ k∈s,∀ l∈s,a k=a l->k=l
theorem inj_of:∀ {s:List Nat},(s.map a).Nodup->Inj a s
 | [],_=>fun _ h=>nomatch h
 | m::s,h=>by
  rw [List.map_cons,List.nodup_cons] at h
  have ih:=inj_of h.2
  intro k hk l hl e
  rcases List.mem_cons.mp hk with rfl | hk
  ·rcases List.mem_cons.mp hl with rfl | hl
   ·rfl
   ·exact absurd (List.mem_map.mpr ⟨l,hl,e.symm⟩) h.1
  ·rcases List.mem_cons.mp hl with q | hl
   ·rw [q] at e;exact absurd (List.mem_map.mpr ⟨k,hk,e⟩) h.1
   ·exact ih k hk l hl e
theorem nodup_of_map {f:Nat->α}:∀ {s:List Nat},(s.map f).Nodup->s.Nodup
 | [],_=>List.nodup_nil
 | m::s,h=>by
  rw [List.map_cons,List.nodup_cons] at h
  exact List.nodup_cons.mpr ⟨fun q=>h.1 (List.mem_map.mpr ⟨m,q,rfl⟩),nodup_of_map h.2⟩
theorem chn_det {s:List Nat} (inj:Inj a s) {x:α}:∀ {e e':List Nat} {y:α},chn a b y e x->chn a b y e' x->(∀ k∈e,k∈s/\a k≠x)->(∀ k∈e',k∈s/\a k≠x)->e=e'
 | [],[],_,_,_,_,_=>rfl
 | [],k::e',y,h,h',_,f'=>absurd (h'.1.trans h) (f' k List.mem_cons_self).2
 | k::e,[],y,h,h',f,_=>absurd (h.1.trans h') (f k List.mem_cons_self).2
 | k::e,k'::e',y,h,h',f,f'=>by
  obtain rfl:=inj k (f k List.mem_cons_self).1 k' (f' k' List.mem_cons_self).1 (h.1.trans h'.1.symm)
  rw [chn_det inj h.2 h'.2 (fun l hl=>f l (List.mem_cons_of_mem _ hl)) fun l hl=>f' l (List.mem_cons_of_mem _ hl)]
theorem chn_nodup {s:List Nat} (inj:Inj a s) {x:α}:∀ {e:List Nat} {y:α},chn a b y e x->(∀ k∈e,k∈s/\a k≠x)->(e.map a).Nodup
 | [],_,_,_=>List.nodup_nil
 | k::e,y,h,f=>by
  have fe:∀ l∈e,l∈s/\a l≠x:=fun l hl=>f l (List.mem_cons_of_mem _ hl)
  rw [List.map_cons,List.nodup_cons]
  refine ⟨fun q=>?_,chn_nodup inj h.2 fe⟩
  obtain ⟨l,hl,el⟩:=List.mem_map.mp q
  obtain rfl:=inj l (fe l hl).1 k (f k List.mem_cons_self).1 el
  obtain ⟨e1,e2,rfl⟩:=List.append_of_mem hl
  obtain ⟨z,_,h2⟩:=(chn_app a b).mp h.2
  have:=chn_det a b inj h.2 h2.2 fe fun m hm=>fe m (List.mem_append_right _ (List.mem_cons_of_mem _ hm))
  have:=congrArg List.length this
  simp at this
  omega
structure CycX (x:α) (c:List Nat):Prop where
 ne:c≠[]
 ch:chn a b x c x
 nd:(c.map a).Nodup
theorem CycX.shape {x:α} {c:List Nat} (h:CycX a b x c):∃ k e,c=k::e/\a k=x/\chn a b (b k) e x/\(∀ l∈e,a l≠x)/\(e.map a).Nodup:=by
 match c,h with
 | [],h=>exact absurd rfl h.ne
 | k::e,h =>
  have nd:=h.nd
  rw [List.map_cons,List.nodup_cons] at nd
  exact ⟨k,e,rfl,h.ch.1,h.ch.2,fun l hl q=>nd.1 (List.mem_map.mpr ⟨l,hl,q.trans h.ch.1.symm⟩),nd.2⟩
theorem CycX.turn {x:α} {c:List Nat} (h:CycX a b x c) {k:Nat} (hk:k∈c):∃ d,CycX a b (a k) d/\d.Perm c:=by
 obtain ⟨c1,c2,rfl⟩:=List.append_of_mem hk
 obtain ⟨z,h1,h2⟩:=(chn_app a b).mp h.ch
 have pm:(k::c2++c1).Perm (c1++k::c2):=List.perm_append_comm
 refine ⟨k::c2++c1,⟨by simp,(chn_app a b).mpr ⟨x,⟨rfl,h2.2⟩,?_⟩,?_⟩,pm⟩
 ·rw [h2.1];exact h1
 ·exact ((pm.map a).nodup_iff).mpr h.nd
theorem CycX.same {x:α} {c d:List Nat} (h:CycX a b x c) (g:CycX a b x d) (sub:∀ k∈c,k∈d):c=d:=by
 have inj:=inj_of a g.nd
 obtain ⟨k,e,rfl,k1,k2,k3,_⟩:=h.shape
 obtain ⟨l,m,rfl,l1,l2,l3,_⟩:=g.shape
 obtain rfl:=inj k (sub k List.mem_cons_self) l List.mem_cons_self (k1.trans l1.symm)
 rw [chn_det a b inj k2 l2 (fun j hj=>⟨sub j (List.mem_cons_of_mem _ hj),k3 j hj⟩) fun j hj=>⟨List.mem_cons_of_mem _ hj,l3 j hj⟩]
def fnd (s:List Nat) (x:α):Option α:=(s.find? fun k=>decide (a k=x)).map b
def wlk (f:α->Option α) (x0:α):Nat->Option α->Bool
 | 0,h=>decide (h.bind f=some x0)
 | n+1,h=>if h.bind f=some x0 then false else wlk f x0 n (h.bind f)
def isR (s:List Nat):Bool:=match s with
 | []=>false
 | k::r=>decide (((k::r).map a).Nodup) && wlk (fnd a b (k::r)) (a k) r.length (some (a k))
variable {a b}
theorem fnd_at {s:List Nat} (inj:Inj a s) {k:Nat} (hk:k∈s):fnd a b s (a k)=some (b k):=by
 unfold fnd
 cases e:s.find? (fun l=>decide (a l=a k)) with
 | none=>have:=List.find?_eq_none.mp e k hk;simp at this
 | some l =>
  have h1:=List.mem_of_find?_eq_some e
  have h2:a l=a k:=by simpa using List.find?_some e
  rw [inj l h1 k hk h2]
  rfl
theorem fnd_of {s:List Nat} {x y:α} (h:fnd a b s x=some y):∃ k∈s,a k=x/\b k=y:=by
 unfold fnd at h
 obtain ⟨k,e,rfl⟩:=Option.map_eq_some_iff.mp h
 exact ⟨k,List.mem_of_find?_eq_some e,by simpa using List.find?_some e,rfl⟩
theorem wlk_none (f:α->Option α) (x0:α):∀ n,wlk f x0 n none=false
 | 0=>rfl
 | n+1=>by
  unfold wlk
  rw [if_neg (fun e=>nomatch e)]
  exact wlk_none f x0 n
theorem wlk_to {s:List Nat} (inj:Inj a s) {x0:α}:∀ {e:List Nat} {y w:α},fnd a b s w=some y->chn a b y e x0->(∀ k∈e,k∈s/\a k≠x0)->wlk (fnd a b s) x0 e.length (some w)=true
 | [],y,w,h,c,_=>by
  show decide ((some w).bind (fnd a b s)=some x0)=true
  rw [Option.bind_some,h]
  exact decide_eq_true (congrArg some c)
 | k::e,y,w,h,c,f=>by
  obtain ⟨hk,nk⟩:=f k List.mem_cons_self
  rw [List.length_cons]
  unfold wlk
  rw [Option.bind_some,h,<- c.1,if_neg (fun q=>nk (Option.some.inj q))]
  exact wlk_to inj (fnd_at inj hk) c.2 fun l hl=>f l (List.mem_cons_of_mem _ hl)
theorem wlk_from {s:List Nat} {x0:α}:∀ {n:Nat} {w:α},wlk (fnd a b s) x0 n (some w)=true->∃ y e,fnd a b s w=some y/\e.length=n/\chn a b y e x0/\∀ k∈e,k∈s/\a k≠x0
 | 0,w,h=>by
  unfold wlk at h
  exact ⟨x0,[],of_decide_eq_true h,rfl,rfl,fun _ z=>nomatch z⟩
 | n+1,w,h=>by
  unfold wlk at h
  rw [Option.bind_some] at h
  split at h
  ·cases h
  ·rename_i ne
   cases e:fnd a b s w with
   | none=>rw [e,wlk_none] at h;cases h
   | some y =>
    rw [e] at h ne
    obtain ⟨y',e',h1,h2,h3,h4⟩:=wlk_from h
    obtain ⟨k,k1,k2,k3⟩:=fnd_of h1
    refine ⟨y,k::e',rfl,by simp [h2],⟨k2,by rw [k3];exact h3⟩,fun l hl=>?_⟩
    rcases List.mem_cons.mp hl with rfl | hl
    ·exact ⟨k1,fun q=>ne (by rw [<- k2,q])⟩
    ·exact h4 l hl
theorem isR_iff {s:List Nat} (nd:s.Nodup):isR a b s=true ↔ ∃ x c,CycX a b x c/\c.Perm s:=by
 match s,nd with
 | [],_ =>
  constructor
  ·intro h;cases h
  ·rintro ⟨x,c,h,p⟩;exact absurd p.eq_nil h.ne
 | k::r,nd =>
  show (decide (((k::r).map a).Nodup) && wlk (fnd a b (k::r)) (a k) r.length (some (a k)))=true ↔ _
  rw [Bool.and_eq_true,decide_eq_true_iff]
  constructor
  ·rintro ⟨ha,hw⟩
   have inj:=inj_of a ha
   obtain ⟨y,e,h1,h2,h3,h4⟩:=wlk_from hw
   have h1':b k=y:=by rw [fnd_at inj List.mem_cons_self] at h1;exact Option.some.inj h1
   have ne:=chn_nodup a b inj h3 h4
   have nc:((k::e).map a).Nodup:=by
    rw [List.map_cons,List.nodup_cons]
    refine ⟨fun q=>?_,ne⟩
    obtain ⟨l,hl,el⟩:=List.mem_map.mp q
    exact (h4 l hl).2 el
   refine ⟨a k,k::e,⟨by simp,⟨rfl,by rw [h1'];exact h3⟩,nc⟩,?_⟩
   refine perm_of_sub' (nodup_of_map nc) nd (fun l hl=>?_) (by simp [h2])
   rcases List.mem_cons.mp hl with rfl | hl
   ·exact List.mem_cons_self
   ·exact (h4 l hl).1
  ·rintro ⟨x,c,h,p⟩
   have ha:((k::r).map a).Nodup:=((p.map a).nodup_iff).mp h.nd
   refine ⟨ha,?_⟩
   have inj:=inj_of a ha
   obtain ⟨d,g,pd⟩:=h.turn a b (p.mem_iff.mpr (List.mem_cons_self (a:=k)))
   have pd':=pd.trans p
   obtain ⟨l,e,rfl,l1,l2,l3,_⟩:=g.shape
   obtain rfl:=inj l (pd'.mem_iff.mp List.mem_cons_self) k List.mem_cons_self l1
   have le:e.length=r.length:=by have:=pd'.length_eq;simpa using this
   rw [<- le]
   exact wlk_to inj (fnd_at inj List.mem_cons_self) l2 fun j hj=>⟨pd'.mem_iff.mp (List.mem_cons_of_mem _ hj),l3 j hj⟩
end
section
variable {α:Type} [DecidableEq α] (a b:Nat->α) (nt:Nat) (lt:α->α->Prop) (st:α) (lb:List α->α->Bool)
abbrev Nod (α:Type):=List Nat × α
def bnn (p:Nod α):List α:=p.1.map a++[p.2]
def clo (p:Nod α) (n:Nat):List (List Nat):=((List.range n).filter fun k=>decide (a k=p.2) && decide (b k=st)).map fun k=>p.1++[k]
def ext (p:Nod α) (n:Nat):List (Nod α):=((List.range n).filter fun k=>decide (a k=p.2) && !decide (b k=st) && lb (bnn a p) (b k)).map fun k=>(p.1++[k],b k)
def srch:Nat->Nod α->List (List Nat)
 | 0,_=>[]
 | f+1,p=>clo a b st p nt++(ext a b st lb p nt).flatMap (srch f)
theorem clo_succ (p:Nod α) (n:Nat):clo a b st p (n+1)=clo a b st p n++(if a n=p.2/\b n=st then [p.1++[n]] else []):=by
 unfold clo
 rw [List.range_succ,List.filter_append,List.map_append]
 by_cases h:a n=p.2/\b n=st
 ·rw [if_pos h];simp [h.1,h.2]
 ·rw [if_neg h]
  have:(decide (a n=p.2) && decide (b n=st))=false:=by
   rw [Bool.eq_false_iff];intro q;rw [Bool.and_eq_true] at q;exact h ⟨of_decide_eq_true q.1,of_decide_eq_true q.2⟩
  simp [this]
theorem ext_succ (p:Nod α) (n:Nat):ext a b st lb p (n+1)=ext a b st lb p n++(if a n=p.2/\¬ b n=st/\lb (bnn a p) (b n)=true then [(p.1++[n],b n)] else []):=by
 unfold ext
 rw [List.range_succ,List.filter_append,List.map_append]
 by_cases h:a n=p.2/\¬ b n=st/\lb (bnn a p) (b n)=true
 ·rw [if_pos h];simp [h.1,h.2.1,h.2.2]
 ·rw [if_neg h]
  have:(decide (a n=p.2) && !decide (b n=st) && lb (bnn a p) (b n))=false:=by
   rw [Bool.eq_false_iff];intro q
   rw [Bool.and_eq_true,Bool.and_eq_true] at q
   exact h ⟨of_decide_eq_true q.1.1,by simpa using q.1.2,q.2⟩
  simp [this]
theorem clo_mem {p:Nod α} {n:Nat} {c:List Nat}:c∈clo a b st p n ↔ ∃ k,k < n/\a k=p.2/\b k=st/\c=p.1++[k]:=by
 unfold clo
 simp only [List.mem_map,List.mem_filter,List.mem_range,Bool.and_eq_true,decide_eq_true_iff]
 constructor
 ·rintro ⟨k,⟨h1,h2,h3⟩,rfl⟩;exact ⟨k,h1,h2,h3,rfl⟩
 ·rintro ⟨k,h1,h2,h3,rfl⟩;exact ⟨k,⟨h1,h2,h3⟩,rfl⟩
theorem ext_mem {p:Nod α} {n:Nat} {q:Nod α}:q∈ext a b st lb p n ↔ ∃ k,k < n/\a k=p.2/\b k≠st/\lb (bnn a p) (b k)=true/\q=(p.1++[k],b k):=by
 unfold ext
 simp only [List.mem_map,List.mem_filter,List.mem_range,Bool.and_eq_true,decide_eq_true_iff]
 constructor
 ·rintro ⟨k,⟨h1,⟨h2,h3⟩,h4⟩,rfl⟩;exact ⟨k,h1,h2,by simpa using h3,h4,rfl⟩
 ·rintro ⟨k,h1,h2,h3,h4,rfl⟩;exact ⟨k,⟨h1,⟨h2,by simpa using h3⟩,h4⟩,rfl⟩
theorem ext_len (p:Nod α) (n:Nat):(ext a b st lb p n).length<=n:=by
 unfold ext
 rw [List.length_map]
 refine Nat.le_trans (List.length_filter_le _ _) ?_
 rw [List.length_range];exact Nat.le_refl _
structure Vld (p:Nod α):Prop where
 ch:chn a b st p.1 p.2
 nd:(bnn a p).Nodup
 up:∀ z∈bnn a p,z=st\/lt st z
 kn:∀ k∈p.1,k < nt
structure CycAt (c:List Nat):Prop where
 cyc:CycX a b st c
 kn:∀ k∈c,k < nt
 up:∀ k∈c,a k=st\/lt st (a k)
structure Lbk (N:List α):Prop where
 sound:∀ bn y,lb bn y=true->y≠st->y∈N/\lt st y/\y ∉ bn
 full:∀ bn y e,y ∉ bn->lt st y->chn a b y e st->(∀ k∈e,k < nt/\a k ∉ bn/\lt st (a k))->e≠[]->lb bn y=true
variable {a b nt lt st lb}
theorem Vld.ext {N:List α} {p q:Nod α} (v:Vld a b nt lt st p) (L:Lbk a b nt lt st lb N) (h:q∈ext a b st lb p nt):Vld a b nt lt st q/\bnn a q=bnn a p++[q.2]/\q.2∈N:=by
 obtain ⟨k,h1,h2,h3,h4,rfl⟩:=(ext_mem a b st lb).mp h
 obtain ⟨s1,s2,s3⟩:=L.sound _ _ h4 h3
 have e:bnn a (p.1++[k],b k)=bnn a p++[b k]:=by simp [bnn,h2]
 refine ⟨⟨(chn_app a b).mpr ⟨p.2,v.ch,h2,rfl⟩,?_,?_,?_⟩,e,s1⟩
 ·rw [e,List.nodup_append]
  refine ⟨v.nd,by simp,fun x hx y hy q=>s3 ?_⟩
  rw [<- List.mem_singleton.mp hy,<- q];exact hx
 ·rw [e]
  intro z hz
  rcases List.mem_append.mp hz with q | q
  ·exact v.up z q
  ·rw [List.mem_singleton.mp q];exact .inr s2
 ·intro j hj
  rcases List.mem_append.mp hj with q | q
  ·exact v.kn j q
  ·rw [List.mem_singleton.mp q];exact h1
theorem srch_sound {N:List α} (L:Lbk a b nt lt st lb N):∀ {f:Nat} {p:Nod α},Vld a b nt lt st p->∀ c∈srch a b nt st lb f p,CycAt a b nt lt st c/\∃ k e,c=p.1++k::e/\(e=[] ↔ b k=st)
 | 0,_,_,c,h=>nomatch h
 | f+1,p,v,c,h=>by
  rw [srch] at h
  rcases List.mem_append.mp h with h | h
  ·obtain ⟨k,h1,h2,h3,rfl⟩:=(clo_mem a b st).mp h
   have em:(p.1++[k]).map a=bnn a p:=by simp [bnn,h2]
   refine ⟨⟨⟨by simp,(chn_app a b).mpr ⟨p.2,v.ch,h2,h3⟩,by rw [em];exact v.nd⟩,fun j hj=>?_,fun j hj=>v.up _ ?_⟩,k,[],rfl,fun _=>h3,fun _=>rfl⟩
   ·rcases List.mem_append.mp hj with q | q
    ·exact v.kn j q
    ·rw [List.mem_singleton.mp q];exact h1
   ·rw [<- em];exact List.mem_map.mpr ⟨j,hj,rfl⟩
  ·obtain ⟨q,hq,hc⟩:=List.mem_flatMap.mp h
   obtain ⟨g,k,e,rfl,_⟩:=srch_sound L (v.ext L hq).1 c hc
   obtain ⟨j,h1,h2,h3,h4,rfl⟩:=(ext_mem a b st lb).mp hq
   exact ⟨g,j,k::e,by simp,fun z=>(nomatch z),fun z=>absurd z h3⟩
theorem srch_full {N:List α} (L:Lbk a b nt lt st lb N):∀ {f:Nat} {p:Nod α} {e:List Nat},Vld a b nt lt st p->(∀ z∈bnn a p,z∈N)->N.length < f+(bnn a p).length->e≠[]->CycAt a b nt lt st (p.1++e)->p.1++e∈srch a b nt st lb f p
 | 0,p,e,v,sb,hf,_,_=>by
  have:=v.nd.length_le_of_subset sb
  omega
 | f+1,p,[],v,sb,hf,ne,_=>absurd rfl ne
 | f+1,p,k::e,v,sb,hf,_,c=>by
  rw [srch]
  obtain ⟨z,c1,c2⟩:=(chn_app a b).mp c.cyc.ch
  have ez:z=p.2:=by
   have:∀ (x y z:α) (g:List Nat),chn a b x g y->chn a b x g z->y=z:=by
    intro x y z g
    induction g generalizing x with
    | nil=>intro h1 h2;exact h1.symm.trans h2
    | cons k g ih=>intro h1 h2;exact ih _ h1.2 h2.2
   exact this _ _ _ _ c1 v.ch
  subst ez
  have kn:k < nt:=c.kn k (by simp)
  match e,c,c2 with
  | [],c,c2=>exact List.mem_append_left _ ((clo_mem a b st).mpr ⟨k,kn,c2.1,c2.2,rfl⟩)
  | l::e,c,c2 =>
   have em:(p.1++k::l::e).map a=bnn a p++(l::e).map a:=by simp [bnn,c2.1]
   have nd:=c.cyc.nd
   rw [em,List.nodup_append] at nd
   have stin:st∈bnn a p:=by
    unfold bnn
    cases hp:p.1 with
    | nil =>
     have:=v.ch
     rw [hp] at this
     simp [show st=p.2 from this]
    | cons j g =>
     have:=v.ch
     rw [hp] at this
     simp [this.1]
   have nst:∀ j∈l::e,a j ∉ bnn a p:=fun j hj q=>nd.2.2 _ q _ (List.mem_map.mpr ⟨j,hj,rfl⟩) rfl
   have ups:∀ j∈l::e,lt st (a j):=fun j hj=>(c.up j (List.mem_append_right _ (List.mem_cons_of_mem _ hj))).resolve_left fun q=>nst j hj (by rw [q];exact stin)
   have bl:b k=a l:=c2.2.1.symm
   have bn:b k ∉ bnn a p:=by rw [bl];exact nst l List.mem_cons_self
   have hl:lb (bnn a p) (b k)=true:=L.full _ _ (l::e) bn (by rw [bl];exact ups l List.mem_cons_self) c2.2 (fun j hj=>⟨c.kn j (List.mem_append_right _ (List.mem_cons_of_mem _ hj)),nst j hj,ups j hj⟩) (by simp)
   have hq:(p.1++[k],b k)∈ext a b st lb p nt:=(ext_mem a b st lb).mpr ⟨k,kn,c2.1,fun q=>bn (by rw [q];exact stin),hl,rfl⟩
   refine List.mem_append_right _ (List.mem_flatMap.mpr ⟨_,hq,?_⟩)
   obtain ⟨v2,e2,n2⟩:=v.ext L hq
   have:(p.1++[k],b k).1++(l::e)∈srch a b nt st lb f (p.1++[k],b k):=srch_full L v2 (by rw [e2];exact fun z hz=>(List.mem_append.mp hz).elim (sb z) fun q=>by rw [List.mem_singleton.mp q];exact n2) (by rw [e2];simp;omega) (by simp) (by simpa using c)
   simpa using this
theorem nodup_map_inj {β γ:Type} {f:β->γ} (inj:∀ x y,f x=f y->x=y) {l:List β} (h:l.Nodup):(l.map f).Nodup :=
 List.pairwise_map.mpr (h.imp fun ne q=>ne (inj _ _ q))
theorem srch_nodup {N:List α} (L:Lbk a b nt lt st lb N):∀ {f:Nat} {p:Nod α},Vld a b nt lt st p->(srch a b nt st lb f p).Nodup
 | 0,_,_=>List.nodup_nil
 | f+1,p,v=>by
  rw [srch,List.nodup_append]
  refine ⟨?_,?_,?_⟩
  ·unfold clo
   exact nodup_map_inj (fun x y h=>by simpa using h) (List.nodup_range.filter _)
  ·unfold List.Nodup
   rw [List.pairwise_flatMap]
   refine ⟨fun q hq=>srch_nodup L (v.ext L hq).1,?_⟩
   unfold ext
   rw [List.pairwise_map]
   refine (List.Pairwise.imp_of_mem (fun {x y} hx hy (hxy:x≠y) c hc d hd q=>?_) (List.nodup_range.filter _))
   have mx:(p.1++[x],b x)∈ext a b st lb p nt:=List.mem_map.mpr ⟨x,hx,rfl⟩
   have my:(p.1++[y],b y)∈ext a b st lb p nt:=List.mem_map.mpr ⟨y,hy,rfl⟩
   obtain ⟨_,k,e,rfl,_⟩:=srch_sound L (v.ext L mx).1 c hc
   obtain ⟨_,k',e',e2,_⟩:=srch_sound L (v.ext L my).1 d hd
   rw [<- q] at e2
   simp at e2
   exact hxy e2.1
  ·intro c hc d hd q
   obtain ⟨k,h1,h2,h3,rfl⟩:=(clo_mem a b st).mp hc
   obtain ⟨r,hr,hd⟩:=List.mem_flatMap.mp hd
   obtain ⟨_,k',e',e2,_⟩:=srch_sound L (v.ext L hr).1 d hd
   obtain ⟨j,j1,j2,j3,j4,rfl⟩:=(ext_mem a b st lb).mp hr
   rw [<- q] at e2
   simp at e2
end
def rise (nt:Nat) (c:List Nat):List Nat:=(List.range nt).filter fun k=>decide (k∈c)
theorem rise_lt (nt:Nat) (c:List Nat):(rise nt c).Pairwise (· < ·):=List.pairwise_lt_range.filter _
theorem rise_mem {nt:Nat} {c:List Nat} (h:∀ k∈c,k < nt) (k:Nat):k∈rise nt c ↔ k∈c:=by
 unfold rise
 rw [List.mem_filter,List.mem_range,decide_eq_true_iff]
 exact ⟨fun q=>q.2,fun q=>⟨h k q,q⟩⟩
theorem rise_nodup (nt:Nat) (c:List Nat):(rise nt c).Nodup:=List.nodup_range.filter _
theorem rise_perm {nt:Nat} {c:List Nat} (h:∀ k∈c,k < nt) (nd:c.Nodup):(rise nt c).Perm c:=perm_of (rise_nodup nt c) nd (rise_mem h)
section
variable {α:Type} [DecidableEq α] {a b:Nat->α} {nt:Nat} {lt:α->α->Prop} {lb:α->List α->α->Bool} {N:List α}
structure Ord (lt:α->α->Prop):Prop where
 ir:∀ x,¬ lt x x
 tr:∀ x y z,lt x y->lt y z->lt x z
 tot:∀ x y,x=y\/lt x y\/lt y x
theorem least_of (O:Ord lt):∀ {l:List Nat} (f:Nat->α),l≠[]->∃ k∈l,∀ j∈l,f j=f k\/lt (f k) (f j)
 | [],f,h=>absurd rfl h
 | [k],f,_=>⟨k,List.mem_cons_self,fun j hj=>.inl (by rw [List.mem_singleton.mp hj])⟩
 | k::l::r,f,_=>by
  obtain ⟨m,hm,h⟩:=least_of O (l:=l::r) f (by simp)
  rcases O.tot (f k) (f m) with q | q | q
  ·refine ⟨m,List.mem_cons_of_mem _ hm,fun j hj=>?_⟩
   rcases List.mem_cons.mp hj with rfl | hj
   ·exact .inl q
   ·exact h j hj
  ·refine ⟨k,List.mem_cons_self,fun j hj=>?_⟩
   rcases List.mem_cons.mp hj with rfl | hj
   ·exact .inl rfl
   ·rcases h j hj with z | z
    ·exact .inr (by rw [z];exact q)
    ·exact .inr (O.tr _ _ _ q z)
  ·refine ⟨m,List.mem_cons_of_mem _ hm,fun j hj=>?_⟩
   rcases List.mem_cons.mp hj with rfl | hj
   ·exact .inr q
   ·exact h j hj
variable (a b nt lb N)
def rgs (L:List α):List (List Nat):=L.flatMap fun st=>srch a b nt st (lb st) (N.length+1) ([],st)
variable {a b nt lb N}
theorem vld0 (st:α):Vld a b nt lt st ([],st):=⟨rfl,by simp [bnn],fun z hz=>.inl (by simpa [bnn] using hz),fun _ h=>nomatch h⟩
theorem rgs_mem (L:∀ st∈N,Lbk a b nt lt st (lb st) N) {c:List Nat}:c∈rgs a b nt lb N N ↔ ∃ st∈N,CycAt a b nt lt st c:=by
 unfold rgs
 rw [List.mem_flatMap]
 constructor
 ·rintro ⟨st,hs,h⟩;exact ⟨st,hs,(srch_sound (L st hs) (vld0 st) c h).1⟩
 ·rintro ⟨st,hs,h⟩
  refine ⟨st,hs,?_⟩
  have s0:∀ z∈bnn a (([],st):Nod α),z∈N:=fun z hz=>by
   have e:z=st:=by simpa [bnn] using hz
   rw [e];exact hs
  have:=srch_full (f:=N.length+1) (L st hs) (p:=([],st)) (e:=c) (vld0 st) s0 (by simp [bnn];omega) h.cyc.ne (by simpa using h)
  simpa using this
theorem CycAt.start (O:Ord lt) {s t:α} {c d:List Nat} (h:CycAt a b nt lt s c) (g:CycAt a b nt lt t d) (p:c.Perm d):s=t:=by
 obtain ⟨k,e,rfl,k1,_⟩:=h.cyc.shape
 obtain ⟨l,m,rfl,l1,_⟩:=g.cyc.shape
 have h1:=h.up l (p.mem_iff.mpr List.mem_cons_self)
 have g1:=g.up k (p.mem_iff.mp List.mem_cons_self)
 rw [l1] at h1
 rw [k1] at g1
 rcases h1 with q | q
 ·exact q.symm
 ·rcases g1 with r | r
  ·exact r
  ·exact absurd (O.tr _ _ _ q r) (O.ir _)
theorem rgs_apart (O:Ord lt) (L:∀ st∈N,Lbk a b nt lt st (lb st) N) (nd:N.Nodup):(rgs a b nt lb N N).Pairwise fun c d=>¬ c.Perm d:=by
 unfold rgs
 rw [List.pairwise_flatMap]
 refine ⟨fun st hs=>(srch_nodup (L st hs) (vld0 st)).imp_of_mem fun {c d} hc hd ne p=>?_,nd.imp_of_mem fun {s t} hs ht ne c hc d hd p=>?_⟩
 ·have h:=(srch_sound (L st hs) (vld0 st) c hc).1
  have g:=(srch_sound (L st hs) (vld0 st) d hd).1
  exact ne (h.cyc.same a b g.cyc fun k hk=>p.mem_iff.mp hk)
 ·exact ne (CycAt.start O (srch_sound (L s hs) (vld0 s) c hc).1 (srch_sound (L t ht) (vld0 t) d hd).1 p)
theorem rise_inj {c d:List Nat} (hc:∀ k∈c,k < nt) (hd:∀ k∈d,k < nt) (nc:c.Nodup) (nd:d.Nodup) (e:rise nt c=rise nt d):c.Perm d :=
 (rise_perm hc nc).symm.trans (e ▸ rise_perm hd nd)
theorem rgs_nodup (O:Ord lt) (L:∀ st∈N,Lbk a b nt lt st (lb st) N) (nd:N.Nodup):((rgs a b nt lb N N).map (rise nt)).Nodup:=by
 unfold List.Nodup
 rw [List.pairwise_map]
 refine (rgs_apart O L nd).imp_of_mem fun {c d} hc hd np e=>np ?_
 obtain ⟨s,hs,h⟩:=(rgs_mem L).mp hc
 obtain ⟨t,ht,g⟩:=(rgs_mem L).mp hd
 exact rise_inj h.kn g.kn (nodup_of_map h.cyc.nd) (nodup_of_map g.cyc.nd) e
end
end K75
namespace L2
open PySem PySem.Spec PyProof.Rows
def keyN:Option Key->Value->Bool
 | some k,v=>keyIs k v
 | none,.none=>true
 | none,_=>false
theorem none_eq {prog:Program} {w:World} {A:Around} {E:Value->Shared->Prop} {s:Shared} {Q:Bool->Shared->Prop} (h:Q true s):wpAny (model prog w) A (PySem.eqBool .none .none) Q E s:=SeqAt.EqAt.same _ _ _ _ _ h
theorem keyN_none {v:Value} (h:keyN none v=true):v=.none:=by
 cases v<;>first | rfl | (simp [keyN] at h)
def noneKind (prog:Program) (w:World):PySem.KeyKind prog w (Option Key) where
 is:=keyN
 hash:=fun k=>match k with | some k=>(mixKind prog w).hash k | none=>PySem.W.hashW w.params .none
 inj:=fun v a b ha hb=>by
  cases a with
  | none =>
   have:=keyN_none ha
   subst this
   cases b with
   | none=>rfl
   | some b=>rcases keyIs_shape (show keyIs b .none=true from hb) with ⟨i,t,_,e⟩ | ⟨x,t,_,e⟩<;>exact nomatch e
  | some a =>
   cases b with
   | none =>
    have:=keyN_none hb
    subst this
    rcases keyIs_shape (show keyIs a .none=true from ha) with ⟨i,t,_,e⟩ | ⟨x,t,_,e⟩<;>exact nomatch e
   | some b=>rw [(mixKind prog w).inj v a b ha hb]
 byValue:=fun k v h=>by
  cases k with
  | none=>rw [keyN_none h];rfl
  | some k=>exact (mixKind prog w).byValue k v h
 pyHash:=fun {A E s k v Q} hv h=>by
  cases k with
  | none =>
   have:=keyN_none hv
   subst this
   exact PySem.W.pyHash_slot (T:="NoneType") rfl F.slot_NoneType_hash F.entry_NoneType_hash (F.args_NoneType_hash_1 _) (beq_builtin_none _) (.inl rfl) (wpAny_bind (wpAny_pure (wpAny_bind (wpAny_mkInt (wpAny_pure ⟨_,_,rfl,h⟩)))))
  | some k=>exact (mixKind prog w).pyHash hv h
 eqBool:=fun {A E s a b u v Q} hu hv h=>by
  cases a with
  | none =>
   have:=keyN_none hu
   subst this
   cases b with
   | none =>
    have:=keyN_none hv
    subst this
    rw [decide_eq_true rfl] at h
    exact none_eq h
   | some b =>
    rw [decide_eq_false (fun e=>nomatch e)] at h
    rcases keyIs_shape hv with ⟨j,u,rfl,rfl⟩ | ⟨y,u,rfl,rfl⟩
    ·exact SeqAt.EqAt.none_int j u _ _ _ _ h
    ·exact SeqAt.EqAt.none_str y u _ _ _ _ h
  | some a =>
   cases b with
   | none =>
    have:=keyN_none hv
    subst this
    rw [decide_eq_false (fun e=>nomatch e)] at h
    rcases keyIs_shape hu with ⟨j,u,rfl,rfl⟩ | ⟨y,u,rfl,rfl⟩
    ·exact SeqAt.EqAt.int_none j u _ _ _ _ h
    ·exact SeqAt.EqAt.str_none y u _ _ _ _ h
   | some b =>
    refine (mixKind prog w).eqBool hu hv ?_
    have:decide (a=b)=decide (some a=some b):=by
     by_cases e:a=b
     ·rw [e];simp
     ·rw [decide_eq_false e,decide_eq_false (fun q=>e (Option.some.inj q))]
    rw [this];exact h
 «strs»:=fun k x t v h=>by
  cases k with
  | none=>exact nomatch keyN_none h
  | some k=>exact (mixKind prog w).strs k x t v h
theorem mapN {prog:Program} {w:World} {h:Heap} {a:Addr} {f:Key->Option Value} (m:h.MapOf (mixKind prog w) a f):h.MapOf (noneKind prog w) a fun k=>match k with | some k=>f k | none=>none:=by
 obtain ⟨o,es,ep,ho,hc,hd,hk,hf⟩:=m
 refine ⟨o,es,ep,ho,hc,hd,fun e he=>let ⟨k,h1,h2⟩:=hk e he;⟨some k,h1,h2⟩,fun k=>?_⟩
 cases k with
 | some k=>exact hf k
 | none =>
  show findBy keyN es none=none
  have:es.find? (fun e=>keyN none e.key)=none:=by
   rw [Array.find?_eq_none]
   intro e he
   obtain ⟨k,h1,_⟩:=hk e he
   intro q
   rw [keyN_none q] at h1
   rcases keyIs_shape (show keyIs k .none=true from h1) with ⟨i,t,_,e⟩ | ⟨x,t,_,e⟩<;>exact nomatch e
  unfold findBy
  simp [this]
section
variable {X:Cx} {pins:List (Addr × Obj)} {σ:St} {H:Hp} {s:Shared} {a:Addr} {y:V} {u:Value} {o:Option V} {A:Around} {E:Value->Shared->Prop}
def DGetN (H:Hp) (a:Addr) (y:V) (o:Option V):Prop:=DGet H a y o\/(y=.non/\o=none/\∃ kvs,Rd H a (.dK kvs))
theorem d_get1N {Q:Value->Shared->Prop} (hu:A.units+1 < cLine) (I:Inv X pins σ H s) (g:DGetN H a y o) (ry:RelV y u) (h:∀ w' s',Inv X pins σ H s'->RelV (o.getD .non) w'->Q w' s') :
  wpAny (model X.prog X.w) A (call (.builtin "dict.get") [.ref a,u]) Q E s:=by
 rcases g with g | ⟨rfl,rfl,kvs,e⟩
 ·exact d_get1 hu I g ry h
 ·obtain rfl:u=Value.none:=ry
  obtain ⟨z,hd,vs,rel,dd⟩:=dk_rd I.hok e
  exact call_meetsIn PySem.F.slot_dict_get dd.typeIs PySem.F.entry_dict_get (PySem.F.args_dict_get_2 _ _) (meets_dict_get (noneKind X.prog X.w) a (k:=none) rfl hd) ⟨_,mapN dd.mapOf,h _ _ (I.tok _) rfl⟩
def tDGet1N (td ty:TE):TE:=fun σ H Q=>td σ H fun x H1=>∃ a,x=.ref a/\IsD H1 a/\ty σ H1 fun y H2=>∃ o,DGetN H2 a y o/\Q (o.getD .non) H2
theorem pe_dget1N {ob e:Expr} {apos cpos:Pos} {td ty:TE} (hu:X.A.units+1 < cLine) (ho:PE X ob td) (he:PE X e ty) (m:M1 X ob "get" apos e cpos):PE X (.Call (.Attribute ob "get" apos) [e] [] cpos) (tDGet1N td ty):=by
 intro pins s σ H Q I h
 refine wpAny_Call_method m.base m.few m.line PySem.F.plainAttrs_dict PySem.F.slot_dict_get PySem.F.type_dict_get (thn (ho pins s σ H _ I h) fun u s1 ⟨x,H1,I1,rx,a,ex,d,q1⟩=>?_)
 subst ex
 obtain rfl:u=Value.ref a:=rx
 obtain ⟨t1,t2,_⟩:=isD_at I1 d
 refine ⟨t1,t2,?_⟩
 rw [m.trees]
 refine Calls.callWith_builtin rfl (Calls.evalArgs_plain (Calls.spliced_cons (thn (he pins s1 σ H1 _ I1 q1) fun iv s2 ⟨y,H2,I2,ry,ov,g,q2⟩=>Calls.spliced_nil ?_)))
 exact d_get1N hu I2 g ry fun w' s3 I3 rw'=>⟨_,H2,I3,rw',q2⟩
end
theorem op_gt_str {X:Cx}:OpR X (compareOp .Gt) (fun x y H Q=>∃ i j,x=.str i/\y=.str j/\Q (.bl (decide (j.cps.toList < i.cps.toList))) H):=by
 intro pins s σ H x y v u Q I rx ry h
 obtain ⟨i,j,rfl,rfl,q⟩:=h
 obtain ⟨t,rfl⟩:=rx
 obtain ⟨t',rfl⟩:=ry
 exact PySem.P.gt_str (fin_bl I q rfl)
end L2
namespace K75
open PySem PySem.Spec PyProof.Rows L2 L3
abbrev sLB:Stmt:=top 25 -- leads_back
def ltT (x y:Str):Prop:=x.cps.toList < y.cps.toList
instance (x y:Str):Decidable (ltT x y):=inferInstanceAs (Decidable (x.cps.toList < y.cps.toList))
theorem ordS:Ord ltT where
 ir:=fun x=>List.lt_irrefl _
 tr:=fun x y z=>List.lt_trans
 tot:=fun x y=>by
  by_cases h:ltT x y
  ·exact .inr (.inl h)
  ·by_cases k:ltT y x
   ·exact .inr (.inr k)
   ·exact .inl (leS_anti (leS_iff.mpr (List.not_lt.mp k)) (leS_iff.mpr (List.not_lt.mp h)))
def within (ns:List Str) (ps:List (Str × Str)):List (Str × Str):=ps.filter fun p=>decide (p.1∈ns) && decide (p.2∈ns)
theorem within_in (ns:List Str) (ps:List (Str × Str)):InP ns (within ns ps):=fun p hp=>by
 have:=(List.mem_filter.mp hp).2
 simpa using this
def fre (ns:List Str) (st:Str) (bn:List Str):List Str:=(srt ns).filter fun z=>decide (ltT st z) && decide (z ∉ bn)
def free (ns:List Str) (st:Str) (bn:List Str):List Str:=st::fre ns st bn
theorem fre_mem {ns:List Str} {st:Str} {bn:List Str} {z:Str}:z∈fre ns st bn ↔ z∈ns/\ltT st z/\z ∉ bn:=by
 unfold fre
 rw [List.mem_filter,Bool.and_eq_true,decide_eq_true_iff,decide_eq_true_iff,(srt_perm ns).mem_iff]
theorem free_nd {ns:List Str} (nd:ns.Nodup) (st:Str) (bn:List Str):(free ns st bn).Nodup :=
 List.nodup_cons.mpr ⟨fun h=>ordS.ir _ (fre_mem.mp h).2.1,(srt_nd nd).filter _⟩
theorem free_len {ns:List Str} (nd:ns.Nodup) {st:Str} (hs:st∈ns) (bn:List Str):(free ns st bn).length<=ns.length :=
 (free_nd nd st bn).length_le_of_subset fun z hz=>by
  rcases List.mem_cons.mp hz with rfl | hz
  ·exact hs
  ·exact (fre_mem.mp hz).1
open Classical in
noncomputable def lbk (ns:List Str) (ps:List (Str × Str)) (st:Str) (bn:List Str) (y:Str):Bool:=decide (y∈free ns st bn) && decide (Rch (within (free ns st bn) ps) y st)
def aT (ps:List (Str × Str)) (k:Nat):Str:=(ps[k]?.map (·.1)).getD ""
def bT (ps:List (Str × Str)) (k:Nat):Str:=(ps[k]?.map (·.2)).getD ""
theorem aT_at {ps:List (Str × Str)} {k:Nat} {p:Str × Str} (h:ps[k]?=some p):aT ps k=p.1:=by unfold aT;rw [h];rfl
theorem bT_at {ps:List (Str × Str)} {k:Nat} {p:Str × Str} (h:ps[k]?=some p):bT ps k=p.2:=by unfold bT;rw [h];rfl
theorem aT_mem {ps:List (Str × Str)} {k:Nat} (h:k < ps.length):(aT ps k,bT ps k)∈ps:=by
 have e:=List.getElem?_eq_getElem h
 rw [aT_at e,bT_at e]
 exact List.getElem_mem h
open Classical in
theorem lbk_ok {ns:List Str} {ps:List (Str × Str)} (hI:InP ns ps) (st:Str):Lbk (aT ps) (bT ps) ps.length ltT st (lbk ns ps st) (srt ns) where
 sound:=fun bn y h ne=>by
  unfold lbk at h
  rw [Bool.and_eq_true,decide_eq_true_iff] at h
  have:=fre_mem.mp ((List.mem_cons.mp h.1).resolve_left ne)
  exact ⟨(srt_perm ns).mem_iff.mpr this.1,this.2⟩
 full:=fun bn y e nb ly ch he ne=>by
  unfold lbk
  rw [Bool.and_eq_true,decide_eq_true_iff,decide_eq_true_iff]
  have inF:∀ k∈e,aT ps k∈free ns st bn:=fun k hk=>List.mem_cons_of_mem _ (fre_mem.mpr ⟨(hI _ (aT_mem (he k hk).1)).1,(he k hk).2.2,(he k hk).2.1⟩)
  have key:∀ (e:List Nat) (y:Str),chn (aT ps) (bT ps) y e st->(∀ k∈e,k < ps.length/\aT ps k∈free ns st bn)->y∈free ns st bn/\Rch (within (free ns st bn) ps) y st:=by
   intro e
   induction e with
   | nil =>
    intro y h _
    rw [show y=st from h]
    exact ⟨List.mem_cons_self,.here _⟩
   | cons k e ih =>
    intro y h f
    obtain ⟨i1,i2⟩:=ih _ h.2 fun l hl=>f l (List.mem_cons_of_mem _ hl)
    obtain ⟨f1,f2⟩:=f k List.mem_cons_self
    rw [<- h.1]
    refine ⟨f2,(Rch.one (List.mem_filter.mpr ⟨aT_mem f1,?_⟩)).trans i2⟩
    rw [decide_eq_true f2,decide_eq_true i1];rfl
  exact key e y ch fun k hk=>⟨(he k hk).1,inF k hk⟩
open Classical in
theorem lbk_in {ns:List Str} {ps:List (Str × Str)} {st y:Str} {bn:List Str} (hy:y∈free ns st bn):decide (st∈rch (free ns st bn) (within (free ns st bn) ps) y)=lbk ns ps st bn y:=by
 unfold lbk
 rw [decide_eq_true hy,Bool.true_and,Bool.eq_iff_iff,decide_eq_true_iff,decide_eq_true_iff,rch_mem]
 exact ⟨fun z=>z.2,fun z=>⟨List.mem_cons_self,z⟩⟩
section
variable {P:Program} {w:World} {K:PySem.W.Frag} {mg:Str->Option Value} {base:Heap}
variable {C fP fS fL fSp:Addr} {fdP fdS fdL fdSp:FuncData}
abbrev aLB:List Str:=["web","start","been","place"]
def spLB (C:Addr):Sp:=fun vs H Q _=>∃ (x be:Addr) (st y:Str) (bn ns:List Str) (ps:List (Str × Str)),vs=[.ref x,.str st,.ref be,.str y]/\WebObj C H x ns ps/\GoodW ns ps/\H be=some (.lst (bn.map V.str))/\st∈ns /\
 ∀ H',Same H H'->Q (.bl (lbk ns ps st bn y)) H'
abbrev nLB:List Str:=["web","start","been","place","free","inner"]
theorem scLB:FnScope nLB aLB (defScope sLB):=⟨rfl,rfl,rfl,by decide +kernel,rfl,by decide +kernel,by decide +kernel⟩
theorem ok_lb {f:Addr} {fd:FuncData} (F:Fun K "leads_back" "leads_back" sLB f fd) (M:Mt K mg C fP fS fdP fdS) (DL:Df K mg "leads" sLeads ["places","ties"] fL fdL) (DS:Df K mg "spread" sSpread ["steps","start"] fSp fdSp) (T:Glb mg):FnOk P w K mg base CX0 2 f fd aLB (spLB C):=by
 have GP:FnOk P w K mg base CX0 1 fP fdP ["self"] (spPl C):=ok_places M.pF M.wc T
 have GTi:FnOk P w K mg base CX0 1 fS fdS ["self"] (spTs C):=ok_ties M.sF M.wc T
 have GL:FnOk P w K mg base CX0 1 fL fdL ["places","ties"] spLeads:=ok_leads DL.fn T
 have GS:FnOk P w K mg base CX0 1 fSp fdSp ["steps","start"] spSpread:=ok_spread DS.fn T
 refine F.ok scLB (fun vs H Q E h=>?_) (fun cdv A outer s H vs Q E hr h=>?_)
 ·obtain ⟨x,be,st,y,bn,ns,ps,rfl,_⟩:=h
  rfl
 ·obtain ⟨x,be,st,y,bn,ns,ps,rfl,hW,gW,hb,hs,k⟩:=h
  have hu:=hu_of hr
  refine ⟨_,pss_cons (ps_set (i:=4) scLB.nd rfl (Or.inr rfl) (pe_op op_cat (pe_lst (pa_cons (pv 1) pa_nil))
    (pe_lc ["other"] [1,2] rfl (compSc (osc:=(defScope sLB).names) (N:=nLB) rfl rfl (by decide +kernel)) (gk_name (by decide)) (pi_list (pe_meth0 (pv 0) M.wc.cl M.pM GP hr M.pB .nil pass0))
     (fun _ _ _=>pg_name (i:=0) (show (["other","start","been"]:List Str).Nodup by decide +kernel) rfl (Or.inl rfl))
     (fun _ _ _=>pifs_one (PW.pt (pw_and (pt_cmpR op_gt_str (pv 0) (pv 1) (nomark _)) (pw_and1 (pt_cmpR (r:=rIn K true) op_notIn_seq (pv 0) (pv 2) rfl)))))
     (fun _ _ _=>pv 0))))
   (pss_cons (ps_setL (i:=5) ["a","b"] [4] scLB.nd rfl rfl rfl (compSc (osc:=(defScope sLB).names) (N:=nLB) rfl rfl (by decide +kernel)) (gk_two (K:=K) (k:=2) (by decide) (by decide)) (pi_list (pe_meth0 (pv 0) M.wc.cl M.sM GTi hr M.sB .nil pass0))
    (fun _ _ _=>pg_tup rfl (pgs_cons (pg_name (i:=0) (show (["a","b","free"]:List Str).Nodup by decide +kernel) rfl (Or.inl rfl)) (pgs_cons (pg_name (i:=1) (show (["a","b","free"]:List Str).Nodup by decide +kernel) rfl (Or.inl rfl)) pgs_nil)))
    (fun _ _ _=>pifs_one (PW.pt (pw_and (pt_cmpR (r:=rIn K false) op_in_seq (pv 0) (pv 2) rfl) (pw_and1 (pt_cmpR (r:=rIn K false) op_in_seq (pv 1) (pv 2) rfl)))))
    (fun _ _ _=>pe_tup (pa_cons (pv 0) (pa_cons (pv 1) pa_nil))))
   (pss_one (ps_ret (pe_and (pe_cmpR op_in_seq (pv 3) (pv 4) rfl) (pe_one (pe_cmpR op_in_seq (pv 1)
    (pe_call GS hr rfl DS.mgf DS.fn.kp DS.b .nil pass0 (pa_cons (pe_call GL hr rfl DL.mgf DL.fn.kp DL.b .nil pass0 (pa_cons (pv 4) (pa_cons (pv 5) pa_nil))) (pa_cons (pv 3) pa_nil))) rfl)))))),?_⟩
  have few:=gW.good.few
  refine ⟨_,rfl,(by show 1<=sizeLine;decide),fun l0 n0=>?_⟩
  have s0:=same_upd (o:=.lst [V.str st]) n0
  have h0:=upd_same (H:=H) (a:=l0) (o:=.lst [V.str st])
  generalize upd H l0 (.lst [V.str st])=H0 at s0 h0 ⊢
  have W0:=hW.same s0
  obtain ⟨d1,f1,q1,r1⟩:=W0.meth "places"
  refine ⟨_,rfl,x,d1,f1,rfl,q1,r1,x,ns,ps,rfl,W0,fun lp np=>⟨lp,rfl,⟨_,SqL.of upd_same⟩,?_⟩⟩
  have sp:=same_upd (o:=.lst ((srt ns).map V.str)) np
  have hlp:=upd_same (H:=H0) (a:=lp) (o:=.lst ((srt ns).map V.str))
  generalize upd H0 lp (.lst ((srt ns).map V.str))=H1 at sp hlp ⊢
  have hb1:=sp _ _ (s0 _ _ hb)
  have ls:(srt ns).length<=12:=by rw [(srt_perm ns).length_eq];exact few
  refine lc_list (K:=K) (xs:=(srt ns).map V.str) (fun i ys H2=>H2=H1/\ys=(((srt ns).take i).filter fun z=>decide (ltT st z) && decide (z ∉ bn)).map V.str) ⟨rfl,rfl⟩ ?_ ?_ ?_ ?_
  ·rintro i ys H2 hi ⟨_,rfl⟩
   rw [List.length_map]
   refine Nat.le_trans (List.length_filter_le _ _) ?_
   rw [List.length_take]
   exact Nat.le_trans (Nat.min_le_right _ _) (Nat.le_trans ls (by decide))
  ·rintro i ys H2 _ ⟨rfl,_⟩
   exact SqL.of hlp
  ·rintro i v ys H2 R hv ⟨rfl,rfl⟩ kR
   rw [List.getElem?_map] at hv
   obtain ⟨z,ez,rfl⟩:=Option.map_eq_some_iff.mp hv
   have fin:((srt ns).take (i+1)).filter (fun z=>decide (ltT st z) && decide (z ∉ bn))=((srt ns).take i).filter (fun z=>decide (ltT st z) && decide (z ∉ bn))++(if (decide (ltT st z) && decide (z ∉ bn))=true then [z] else []):=by
    rw [List.take_add_one,ez,List.filter_append]
    congr 1
    rw [Option.toList_some,List.filter_cons]
    rfl
   simp only [gName]
   refine ⟨_,rfl,_,rfl,z,st,rfl,rfl,_,rfl,?_⟩
   by_cases h1:ltT st z
   ·rw [decide_eq_true (show st.cps.toList < z.cps.toList from h1)]
    refine iteT ⟨_,rfl,_,rfl,be,_,rfl,.inl (SqL.of hb1),rfl,flat_strs bn,_,rfl,?_⟩
    simp only [if_true]
    rw [inV_str]
    by_cases h2:z∈bn
    ·rw [decide_eq_true h2]
     exact iteF (kR _ _ ⟨rfl,by rw [fin,if_neg (by simp [h2]),List.append_nil]⟩)
    ·rw [decide_eq_false h2]
     exact iteT ⟨_,rfl,kR _ _ ⟨rfl,by rw [fin,if_pos (by simp [h1,h2])];simp⟩⟩
   ·rw [decide_eq_false (show ¬ st.cps.toList < z.cps.toList from h1)]
    refine iteF (kR _ _ ⟨rfl,by rw [fin,if_neg (by simp [h1]),List.append_nil]⟩)
  rintro ys H2 ⟨rfl,rfl⟩ D nD
  rw [List.length_map,List.take_of_length_le (Nat.le_refl _)]
  have sD:=same_upd (o:=.lst ((fre ns st bn).map V.str)) nD
  have hD:=upd_same (H:=H2) (a:=D) (o:=.lst ((fre ns st bn).map V.str))
  change rCat _ _ (upd H2 D (.lst ((fre ns st bn).map V.str))) _
  have s2:=(s0.trans sp).trans sD
  have h02:=sD _ _ (sp _ _ h0)
  generalize upd H2 D (.lst ((fre ns st bn).map V.str))=H3 at sD hD s2 h02 ⊢
  have lf:=free_len gW.good.nd hs bn
  refine ⟨l0,D,_,_,rfl,rfl,h02,hD,?_,fun fa nf=>?_⟩
  ·rw [List.length_map]
   have:(fre ns st bn).length+1<=ns.length:=lf
   exact Nat.le_trans (show [V.str st].length+(fre ns st bn).length<=12 by simp;omega) (by decide)
  have ef:[V.str st]++(fre ns st bn).map V.str=(free ns st bn).map V.str:=rfl
  rw [ef]
  have s3:=s2.trans (same_upd (o:=.lst ((free ns st bn).map V.str)) nf)
  have hf3:=upd_same (H:=H3) (a:=fa) (o:=.lst ((free ns st bn).map V.str))
  generalize upd H3 fa (.lst ((free ns st bn).map V.str))=H4 at s3 hf3 ⊢
  have W4:=hW.same s3
  obtain ⟨d2,f2,q2,r2⟩:=W4.meth "ties"
  refine ⟨_,rfl,x,d2,f2,rfl,q2,r2,x,ns,ps,rfl,W4,fun lt tt nlt hTt=>⟨lt,rfl,⟨_,SqL.of upd_same⟩,?_⟩⟩
  have s4:=same_upd (o:=.lst (tt.map V.ref)) nlt
  have hlt:=upd_same (H:=H4) (a:=lt) (o:=.lst (tt.map V.ref))
  generalize upd H4 lt (.lst (tt.map V.ref))=H5 at s4 hlt ⊢
  have hT0:=hTt.same s4
  have hf5:=s4 _ _ hf3
  have lz:(tt.map V.ref).length=ps.length:=by rw [List.length_map,hTt.len]
  refine lc_list (K:=K) (xs:=tt.map V.ref) (fun i ys H2=>Same H5 H2/\∃ us,ys=us.map V.ref/\TiesAt H2 us (within (free ns st bn) (ps.take i))) ⟨Same.refl _,[],rfl,.nil⟩ ?_ ?_ ?_ ?_
  ·rintro i ys H2 hi ⟨_,us,rfl,hU⟩
   rw [List.length_map,hU.len]
   exact Nat.le_trans (List.length_filter_le _ _) (Nat.le_trans (by rw [List.length_take];exact Nat.min_le_right _ _) (Nat.le_trans gW.few (by decide)))
  ·rintro i ys H2 _ ⟨s2,_⟩
   exact SqL.of (s2 _ _ hlt)
  ·rintro i v ys H2 R hv ⟨s2,us,rfl,hU⟩ kR
   rw [List.getElem?_map] at hv
   obtain ⟨t,et,rfl⟩:=Option.map_eq_some_iff.mp hv
   obtain ⟨p,ep,ht⟩:=(hT0.same s2).get et
   have ha2:=s2 _ _ hf5
   have fin:within (free ns st bn) (ps.take (i+1))=within (free ns st bn) (ps.take i)++(if (decide (p.1∈free ns st bn) && decide (p.2∈free ns st bn))=true then [p] else []):=by
    unfold within
    rw [List.take_add_one,ep,List.filter_append]
    congr 1
    rw [Option.toList_some,List.filter_cons]
    rfl
   refine ⟨t,_,rfl,SqT.of ht,rfl,_,_,rfl,_,_,rfl,rfl,?_⟩
   refine ⟨_,rfl,_,rfl,fa,_,rfl,.inl (SqL.of ha2),rfl,flat_strs _,_,rfl,?_⟩
   simp only [Bool.false_eq_true,if_false]
   rw [inV_str]
   by_cases h1:p.1∈free ns st bn
   ·rw [decide_eq_true h1]
    refine iteT ⟨_,rfl,_,rfl,fa,_,rfl,.inl (SqL.of ha2),rfl,flat_strs _,_,rfl,?_⟩
    simp only [Bool.false_eq_true,if_false]
    rw [inV_str]
    by_cases h2:p.2∈free ns st bn
    ·rw [decide_eq_true h2]
     refine iteT ⟨_,rfl,_,rfl,(show 2<=sizeLine by decide),fun u hu=>kR _ _ ⟨s2.trans (same_upd hu),us++[u],by simp,?_⟩⟩
     rw [fin,if_pos (by simp [h1,h2])]
     exact TiesAt.snoc (hU.same (same_upd hu)) upd_same
    ·rw [decide_eq_false h2]
     exact iteF (kR _ _ ⟨s2,us,rfl,by rw [fin,if_neg (by simp [h2]),List.append_nil];exact hU⟩)
   ·rw [decide_eq_false h1]
    exact iteF (kR _ _ ⟨s2,us,rfl,by rw [fin,if_neg (by simp [h1]),List.append_nil];exact hU⟩)
  rintro ys H6 ⟨s6,us,rfl,hU⟩ q2 nq2
  rw [lz,List.take_of_length_le (Nat.le_refl _)] at hU
  have s7:=s6.trans (same_upd (o:=.lst (us.map V.ref)) nq2)
  have hq7:=upd_same (H:=H6) (a:=q2) (o:=.lst (us.map V.ref))
  have hU7:=hU.same (same_upd (o:=.lst (us.map V.ref)) nq2)
  change tSeq _ _ _ _ (upd H6 q2 (.lst (us.map V.ref)))
  generalize upd H6 q2 (.lst (us.map V.ref))=H7 at s7 hq7 hU7 ⊢
  have s07:=s3.trans (s4.trans s7)
  have hf7:=s7 _ _ hf5
  have lw:(within (free ns st bn) ps).length<=30:=Nat.le_trans (List.length_filter_le _ _) gW.few
  refine ⟨_,rfl,_,rfl,fa,_,rfl,.inl (SqL.of hf7),rfl,flat_strs _,_,rfl,?_⟩
  simp only [Bool.false_eq_true,if_false]
  rw [inV_str]
  by_cases hy:y∈free ns st bn
  ·rw [decide_eq_true hy]
   refine iteT ⟨_,rfl,_,rfl,_,rfl,fa,q2,_,us,_,rfl,hf7,hq7,hU7,free_nd gW.good.nd st bn,by omega,within_in _ _,by omega,fun d ls H8 hS s8=>?_⟩
   refine ⟨_,rfl,d,y,_,_,ls,rfl,hS,free_nd gW.good.nd st bn,by omega,within_in _ _,by omega,hy,fun l H9 nl hl s9=>?_⟩
   refine ⟨l,_,rfl,.inl (SqL.of hl),rfl,flat_strs _,?_⟩
   simp only [Bool.false_eq_true,if_false]
   rw [inV_str]
   have e:decide (st∈rch (free ns st bn) (within (free ns st bn) ps) y)=lbk ns ps st bn y:=by
    exact lbk_in hy
   rw [e]
   exact k _ (s07.trans (s8.trans s9))
  ·rw [decide_eq_false hy]
   refine iteF ?_
   have e:false=lbk ns ps st bn y:=by unfold lbk;rw [decide_eq_false hy];rfl
   rw [e]
   exact k _ s07
end
open L2
def prods:List (List Nat)->List (List Nat)
 | []=>[[]]
 | E::Es=>E.flatMap fun k=>(prods Es).map fun c=>k::c
def mulN:List Nat->Nat
 | []=>1
 | n::ns=>n * mulN ns
theorem prods_len:∀ Es:List (List Nat),(prods Es).length=mulN (Es.map List.length)
 | []=>rfl
 | E::Es=>by
  rw [prods,List.map_cons,mulN,<- prods_len Es]
  induction E with
  | nil=>simp
  | cons k E ih=>rw [List.flatMap_cons,List.length_append,ih,List.length_map,List.length_cons,Nat.add_mul,Nat.one_mul,Nat.add_comm]
theorem prods_nodup:∀ {Es:List (List Nat)},(∀ E∈Es,E.Nodup)->(prods Es).Nodup
 | [],_=>by simp [prods]
 | E::Es,h=>by
  rw [prods]
  unfold List.Nodup
  rw [List.pairwise_flatMap]
  refine ⟨fun k _=>nodup_map_inj (fun x y e=>by simpa using e) (prods_nodup fun F hF=>h F (List.mem_cons_of_mem _ hF)),?_⟩
  refine (h E List.mem_cons_self).imp fun {x y} ne c hc d hd e=>?_
  obtain ⟨c',_,rfl⟩:=List.mem_map.mp hc
  obtain ⟨d',_,rfl⟩:=List.mem_map.mp hd
  injection e with e1 _
  exact ne e1
section
variable {α:Type} [DecidableEq α] (a b:Nat->α) (nt:Nat)
def pl (P:List α) (i:Nat):Option α:=P[i % P.length]?
def eds (P:List α) (i:Nat):List Nat:=(List.range nt).filter fun k=>decide (some (a k)=pl P i) && decide (some (b k)=pl P (i+1))
def edl (P:List α) (i n:Nat):List (List Nat):=(List.range' i n).map (eds a b nt P)
def ringL (P:List α):List (List Nat):=prods (edl a b nt P 0 P.length)
variable {a b nt}
theorem eds_mem {P:List α} {i k:Nat}:k∈eds a b nt P i ↔ k < nt/\some (a k)=pl P i/\some (b k)=pl P (i+1):=by
 unfold eds
 rw [List.mem_filter,List.mem_range,Bool.and_eq_true,decide_eq_true_iff,decide_eq_true_iff]
theorem edl_cons (P:List α) (i n:Nat):edl a b nt P i (n+1)=eds a b nt P i::edl a b nt P (i+1) n:=by
 unfold edl
 rw [List.range'_succ,List.map_cons]
theorem pl_at {P:List α} (ne:P≠[]) (i:Nat):∃ x∈P,pl P i=some x:=by
 have hl:0 < P.length:=List.length_pos_iff.mpr ne
 have h:=Nat.mod_lt i hl
 exact ⟨P[i % P.length],List.getElem_mem h,List.getElem?_eq_getElem h⟩
theorem pl_lt {P:List α} {i:Nat} (h:i < P.length):pl P i=some P[i]:=by
 unfold pl
 rw [Nat.mod_eq_of_lt h,List.getElem?_eq_getElem h]
theorem pl_full (P:List α):pl P P.length=pl P 0:=by unfold pl;rw [Nat.mod_self,Nat.zero_mod]
theorem pl_inj {P:List α} (nd:P.Nodup) {i j:Nat} (hi:i < P.length) (hj:j < P.length) (e:pl P i=pl P j):i=j:=by
 rw [pl_lt hi,pl_lt hj] at e
 exact (List.getElem_inj nd).mp (Option.some.inj e)
theorem pl_mem {P:List α} {z:α} (h:z∈P):∃ i,i < P.length/\pl P i=some z:=by
 obtain ⟨i,hi,e⟩:=List.getElem_of_mem h
 exact ⟨i,hi,by rw [pl_lt hi,e]⟩
theorem prods_chn {P:List α}:∀ {n i:Nat} {c:List Nat} {x y:α},i+n=P.length->c∈prods (edl a b nt P i n)->pl P i=some x->pl P P.length=some y->chn a b x c y/\(∀ k∈c,k < nt)/\c.map (fun k=>some (a k))=(List.range' i n).map (pl P)
 | 0,i,c,x,y,e,h,hx,hy=>by
  have:c=[]:=by simpa [edl,prods] using h
  subst this
  have e2:i=P.length:=by omega
  rw [e2,hy] at hx
  exact ⟨(Option.some.inj hx).symm,(fun _ z=>nomatch z),rfl⟩
 | n+1,i,c,x,y,e,h,hx,hy=>by
  rw [edl_cons,prods] at h
  obtain ⟨k,hk,hc⟩:=List.mem_flatMap.mp h
  obtain ⟨d,hd,rfl⟩:=List.mem_map.mp hc
  obtain ⟨k1,k2,k3⟩:=eds_mem.mp hk
  obtain ⟨i1,i2,i3⟩:=prods_chn (n:=n) (i:=i+1) (by omega) hd k3.symm hy
  rw [hx] at k2
  refine ⟨⟨Option.some.inj k2,i1⟩,fun l hl=>?_,?_⟩
  ·rcases List.mem_cons.mp hl with rfl | hl
   ·exact k1
   ·exact i2 l hl
  ·rw [List.map_cons,i3,List.range'_succ,List.map_cons,k2,hx]
theorem range_pl (P:List α):(List.range' 0 P.length).map (pl P)=P.map some:=by
 refine List.ext_getElem (by simp) fun i h1 h2=>?_
 simp at h1 h2
 simp [pl_lt h1]
theorem map_some {l:List Nat} {P:List α} (h:l.map (fun k=>some (a k))=P.map some):l.map a=P:=by
 have h2:(l.map a).map some=P.map some:=by rw [List.map_map];exact h
 have:∀ (x y:List α),x.map some=y.map some->x=y:=by
  intro x
  induction x with
  | nil=>intro y e;cases y with
   | nil=>rfl
   | cons _ _=>cases e
  | cons u x ih=>intro y e;cases y with
   | nil=>cases e
   | cons v y =>
    injection e with e1 e2
    rw [Option.some.inj e1,ih y e2]
 exact this _ _ h2
theorem ringL_cyc {P:List α} (nd:P.Nodup) (ne:P≠[]) {c:List Nat} (h:c∈ringL a b nt P):∃ x,pl P 0=some x/\CycX a b x c/\(∀ k∈c,k < nt)/\c.map a=P:=by
 obtain ⟨x,_,hx⟩:=pl_at ne 0
 obtain ⟨h1,h2,h3⟩:=prods_chn (i:=0) (n:=P.length) (by omega) h hx (by rw [pl_full,hx])
 rw [range_pl] at h3
 have e:=map_some h3
 refine ⟨x,hx,⟨fun z=>ne (by rw [<- e,z];rfl),h1,by rw [e];exact nd⟩,h2,e⟩
theorem CycX.next {x:α} {c:List Nat} (h:CycX a b x c) {k:Nat} (hk:k∈c):∃ l∈c,a l=b k:=by
 have nd:=h.nd
 obtain ⟨d,g,p⟩:=h.turn a b hk
 obtain ⟨l,e,rfl,l1,l2,l3,_⟩:=g.shape
 have inj:=inj_of a g.nd
 obtain rfl:=inj l List.mem_cons_self k (p.mem_iff.mpr hk) l1
 cases e with
 | nil=>exact ⟨l,hk,l2.symm⟩
 | cons m e=>exact ⟨m,p.mem_iff.mp (by simp),l2.1⟩
theorem ring_walk {P:List α} (nd:P.Nodup) {y:α} (hy:pl P 0=some y):∀ {n i:Nat} {e:List Nat} {x:α},i+n=P.length->1<=i->pl P i=some x->chn a b x e y->(∀ k∈e,k < nt/\a k≠y/\∀ j,some (a k)=pl P j->some (b k)=pl P (j+1))->e∈prods (edl a b nt P i n)
 | 0,i,e,x,hi,_,hx,ch,f=>by
  have e2:i=P.length:=by omega
  rw [e2,pl_full,hy] at hx
  cases e with
  | nil=>simp [edl,prods]
  | cons k e=>exact absurd (ch.1.trans (Option.some.inj hx).symm) (f k List.mem_cons_self).2.1
 | n+1,i,e,x,hi,h1,hx,ch,f=>by
  rw [edl_cons,prods]
  cases e with
  | nil =>
   exfalso
   have:x=y:=ch
   rw [this,<- hy] at hx
   have:=pl_inj nd (show i < P.length by omega) (show 0 < P.length by omega) hx
   omega
  | cons k e =>
   obtain ⟨f1,f2,f3⟩:=f k List.mem_cons_self
   have ka:some (a k)=pl P i:=by rw [ch.1,hx]
   have kb:=f3 i ka
   refine List.mem_flatMap.mpr ⟨k,eds_mem.mpr ⟨f1,ka,kb⟩,List.mem_map.mpr ⟨e,?_,rfl⟩⟩
   exact ring_walk nd hy (by omega) (by omega) kb.symm ch.2 fun l hl=>f l (List.mem_cons_of_mem _ hl)
theorem ring_in {P:List α} (nd:P.Nodup) {x:α} {c:List Nat} (h:CycX a b x c) (hx:x∈P) (f:∀ k∈c,k < nt/\∀ j,some (a k)=pl P j->some (b k)=pl P (j+1)):∃ d∈ringL a b nt P,d.Perm c:=by
 have ne:P≠[]:=fun z=>by rw [z] at hx;cases hx
 have hl:0 < P.length:=List.length_pos_iff.mpr ne
 obtain ⟨j,hj,ej⟩:=pl_mem hx
 have come:∀ t,∃ k∈c,some (a k)=pl P (j+t):=by
  intro t
  induction t with
  | zero =>
   obtain ⟨k,e,rfl,k1,_⟩:=h.shape
   exact ⟨k,List.mem_cons_self,by rw [k1];exact ej.symm⟩
  | succ t ih =>
   obtain ⟨k,hk,e⟩:=ih
   obtain ⟨l,hl,e2⟩:=h.next hk
   exact ⟨l,hl,by rw [e2];exact (f k hk).2 _ e⟩
 obtain ⟨k,hk,ek⟩:=come (P.length - j)
 have e0:pl P (j+(P.length - j))=pl P 0:=by rw [show j+(P.length - j)=P.length by omega,pl_full]
 rw [e0] at ek
 obtain ⟨d,g,p⟩:=h.turn a b hk
 obtain ⟨l,e,rfl,l1,l2,l3,_⟩:=g.shape
 refine ⟨l::e,?_,p⟩
 have el:some (a l)=pl P 0:=by rw [l1];exact ek
 have fl:=f l (p.mem_iff.mp List.mem_cons_self)
 have bl:=fl.2 0 el
 obtain ⟨n,en⟩:∃ n,P.length=n+1:=⟨P.length - 1,by omega⟩
 unfold ringL
 rw [en,edl_cons,prods]
 refine List.mem_flatMap.mpr ⟨l,eds_mem.mpr ⟨fl.1,el,bl⟩,List.mem_map.mpr ⟨e,?_,rfl⟩⟩
 refine ring_walk nd ek.symm (by omega) (Nat.le_refl _) bl.symm l2 fun m hm=>?_
 have:=f m (p.mem_iff.mp (List.mem_cons_of_mem _ hm))
 exact ⟨this.1,l3 m hm,this.2⟩
structure Two (a b:Nat->α) (nt:Nat) (P D:List α):Prop where
 pn:P.Nodup
 p2:2<=P.length
 dn:D.Nodup
 d2:D=[]\/2<=D.length
 sh:∀ z∈P,∀ y∈P,z∈D->y∈D->z=y
 ties:∀ k,k < nt->(∃ i,some (a k)=pl P i/\some (b k)=pl P (i+1))\/(D≠[]/\∃ i,some (a k)=pl D i/\some (b k)=pl D (i+1))\/a k=b k\/∀ l,l < nt->a l≠b k
def lps (a b:Nat->α) (nt:Nat):List Nat:=(List.range nt).filter fun k=>decide (a k=b k)
def all2 (a b:Nat->α) (nt:Nat) (P D:List α):List (List Nat):=ringL a b nt P++((if D=[] then [] else ringL a b nt D)++(lps a b nt).map fun k=>[k])
theorem pl_next {P:List α} (nd:P.Nodup) {i j:Nat} {z y:α} (hz:some z=pl P i) (hy:some y=pl P (i+1)) (hj:some z=pl P j):some y=pl P (j+1):=by
 have ne:P≠[]:=fun e=>by rw [e] at hz;simp [pl] at hz
 have hl:0 < P.length:=List.length_pos_iff.mpr ne
 have e:i % P.length=j % P.length:=by
  have h1:=Nat.mod_lt i hl
  have h2:=Nat.mod_lt j hl
  have:pl P (i % P.length)=pl P (j % P.length):=by
   unfold pl
   rw [Nat.mod_mod,Nat.mod_mod]
   exact hz.symm.trans hj
  exact pl_inj nd h1 h2 this
 rw [hy]
 unfold pl
 rw [Nat.add_mod,e,<- Nat.add_mod]
theorem pl_isin {P:List α} {i:Nat} {z:α} (h:some z=pl P i):z∈P:=List.mem_of_getElem? h.symm
theorem two_in {P D:List α} (W:Two a b nt P D) {x:α} {c:List Nat} (h:CycX a b x c) (kn:∀ k∈c,k < nt):∃ d∈all2 a b nt P D,d.Perm c:=by
 unfold all2
 obtain ⟨k0,e0,rfl,q1,q2,q3,_⟩:=h.shape
 by_cases one:e0=[]
 ·subst one
  have:a k0=b k0:=q1.trans (show b k0=x from q2).symm
  exact ⟨[k0],List.mem_append_right _ (List.mem_append_right _ (List.mem_map.mpr ⟨k0,List.mem_filter.mpr ⟨List.mem_range.mpr (kn k0 List.mem_cons_self),decide_eq_true this⟩,rfl⟩)),List.Perm.refl _⟩
 generalize hc:k0::e0=c at h kn
 have len:2<=c.length:=by
  rw [<- hc]
  cases e0 with
  | nil=>exact absurd rfl one
  | cons _ _=>simp
 have inj:=inj_of a h.nd
 have kind:∀ k∈c,(∃ i,some (a k)=pl P i/\some (b k)=pl P (i+1))\/(D≠[]/\∃ i,some (a k)=pl D i/\some (b k)=pl D (i+1)):=by
  intro k hk
  rcases W.ties k (kn k hk) with z | z | z | z
  ·exact .inl z
  ·exact .inr z
  ·exfalso
   obtain ⟨d,g,p⟩:=h.turn a b hk
   obtain ⟨l,e,rfl,l1,l2,l3,_⟩:=g.shape
   obtain rfl:=inj l (p.mem_iff.mp List.mem_cons_self) k hk l1
   have hl:=p.length_eq
   cases e with
   | nil=>simp at hl;omega
   | cons m e=>exact l3 m List.mem_cons_self (l2.1.trans z.symm)
  ·obtain ⟨l,hl,e⟩:=h.next hk
   exact absurd e (z l (kn l hl))
 by_cases hs:∃ k∈c,a k∈P/\¬ ∃ i,some (a k)=pl P i/\some (b k)=pl P (i+1)
 ·obtain ⟨k,hk,kp,kno⟩:=hs
  obtain ⟨dne,i,d1,d2⟩:=(kind k hk).resolve_left kno
  obtain ⟨d,g,p⟩:=h.turn a b hk
  obtain ⟨r,hr,pr⟩:=ring_in (nt:=nt) W.dn g (pl_isin d1) fun l hl=>⟨kn l (p.mem_iff.mp hl),fun j hj=>by
   rcases kind l (p.mem_iff.mp hl) with ⟨u,u1,u2⟩ | ⟨_,u,u1,u2⟩
   ·have e:a l=a k:=W.sh _ (pl_isin u1) _ kp (pl_isin hj) (pl_isin d1)
    have e2:=inj l (p.mem_iff.mp hl) k hk e
    rw [e2] at u1 u2
    exact absurd ⟨u,u1,u2⟩ kno
   ·exact pl_next W.dn u1 u2 hj⟩
  exact ⟨r,List.mem_append_right _ (List.mem_append_left _ (by rw [if_neg dne];exact hr)),pr.trans p⟩
 have onP:∀ k∈c,a k∈P->∃ i,some (a k)=pl P i/\some (b k)=pl P (i+1):=fun k hk kp=>Classical.byContradiction fun z=>hs ⟨k,hk,kp,z⟩
 by_cases anyP:∃ k∈c,a k∈P
 ·obtain ⟨k,hk,kp⟩:=anyP
  obtain ⟨d,g,p⟩:=h.turn a b hk
  obtain ⟨r,hr,pr⟩:=ring_in (nt:=nt) W.pn g kp fun l hl=>⟨kn l (p.mem_iff.mp hl),fun j hj=>by
   obtain ⟨u,u1,u2⟩:=onP l (p.mem_iff.mp hl) (pl_isin hj)
   exact pl_next W.pn u1 u2 hj⟩
  exact ⟨r,List.mem_append_left _ hr,pr.trans p⟩
 ·have onD:∀ k∈c,D≠[]/\∃ i,some (a k)=pl D i/\some (b k)=pl D (i+1):=fun k hk=>(kind k hk).resolve_left fun ⟨i,i1,_⟩=>anyP ⟨k,hk,pl_isin i1⟩
  have hk0:k0∈c:=by rw [<- hc];exact List.mem_cons_self
  obtain ⟨dne,i,i1,i2⟩:=onD k0 hk0
  obtain ⟨r,hr,pr⟩:=ring_in (nt:=nt) W.dn h (by rw [<- q1];exact pl_isin i1) fun l hl=>⟨kn l hl,fun j hj=>by
   obtain ⟨_,u,u1,u2⟩:=onD l hl
   exact pl_next W.dn u1 u2 hj⟩
  exact ⟨r,List.mem_append_right _ (List.mem_append_left _ (by rw [if_neg dne];exact hr)),pr⟩
theorem eds_nodup (P:List α) (i:Nat):(eds a b nt P i).Nodup:=List.nodup_range.filter _
theorem ringL_apart {P:List α} (nd:P.Nodup) (ne:P≠[]):(ringL a b nt P).Pairwise fun c d=>¬ c.Perm d:=by
 have h:(ringL a b nt P).Nodup:=prods_nodup fun E hE=>by
  obtain ⟨i,_,rfl⟩:=List.mem_map.mp hE
  exact eds_nodup P i
 refine h.imp_of_mem fun {c d} hc hd nq p=>nq ?_
 obtain ⟨x,hx,g,_,_⟩:=ringL_cyc nd ne hc
 obtain ⟨y,hy,g',_,_⟩:=ringL_cyc nd ne hd
 rw [hx] at hy
 obtain rfl:=Option.some.inj hy
 exact g.same a b g' fun k hk=>p.mem_iff.mp hk
theorem all2_apart {P D:List α} (W:Two a b nt P D):(all2 a b nt P D).Pairwise fun c d=>¬ c.Perm d:=by
 have pne:P≠[]:=fun e=>by have:=W.p2;rw [e] at this;simp at this
 unfold all2
 rw [List.pairwise_append]
 refine ⟨ringL_apart W.pn pne,?_,?_⟩
 ·rw [List.pairwise_append]
  refine ⟨?_,?_,?_⟩
  ·split
   ·exact .nil
   ·rename_i dne
    exact ringL_apart W.dn dne
  ·rw [List.pairwise_map]
   exact (List.nodup_range.filter _).imp fun {x y} ne p=>ne (by simpa using p)
  ·intro c hc d hd p
   split at hc
   ·cases hc
   ·rename_i dne
    obtain ⟨x,_,g,_,e⟩:=ringL_cyc W.dn dne hc
    obtain ⟨k,_,rfl⟩:=List.mem_map.mp hd
    have h1:=p.length_eq
    have h2:=congrArg List.length e
    rw [List.length_map] at h2
    have:=W.d2.resolve_left dne
    simp at h1
    omega
 ·intro c hc d hd p
  obtain ⟨x,_,g,_,e⟩:=ringL_cyc W.pn pne hc
  have h2:=congrArg List.length e
  rw [List.length_map] at h2
  have:=W.p2
  rcases List.mem_append.mp hd with hd | hd
  ·split at hd
   ·cases hd
   ·rename_i dne
    obtain ⟨y,_,g',_,e'⟩:=ringL_cyc W.dn dne hd
    have pp:P.Perm D:=by rw [<- e,<- e'];exact p.map a
    have i0:0 < P.length:=by omega
    have i1:1 < P.length:=by omega
    have:=W.sh _ (List.getElem_mem i0) _ (List.getElem_mem i1) (pp.mem_iff.mp (List.getElem_mem i0)) (pp.mem_iff.mp (List.getElem_mem i1))
    have:=(List.getElem_inj W.pn).mp this
    omega
  ·obtain ⟨k,_,rfl⟩:=List.mem_map.mp hd
   have h1:=p.length_eq
   simp at h1
   omega
theorem all2_cyc {P D:List α} (W:Two a b nt P D) {c:List Nat} (h:c∈all2 a b nt P D):∃ x,CycX a b x c/\∀ k∈c,k < nt:=by
 have pne:P≠[]:=fun e=>by have:=W.p2;rw [e] at this;simp at this
 unfold all2 at h
 rcases List.mem_append.mp h with h | h
 ·obtain ⟨x,_,g,k,_⟩:=ringL_cyc W.pn pne h
  exact ⟨x,g,k⟩
 ·rcases List.mem_append.mp h with h | h
  ·split at h
   ·cases h
   ·rename_i dne
    obtain ⟨x,_,g,k,_⟩:=ringL_cyc W.dn dne h
    exact ⟨x,g,k⟩
  ·obtain ⟨k,hk,rfl⟩:=List.mem_map.mp h
   obtain ⟨h1,h2⟩:=List.mem_filter.mp hk
   exact ⟨a k,⟨by simp,⟨rfl,(of_decide_eq_true h2).symm⟩,by simp⟩,fun l hl=>by rw [List.mem_singleton.mp hl];exact List.mem_range.mp h1⟩
theorem rise_congr {c d:List Nat} (p:c.Perm d):rise nt c=rise nt d:=by
 unfold rise
 congr 1
 funext k
 rw [Bool.eq_iff_iff,decide_eq_true_iff,decide_eq_true_iff]
 exact p.mem_iff
theorem two_count {lt:α->α->Prop} {lb:α->List α->α->Bool} {N P D:List α} (W:Two a b nt P D) (O:Ord lt) (L:∀ st∈N,Lbk a b nt lt st (lb st) N) (nd:N.Nodup) (hin:∀ k,k < nt->a k∈N):(rgs a b nt lb N N).length=(all2 a b nt P D).length:=by
 have n2:((all2 a b nt P D).map (rise nt)).Nodup:=by
  unfold List.Nodup
  rw [List.pairwise_map]
  refine (all2_apart W).imp_of_mem fun {c d} hc hd np e=>np ?_
  obtain ⟨x,g,kc⟩:=all2_cyc W hc
  obtain ⟨y,g',kd⟩:=all2_cyc W hd
  exact rise_inj kc kd (nodup_of_map g.nd) (nodup_of_map g'.nd) e
 have pm:((rgs a b nt lb N N).map (rise nt)).Perm ((all2 a b nt P D).map (rise nt)):=by
  refine perm_of (rgs_nodup O L nd) n2 fun s=>?_
  rw [List.mem_map,List.mem_map]
  constructor
  ·rintro ⟨c,hc,rfl⟩
   obtain ⟨st,_,g⟩:=(rgs_mem L).mp hc
   obtain ⟨d,hd,p⟩:=two_in W g.cyc g.kn
   exact ⟨d,hd,rise_congr p⟩
  ·rintro ⟨d,hd,rfl⟩
   obtain ⟨x,hc,kn⟩:=all2_cyc W hd
   obtain ⟨k,hk,lst⟩:=least_of O a hc.ne
   obtain ⟨e,g,pe⟩:=hc.turn a b hk
   exact ⟨e,(rgs_mem L).mpr ⟨a k,hin k (kn k hk),g,fun j hj=>kn j (pe.mem_iff.mp hj),fun j hj=>lst j (pe.mem_iff.mp hj)⟩,rise_congr pe⟩
 have:=pm.length_eq
 rw [List.length_map,List.length_map] at this
 exact this
end
open PySem PySem.Spec PyProof.Rows L2 L3
def pS (P:List Str) (i:Nat):Str:=(pl P i).getD ""
theorem pS_at {P:List Str} (ne:P≠[]) (i:Nat):pl P i=some (pS P i):=by
 obtain ⟨x,_,e⟩:=pl_at ne i
 unfold pS
 rw [e];rfl
theorem pS_mem {P:List Str} (ne:P≠[]) (i:Nat):pS P i∈P:=pl_isin (pS_at ne i).symm
def rgF (P:List Str):List Nat->Nat->List (Str × Str)
 | [],_=>[]
 | c::cs,i=>List.replicate c (pS P i,pS P (i+1))++rgF P cs (i+1)
theorem rgF_snoc (P:List Str):∀ (cs:List Nat) (c i:Nat),rgF P (cs++[c]) i=rgF P cs i++List.replicate c (pS P (i+cs.length),pS P (i+cs.length+1))
 | [],c,i=>by simp [rgF]
 | d::cs,c,i=>by
  rw [List.cons_append,rgF,rgF,rgF_snoc P cs c (i+1),List.append_assoc]
  simp only [List.length_cons]
  rw [show i+1+cs.length=i+(cs.length+1) by omega]
theorem rgF_len (P:List Str):∀ (cs:List Nat) (i:Nat),(rgF P cs i).length=cs.sum
 | [],_=>rfl
 | c::cs,i=>by rw [rgF,List.length_append,List.length_replicate,rgF_len P cs,List.sum_cons]
theorem rgF_mem {P:List Str}:∀ {cs:List Nat} {i:Nat} {p:Str × Str},p∈rgF P cs i->∃ j,p=(pS P j,pS P (j+1))
 | [],_,_,h=>nomatch h
 | c::cs,i,p,h=>by
  rcases List.mem_append.mp h with z | z
  ·exact ⟨i,(List.mem_replicate.mp z).2⟩
  ·exact rgF_mem z
theorem mulN_snoc:∀ (cs:List Nat) (c:Nat),mulN (cs++[c])=mulN cs * c
 | [],c=>by simp [mulN]
 | d::cs,c=>by rw [List.cons_append,mulN,mulN,mulN_snoc cs c,Nat.mul_assoc]
def cn (ps:List (Str × Str)) (q:Str × Str):Nat:=(ps.filter fun p=>decide (p=q)).length
theorem cn_app (ps qs:List (Str × Str)) (q:Str × Str):cn (ps++qs) q=cn ps q+cn qs q:=by unfold cn;rw [List.filter_append,List.length_append]
theorem cn_zero {ps:List (Str × Str)} {q:Str × Str} (h:∀ p∈ps,p≠q):cn ps q=0:=by
 unfold cn
 rw [List.length_eq_zero_iff,List.filter_eq_nil_iff]
 exact fun p hp z=>h p hp (of_decide_eq_true z)
theorem cn_rep (c:Nat) (p q:Str × Str):cn (List.replicate c p) q=if p=q then c else 0:=by
 unfold cn
 rw [List.filter_replicate]
 by_cases h:p=q
 ·rw [if_pos h,if_pos (decide_eq_true h),List.length_replicate]
 ·rw [if_neg h,if_neg (by simp [h])];rfl
theorem pS_inj {P:List Str} (nd:P.Nodup) {i j:Nat} (hi:i < P.length) (hj:j < P.length) (e:pS P i=pS P j):i=j:=by
 have ne:P≠[]:=fun z=>by rw [z] at hi;simp at hi
 exact pl_inj nd hi hj (by rw [pS_at ne,pS_at ne,e])
theorem pS_next {P:List Str} (nd:P.Nodup) (h2:2<=P.length) (i:Nat):pS P i≠pS P (i+1):=fun e=>by
 have hl:0 < P.length:=by omega
 have ne:P≠[]:=fun z=>by rw [z] at h2;simp at h2
 have m1:∀ i,pS P (i % P.length)=pS P i:=fun i=>by unfold pS pl;rw [Nat.mod_mod]
 have:=pS_inj nd (Nat.mod_lt i hl) (Nat.mod_lt (i+1) hl) (by rw [m1,m1];exact e)
 have h3:(i+1) % P.length=(i % P.length+1) % P.length:=by rw [Nat.add_mod,Nat.mod_eq_of_lt (show 1 < P.length by omega)]
 rw [h3] at this
 have lt:=Nat.mod_lt i hl
 by_cases q:i % P.length+1 < P.length
 ·rw [Nat.mod_eq_of_lt q] at this;omega
 ·have:i % P.length+1=P.length:=by omega
  simp_all
  omega
theorem cn_rgF {P:List Str} (nd:P.Nodup) {i:Nat} (hi:i < P.length):∀ (cs:List Nat) (j:Nat),j+cs.length<=P.length->cn (rgF P cs j) (pS P i,pS P (i+1))=if j<=i then (cs[i - j]?).getD 0 else 0
 | [],j,_=>by simp [rgF,cn]
 | c::cs,j,h=>by
  rw [List.length_cons] at h
  rw [rgF,cn_app,cn_rep,cn_rgF nd hi cs (j+1) (by omega)]
  by_cases e:j=i
  ·subst e
   rw [if_pos rfl,if_neg (by omega),if_pos (Nat.le_refl _)]
   simp
  ·rw [if_neg (fun z=>e (pS_inj nd (by omega) hi (Prod.mk.inj z).1))]
   by_cases l:j<=i
   ·rw [if_pos (show j+1<=i by omega),if_pos l,show i - j=(i - (j+1))+1 by omega]
    simp
   ·rw [if_neg (by omega),if_neg l]
theorem count_at (qs:List (Str × Str)) (f:Str × Str->Bool):((List.range qs.length).filter fun k=>f (aT qs k,bT qs k)).length=(qs.filter f).length:=by
 have e:qs=(List.range qs.length).map fun k=>(aT qs k,bT qs k):=by
  refine List.ext_getElem (by simp) fun i h1 h2=>?_
  have e:=List.getElem?_eq_getElem h1
  simp [aT_at e,bT_at e]
 have e2:(qs.filter f).length=(((List.range qs.length).map fun k=>(aT qs k,bT qs k)).filter f).length:=by rw [<- e]
 rw [e2,List.filter_map,List.length_map]
 rfl
structure Mde (P D:List Str) (cs ds:List Nat) (lp pd:List (Str × Str)):Prop where
 pn:P.Nodup
 p2:2<=P.length
 cl:cs.length=P.length
 dn:D.Nodup
 d2:D=[]\/2<=D.length
 dl:ds.length=D.length
 sh:∀ z∈P,∀ y∈P,z∈D->y∈D->z=y
 lps:∀ p∈lp,p.1=p.2/\p.1∈P
 pds:∀ p∈pd,p.1∈P/\p.2 ∉ P/\p.2 ∉ D
def madeT (P D:List Str) (cs ds:List Nat) (lp pd:List (Str × Str)):List (Str × Str):=rgF P cs 0++(rgF D ds 0++(lp++pd))
def dueM (D:List Str) (cs ds:List Nat) (lp:List (Str × Str)):Nat:=mulN cs+((if D=[] then 0 else mulN ds)+lp.length)
def Due (ps:List (Str × Str)) (d:Nat):Prop:=∀ qs:List (Str × Str),qs.Perm ps->∃ P D,Two (aT qs) (bT qs) qs.length P D/\(all2 (aT qs) (bT qs) qs.length P D).length=d
theorem Mde.two {P D:List Str} {cs ds:List Nat} {lp pd qs:List (Str × Str)} (M:Mde P D cs ds lp pd) (pm:qs.Perm (madeT P D cs ds lp pd)):Two (aT qs) (bT qs) qs.length P D:=by
 have pne:P≠[]:=fun z=>by have:=M.p2;rw [z] at this;simp at this
 have dneq:∀ {p},p∈rgF D ds 0->D≠[]:=fun {p} h z=>by
  have:=M.dl
  rw [z] at this
  rw [List.length_eq_zero_iff.mp this] at h
  cases h
 have from_:∀ p∈qs,p.1∈P\/p.1∈D:=fun p hp=>by
  rcases List.mem_append.mp (pm.mem_iff.mp hp) with z | z
  ·obtain ⟨j,rfl⟩:=rgF_mem z;exact .inl (pS_mem pne j)
  ·rcases List.mem_append.mp z with z | z
   ·obtain ⟨j,rfl⟩:=rgF_mem z;exact .inr (pS_mem (dneq ‹_›) j)
   ·rcases List.mem_append.mp z with z | z
    ·exact .inl (M.lps p z).2
    ·exact .inl (M.pds p z).1
 refine ⟨M.pn,M.p2,M.dn,M.d2,M.sh,fun k hk=>?_⟩
 have mk:=aT_mem hk
 rcases List.mem_append.mp (pm.mem_iff.mp mk) with z | z
 ·obtain ⟨j,e⟩:=rgF_mem z
  obtain ⟨e1,e2⟩:=Prod.mk.inj e
  exact .inl ⟨j,by rw [e1,pS_at pne],by rw [e2,pS_at pne]⟩
 ·rcases List.mem_append.mp z with z | z
  ·have dne:=dneq z
   obtain ⟨j,e⟩:=rgF_mem z
   obtain ⟨e1,e2⟩:=Prod.mk.inj e
   exact .inr (.inl ⟨dne,j,by rw [e1,pS_at dne],by rw [e2,pS_at dne]⟩)
  ·rcases List.mem_append.mp z with z | z
   ·exact .inr (.inr (.inl (M.lps _ z).1))
   ·refine .inr (.inr (.inr fun l hl q=>?_))
    have:=from_ _ (aT_mem hl)
    rw [show (aT qs l,bT qs l).1=bT qs k from q] at this
    exact this.elim (M.pds _ z).2.1 (M.pds _ z).2.2
theorem edl_len {P:List Str} {cs:List Nat} {qs:List (Str × Str)} (ne:P≠[]) (cl:cs.length=P.length) (h:∀ i,i < P.length->cn qs (pS P i,pS P (i+1))=(cs[i]?).getD 0):(edl (aT qs) (bT qs) qs.length P 0 P.length).map List.length=cs:=by
 unfold edl
 rw [List.map_map]
 refine List.ext_getElem (by simp [cl]) fun i h1 h2=>?_
 simp at h1
 have:=h i h1
 rw [List.getElem?_eq_getElem h2] at this
 simp only [List.getElem_map,List.getElem_range',Function.comp,Nat.zero_add,Nat.one_mul]
 show (eds (aT qs) (bT qs) qs.length P i).length=cs[i]
 rw [<- show cn qs (pS P i,pS P (i+1))=cs[i] from this]
 unfold eds cn
 rw [<- count_at]
 congr 2
 funext k
 rw [pS_at ne,pS_at ne,Bool.eq_iff_iff,Bool.and_eq_true,decide_eq_true_iff,decide_eq_true_iff,decide_eq_true_iff,Option.some.injEq,Option.some.injEq,Prod.mk.injEq]
theorem Mde.due {P D:List Str} {cs ds:List Nat} {lp pd:List (Str × Str)} (M:Mde P D cs ds lp pd):Due (madeT P D cs ds lp pd) (dueM D cs ds lp):=by
 intro qs pm
 have pne:P≠[]:=fun z=>by have:=M.p2;rw [z] at this;simp at this
 have cp:∀ q,cn qs q=cn (madeT P D cs ds lp pd) q:=fun q=>(pm.filter _).length_eq
 refine ⟨P,D,M.two pm,?_⟩
 have lenP:(ringL (aT qs) (bT qs) qs.length P).length=mulN cs:=by
  unfold ringL
  rw [prods_len,edl_len pne M.cl fun i hi=>?_]
  rw [cp]
  unfold madeT
  rw [cn_app,cn_app,cn_app,cn_rgF M.pn hi cs 0 (by rw [M.cl];omega),if_pos (Nat.zero_le _),Nat.sub_zero]
  rw [cn_zero (ps:=rgF D ds 0),cn_zero (ps:=lp),cn_zero (ps:=pd)]
  ·simp
  ·rintro p hp rfl;exact (M.pds _ hp).2.1 (pS_mem pne _)
  ·rintro p hp rfl;exact pS_next M.pn M.p2 i (M.lps _ hp).1
  ·rintro p hp e
   have dne:D≠[]:=fun z=>by
    have:=M.dl
    rw [z] at this
    rw [List.length_eq_zero_iff.mp this] at hp
    cases hp
   obtain ⟨j,e2⟩:=rgF_mem hp
   rw [e] at e2
   obtain ⟨e3,e4⟩:=Prod.mk.inj e2
   exact pS_next M.pn M.p2 i (M.sh _ (pS_mem pne _) _ (pS_mem pne _) (by rw [e3];exact pS_mem dne _) (by rw [e4];exact pS_mem dne _))
 have lenD:(if D=[] then ([]:List (List Nat)) else ringL (aT qs) (bT qs) qs.length D).length=if D=[] then 0 else mulN ds:=by
  by_cases dne:D=[]
  ·rw [if_pos dne,if_pos dne];rfl
  ·rw [if_neg dne,if_neg dne]
   have d2:=M.d2.resolve_left dne
   unfold ringL
   rw [prods_len,edl_len dne M.dl fun i hi=>?_]
   rw [cp]
   unfold madeT
   rw [cn_app,cn_app,cn_app,cn_rgF M.dn hi ds 0 (by rw [M.dl];omega),if_pos (Nat.zero_le _),Nat.sub_zero]
   rw [cn_zero (ps:=rgF P cs 0),cn_zero (ps:=lp),cn_zero (ps:=pd)]
   ·simp
   ·rintro p hp rfl;exact (M.pds _ hp).2.2 (pS_mem dne _)
   ·rintro p hp rfl;exact pS_next M.dn d2 i (M.lps _ hp).1
   ·rintro p hp e
    obtain ⟨j,e2⟩:=rgF_mem hp
    rw [e] at e2
    obtain ⟨e3,e4⟩:=Prod.mk.inj e2
    exact pS_next M.dn d2 i (M.sh _ (by rw [e3];exact pS_mem pne _) _ (by rw [e4];exact pS_mem pne _) (pS_mem dne _) (pS_mem dne _))
 have lenL:((K75.lps (aT qs) (bT qs) qs.length).map fun k=>[k]).length=lp.length:=by
  rw [List.length_map]
  unfold K75.lps
  have:=count_at qs fun p=>decide (p.1=p.2)
  rw [show ((List.range qs.length).filter fun k=>decide (aT qs k=bT qs k)).length=(qs.filter fun p=>decide (p.1=p.2)).length from this,(pm.filter _).length_eq]
  unfold madeT
  rw [List.filter_append,List.filter_append,List.filter_append]
  have z1:(rgF P cs 0).filter (fun p=>decide (p.1=p.2))=[]:=List.filter_eq_nil_iff.mpr fun p hp z=>by
   obtain ⟨j,rfl⟩:=rgF_mem hp
   exact pS_next M.pn M.p2 j (of_decide_eq_true z)
  have z2:(rgF D ds 0).filter (fun p=>decide (p.1=p.2))=[]:=List.filter_eq_nil_iff.mpr fun p hp z=>by
   have dne:D≠[]:=fun z=>by
    have:=M.dl
    rw [z] at this
    rw [List.length_eq_zero_iff.mp this] at hp
    cases hp
   obtain ⟨j,rfl⟩:=rgF_mem hp
   exact pS_next M.dn (M.d2.resolve_left dne) j (of_decide_eq_true z)
  have z3:lp.filter (fun p=>decide (p.1=p.2))=lp:=List.filter_eq_self.mpr fun p hp=>decide_eq_true (M.lps p hp).1
  have z4:pd.filter (fun p=>decide (p.1=p.2))=[]:=List.filter_eq_nil_iff.mpr fun p hp z=>by
   have e:=of_decide_eq_true z
   have:=M.pds p hp
   exact this.2.1 (e ▸ this.1)
  rw [z1,z2,z3,z4]
  simp
 unfold all2 dueM
 rw [List.length_append,List.length_append,lenP,lenD,lenL]
end K75
namespace L2
open PySem PySem.Spec PyProof.Rows
section
variable {X:Cx}
def rInsert:V->List V->Hp->VK->Prop:=fun x vs H Q=>∃ (l:Addr) (xs:List V) (i:Nat) (y:V),x=.ref l/\vs=[.int i,y]/\H l=some (.lst xs)/\i<=xs.length/\xs.length < sizeLine/\Q .non (upd H l (.lst (xs.take i++y::xs.drop i)))
theorem mt_insert:MtM X "list.insert" rInsert:=by
 intro pins s σ H x vs v us Q I rx rv h
 obtain ⟨l,xs,i,y,rfl,rfl,hH,hi,hz,q⟩:=h
 cases rx
 obtain ⟨u,u2,rfl,⟨t,rfl⟩,ru⟩:=vals2 rv
 obtain ⟨z,its,n,r,hl,e⟩:=I.lstM hH
 have lim:=Nat.lt_of_le_of_lt z line63
 have sz:its.toArray.size<=sizeLine:=by rw [List.size_toArray,<- hl];exact z
 have h1:-(2 ^ 63)<=(i:Int):=by omega
 have h2:(i:Int) < 2 ^ 63:=by omega
 have hneg:¬ ((i:Int) < 0):=by omega
 have htn:(i:Int).toNat=i:=Int.toNat_natCast i
 generalize (i:Int)=x at h1 h2 hneg htn ⊢
 have fit:¬ (!Builtin.List.listFitsIndex x)=true:=by
  rw [fitsIndex_both h1 h2]
  exact Bool.false_ne_true
 refine call_meets F.slot_list_insert ⟨_,e,rfl⟩ F.entry_list_insert (F.args_list_insert_3 _ _ _) (AutoSeq1.list_insert_list_int_val_1 l its.toArray n x t u2 fit sz) ⟨e,?_⟩
 refine ⟨.non,_,I.lset (its':=its.take i++u2::its.drop i) (ys:=xs.take i++y::xs.drop i) hH e ?_ ?_ ?_,rfl,q⟩
 ·simp only [hneg,if_false,htn,List.size_toArray]
  have hm:min i its.length=i:=by omega
  rw [hm]
  apply Array.toList_inj.mp
  simp
  rw [List.take_of_length_le (by simp)]
 ·exact (r.take i).append (.cons ru (r.drop i))
 ·rw [List.length_append,List.length_cons,List.length_take,List.length_drop]
  omega
end
def tTryA (K:PySem.W.Frag) (c:Value) (j i:Nat) (tx:TX) (ts:TS):TS:=fun D σ H=>tx σ H (fun v H1=>D.nx (σ.set j (some v)) H1) fun cls _ H1=>PySem.W.exmOne K cls c=some true/\∀ a,H1 a=none ->
 ts { nx:=fun σ2 H2=>D.nx (σ2.set i none) H2,rt:=D.rt,bk:=fun σ2 H2=>D.bk (σ2.set i none) H2,ct:=fun σ2 H2=>D.ct (σ2.set i none) H2 } (σ.set i (some (.ref a))) (upd H1 a (excO a cls))
section
variable {X:Cx} {tx:TX} {ts:TS} {x n y:Str} {c:Value} {i j:Nat} {e:Expr} {b₀:Stmt} {suite:List Stmt} {pos pos' pn np hpos:Pos}
theorem ps_tryA (hst:X.stack=X.env::X.outer) (hf:X.env.frame=some X.env.locals) (hj:X.N[j]?=some y) (hy:Loc X.env.scope y) (he:PEX X e tx) (hx:Gl X x) (hm:X.mg x=some c) (hN:X.N.Nodup) (hi:X.N[i]?=some n) (hn:X.env.scope.names.lookup n=some .local)
  (hs:∀ a,PSs ((X.catch a).nox) (b₀::suite) ts) (hd:(x == ("__debug__" : Str))=false:=by decide) (hsw:swapsWith e (some (.Name y pn)) pos'.line X.env=pure false:=by rfl) (hfn:X.fn y=true\/X.env.scope.names.lookup y=some .local:=by first | exact .inl rfl | exact .inr rfl | assumption) :
  PS X (.Try [.Assign [.Name y pn] e pos'] [.ExceptHandler (some (.Name x np)) (some n) (b₀::suite) hpos] [] [] pos) (tTryA X.K c j i tx ts):=by
 intro pins s σ H D I h
 refine wpAny_Try_except (wpAny_execs_cons (wpAny_Assign_Name (wpAny_mono (he pins s σ H _ _ I h) (fun v s1 ⟨z,H1,I1,r1,q1⟩=>store_ok I1 hN hj hy r1 (fun s2 I2=>wpAny_execs_nil (wpAny_execs_nil ⟨_,H1,I2,q1⟩)) hfn) fun ev s2 hx2=>?_) hsw))
 obtain ⟨a,cls,H1,s1,H2,rfl,I1,fl,hex,hR⟩:=hx2
 obtain ⟨B,a0,hfl,hB⟩:=fl.fly
 have hfr:X.A.frames=some (X.env::X.outer):=by rw [I.ok.frames,hst]
 have hfl0:Heap.FlyingW B (X.env::X.outer) a cls a0 s2.heap:=hst ▸ hfl
 have fs0:∀ {g:Heap},s2.heap.UpToSlots g->∀ b∈frs X.stack,∀ o,s2.heap.get? b=some o->∃ sl,g.get? b=some { o with slots:=sl }:=fun {g} u b hb o e=>u b o e (by
  obtain ⟨_,o',e',d⟩:=hfl.2.2.1.mem (show b∈X.stack.filterMap (·.frame) from hb)
  rw [e] at e';cases e'
  exact d)
 refine wpAny_looks_onW hfr hf hfl0 fun h4 held4 u4=>?_
 refine wpAny_landsW held4 fun h5 fly5 u5=>?_
 have fly5':Heap.FlyingW B X.stack a cls a0 h5:=hst ▸ fly5
 have I5:=(fly_in I1 fl hB fly5' (fs0 (u4.trans u5))).1
 have J5:=I5.catch a
 refine wpAny_handleBy_cons (codeAny_handlers_test ?_) (by intro q;cases q)
 refine ld_glob (X:=X.catch a) J5 hx hm ?_ hd
 have LT:PySem.W.Looks (model X.prog X.w) h5 (typeOf (.ref a)) cls:=by
  obtain ⟨ob,hob,hc⟩:=fly5.there
  subst hc
  exact (PySem.W.Looks.ld hob).andThen .now
 refine PySem.W.Looks.here (s:={ s2 with heap:=h5 }) (PySem.W.exm_one I5.kIn LT hex) ?_
 show codeAny _ _ _ _ _
 refine codeAny_handlers_suite_as ?_
 refine lands_againW fly5' fun h6 fly6 u6=>?_
 have I6:=(fly_in I1 fl hB fly6 (fs0 ((u4.trans u5).trans u6))).2
 have J6:=I6.catch a
 refine store_ok (X:=X.catch a) J6 hN hi (.inl hn) (v:=.ref a) rfl (fun s7 J7=>?_) (.inr hn)
 have J7':Inv ((X.catch a).nox) pins (σ.set i (some (.ref a))) (upd H2 a (excO a cls)) s7:=J7.wish _
 refine wpAny_mono (hs a pins s7 _ _ _ J7' (hR a fl.an)) (fun f s8 q8=>?_) fun _ _ z=>False.elim z
 cases f with
 | next =>
  obtain ⟨σ8,H8,J8,q8⟩:=q8
  exact goes_ok (Inv.uncatch I.ok J8) hN hi hn fun s9 I9=>⟨_,H8,I9,q8⟩
 | brk =>
  obtain ⟨σ8,H8,J8,q8⟩:=q8
  exact goes_ok (Inv.uncatch I.ok J8) hN hi hn fun s9 I9=>⟨_,H8,I9,q8⟩
 | cont =>
  obtain ⟨σ8,H8,J8,q8⟩:=q8
  exact goes_ok (Inv.uncatch I.ok J8) hN hi hn fun s9 I9=>⟨_,H8,I9,q8⟩
 | ret u =>
  obtain ⟨v,σ8,H8,J8,r8,q8⟩:=q8
  exact goes_ok (Inv.uncatch I.ok J8) hN hi hn fun s9 I9=>⟨v,_,H8,I9,r8,q8⟩
end
end L2
namespace K75
open PySem PySem.Spec PyProof.Rows L2 L3
abbrev sRO:Stmt:=top 33 -- _law_ring_of
abbrev sCo:Stmt:=top 34 -- _law_counts
abbrev sMx:Stmt:=top 37 -- _law_mixed
theorem mulN_le:∀ (cs:List Nat),(∀ c∈cs,c<=5)->mulN cs<=5 ^ cs.length
 | [],_=>Nat.le_refl _
 | c::cs,h=>by
  rw [mulN,List.length_cons,Nat.pow_succ,Nat.mul_comm]
  exact Nat.mul_le_mul (mulN_le cs fun d hd=>h d (List.mem_cons_of_mem _ hd)) (h c List.mem_cons_self)
theorem TiesAt.app {H:Hp}:∀ {ts us:List Addr} {ps qs:List (Str × Str)},TiesAt H ts ps->TiesAt H us qs->TiesAt H (ts++us) (ps++qs)
 | _,_,_,_,.nil,q=>q
 | _,_,_,_,.cons r t,q=>.cons r (TiesAt.app t q)
theorem TiesAt.rep {H:Hp} {t:Addr} {p:Str × Str} (h:H t=some (.tup [.str p.1,.str p.2])):∀ n,TiesAt H (List.replicate n t) (List.replicate n p)
 | 0=>.nil
 | n+1=>.cons h (TiesAt.rep h n)
theorem flat_rep {α:Type} (x:α):∀ n,(List.replicate n [x]).flatten=List.replicate n x
 | 0=>rfl
 | n+1=>by rw [List.replicate_succ,List.flatten_cons,flat_rep x n,List.replicate_succ];rfl
section
variable {P:Program} {w:World} {K:PySem.W.Frag} {mg:Str->Option Value} {base:Heap}
abbrev vN (cs:List Nat):List V:=cs.map fun (c:Nat)=>V.int (c:Int)
abbrev aRO:List Str:=["_law_names_here","_law_counts_here"]
def spRO:Sp:=fun vs H Q _=>∃ (n c:Addr) (ns:List Str) (cs:List Nat),vs=[.ref n,.ref c]/\H n=some (.lst (ns.map V.str))/\H c=some (.lst (vN cs))/\1<=cs.length/\cs.length<=ns.length/\ns.length<=12/\(∀ x∈cs,x<=5) /\
 ∀ (t lt:Addr) (ts:List Addr) (H':Hp),H lt=none->lt≠t->H t=none->H' t=some (.tup [.ref lt,.int (mulN cs:Int)])->H' lt=some (.lst (ts.map V.ref))->TiesAt H' ts (rgF (ns.take cs.length) cs 0)->Same H H'->Q (.ref t) H'
abbrev nRO:List Str:=["_law_names_here","_law_counts_here","_law_ties","_law_due","_law_k","_law_many"]
theorem scRO:FnScope nRO aRO (defScope sRO):=⟨rfl,rfl,rfl,by decide +kernel,rfl,by decide +kernel,by decide +kernel⟩
theorem ok_ro {f:Addr} {fd:FuncData} (F:Fun K "_law_ring_of" "_law_ring_of" sRO f fd) (en:mg "enumerate" = none) (T:Glb mg):FnOk P w K mg base CX0 1 f fd aRO spRO:=by
 refine F.ok scRO (fun vs H Q E h=>?_) (fun cdv A outer s H vs Q E hr h=>?_)
 ·obtain ⟨n,c,ns,cs,rfl,_⟩:=h
  rfl
 ·obtain ⟨n,c,ns,cs,rfl,hn,hc,c1,cl,n12,c5,k⟩:=h
  refine ⟨_,pss_cons (ps_set (i:=2) scRO.nd rfl (Or.inl rfl) (pe_lst pa_nil))
   (pss_cons (ps_set (i:=3) scRO.nd rfl (Or.inl rfl) pe_int)
   (pss_cons (ps_for PassesOwn.never rfl (pi_enum rfl en (pa_cons (pv 1) pa_nil)) (pg_tup rfl (pgs_cons (pg_name (i:=4) scRO.nd rfl (Or.inl rfl)) (pgs_cons (pg_name (i:=5) scRO.nd rfl (Or.inl rfl)) pgs_nil)))
    (pss_cons (ps_set (i:=3) scRO.nd rfl (Or.inl rfl) (pe_op op_mul (pv 3) (pv 5)))
    (pss_one (ps_expr (pe_bm PySem.F.plainAttrs_list PySem.F.slot_list_extend PySem.F.type_list_extend mt_extend (pv 2) (pa_cons (pe_op op_rep
     (pe_lst (pa_cons (pe_tup (pa_cons (pe_ix ix_list (pv 0) (pv 4) (fun _ _=>rfl)) (pa_cons (pe_ix ix_list (pv 0) (pe_op op_mod (pe_op op_add (pv 4) pe_int) (pe_callB call_len_seq (by rfl) T.len PySem.boot_len (pa_cons (pv 1) pa_nil))) (fun _ _=>rfl)) pa_nil))) pa_nil)) (pv 5)) pa_nil))))))
   (pss_one (ps_ret (pe_tup (pa_cons (pv 2) (pa_cons (pv 3) pa_nil))))))),?_⟩
  have big:10000<=sizeLine:=by decide
  have Plen:(ns.take cs.length).length=cs.length:=by rw [List.length_take];omega
  have Pne:ns.take cs.length≠[]:=fun z=>by rw [z] at Plen;simp at Plen;omega
  have pAt:∀ i,i < cs.length->ns[i]?=some (pS (ns.take cs.length) i):=fun i hi=>by
   have e:=pS_at Pne i
   rw [pl_lt (by rw [Plen];exact hi),List.getElem_take] at e
   rw [List.getElem?_eq_getElem (by omega),e]
  have pMod:∀ i,pS (ns.take cs.length) (i % cs.length)=pS (ns.take cs.length) i:=fun i=>by unfold pS pl;rw [Plen,Nat.mod_mod]
  refine ⟨(by decide),fun lt nlt=>?_⟩
  have s0:=same_upd (o:=.lst []) nlt
  have h0:=upd_same (H:=H) (a:=lt) (o:=.lst [])
  generalize upd H lt (.lst [])=H0 at s0 h0 ⊢
  refine ⟨_,rfl,c,rfl,⟨_,SqL.of (s0 _ _ hc)⟩,for_enum (K:=K) (xs:=vN cs) (fun i σ H1=>∃ (v4 v5:Option V) (ts:List Addr),σ=[some (.ref n),some (.ref c),some (.ref lt),some (.int (mulN (cs.take i):Int)),v4,v5]/\Same H H1/\H1 lt=some (.lst (ts.map V.ref))/\TiesAt H1 ts (rgF (ns.take cs.length) (cs.take i) 0)) ⟨_,_,[],rfl,s0,h0,.nil⟩ ?_ ?_ ?_⟩
  ·rintro i σ H1 _ ⟨_,_,_,rfl,s1,_⟩
   exact SqL.of (s1 _ _ hc)
  ·rintro i y σ H1 q hy ⟨v4,v5,ts,rfl,s1,hlt,hT⟩ nq
   rw [List.getElem?_map] at hy
   obtain ⟨m,em,rfl⟩:=Option.map_eq_some_iff.mp hy
   have hi:i < cs.length:=(List.getElem?_eq_some_iff.mp em).1
   have m5:=c5 m (List.mem_of_getElem? em)
   have etk:cs.take (i+1)=cs.take i++[m]:=by rw [List.take_add_one,em];rfl
   have lti:(cs.take i).length=i:=by rw [List.length_take];omega
   have b1:mulN (cs.take i)<=5 ^ 12:=Nat.le_trans (mulN_le _ fun x hx=>c5 x (List.mem_of_mem_take hx)) (Nat.pow_le_pow_right (by decide) (by rw [lti];omega))
   have b2:(5:Nat) ^ 12=244140625:=by decide
   have sq:=same_upd (o:=.tup [.int (i:Int),.int (m:Int)]) nq
   have hq:=upd_same (H:=H1) (a:=q) (o:=.tup [.int (i:Int),.int (m:Int)])
   have hlt2:=sq _ _ hlt
   have hT2:=hT.same sq
   have s2:=s1.trans sq
   generalize upd H1 q (.tup [.int (i:Int),.int (m:Int)])=H2 at sq hq hlt2 hT2 s2 ⊢
   refine ⟨q,_,rfl,SqT.of hq,rfl,_,_,rfl,_,_,rfl,rfl,?_⟩
   refine ⟨_,rfl,_,rfl,_,_,rfl,rfl,.inl ⟨by omega,by omega⟩,?_⟩
   have e1:atI (ns.map V.str) (i:Int)=some (.str (pS (ns.take cs.length) i)):=atI_nat (by rw [List.getElem?_map,pAt i hi];rfl)
   have emod:(((i:Int)+1) % (((vN cs).length:Nat):Int))=(((i+1) % cs.length:Nat):Int):=by
    rw [List.length_map,show (i:Int)+1=((i+1:Nat):Int) by simp,Int.natCast_emod]
   have e2:atI (ns.map V.str) (((i+1) % cs.length:Nat):Int)=some (.str (pS (ns.take cs.length) (i+1))):=by
    have:=pAt ((i+1) % cs.length) (Nat.mod_lt _ (by omega))
    rw [pMod] at this
    exact atI_nat (by rw [List.getElem?_map,this];rfl)
   refine ⟨_,rfl,.inl ⟨rfl,_,SqL.of hlt2⟩,_,rfl,_,rfl,n,_,_,_,rfl,rfl,SqL.of (s2 _ _ hn),e1,_,rfl,_,rfl,_,_,rfl,rfl,_,rfl,c,_,rfl,.inl (SqL.of (s2 _ _ hc)),_,_,rfl,rfl,(by rw [List.length_map];omega),?_⟩
   dsimp only
   rw [emod]
   refine ⟨n,_,_,_,rfl,rfl,SqL.of (s2 _ _ hn),e2,(by show 2<=sizeLine;omega),fun t nt=>?_⟩
   have st:=same_upd (o:=.tup [V.str (pS (ns.take cs.length) i),V.str (pS (ns.take cs.length) (i+1))]) nt
   have ht:=upd_same (H:=H2) (a:=t) (o:=.tup [V.str (pS (ns.take cs.length) i),V.str (pS (ns.take cs.length) (i+1))])
   generalize upd H2 t (.tup [V.str (pS (ns.take cs.length) i),V.str (pS (ns.take cs.length) (i+1))])=H3 at st ht ⊢
   refine ⟨(by show 1<=sizeLine;omega),fun l1 nl1=>?_⟩
   have sl:=same_upd (o:=.lst [V.ref t]) nl1
   have hl1:=upd_same (H:=H3) (a:=l1) (o:=.lst [V.ref t])
   have ht4:=sl _ _ ht
   have hlt4:=sl _ _ (st _ _ hlt2)
   have hT4:=(hT2.same st).same sl
   have s4:=(s2.trans st).trans sl
   generalize upd H3 l1 (.lst [V.ref t])=H4 at sl hl1 ht4 hlt4 hT4 s4 ⊢
   refine ⟨_,rfl,l1,_,_,rfl,rfl,hl1,by omega,by omega,(by rw [Int.toNat_natCast];show 1 * m<=sizeLine;omega),fun l2 nl2=>?_⟩
   rw [Int.toNat_natCast,flat_rep]
   have s5':=same_upd (o:=.lst (List.replicate m (V.ref t))) nl2
   have hl2:=upd_same (H:=H4) (a:=l2) (o:=.lst (List.replicate m (V.ref t)))
   have ht5:=s5' _ _ ht4
   have hlt5:=s5' _ _ hlt4
   have hT5:=hT4.same s5'
   have s5:=s4.trans s5'
   generalize upd H4 l2 (.lst (List.replicate m (V.ref t)))=H5 at hl2 ht5 hlt5 hT5 s5 ⊢
   have tl:ts.length<=5 * 12:=by
    rw [hT.len,rgF_len]
    have:∀ (l:List Nat),(∀ x∈l,x<=5)->l.sum<=5 * l.length:=by
     intro l
     induction l with
     | nil=>intro _;simp
     | cons x l ih=>intro h;rw [List.sum_cons,List.length_cons];have:=ih fun y hy=>h y (List.mem_cons_of_mem _ hy);have:=h x List.mem_cons_self;omega
    have:=this (cs.take i) fun x hx=>c5 x (List.mem_of_mem_take hx)
    rw [lti] at this
    omega
   refine ⟨lt,l2,_,_,rfl,rfl,hlt5,hl2,(by rw [List.length_map,List.length_replicate];omega),?_⟩
   refine ⟨some (.int (i:Int)),some (.int (m:Int)),ts++List.replicate m t,?_,Same.upd_new s5 nlt,by rw [upd_same,List.map_append,List.map_replicate],?_⟩
   ·rw [etk,mulN_snoc]
    simp
   ·rw [etk,rgF_snoc,lti,Nat.zero_add]
    refine TiesAt.mono (TiesAt.app hT5 (TiesAt.rep (p:=(pS (ns.take cs.length) i,pS (ns.take cs.length) (i+1))) ht5 m)) fun u xs e=>?_
    rw [L2.upd_ne (ne_of e hlt5 (by intro z;cases z))]
    exact e
  ·rintro σ H1 ⟨v4,v5,ts,rfl,s1,hlt,hT⟩
   have lc:(vN cs).length=cs.length:=List.length_map _
   rw [lc,List.take_of_length_le (Nat.le_refl _)] at hT ⊢
   refine ⟨_,rfl,_,rfl,(by show 2<=sizeLine;omega),fun t nt=>?_⟩
   have st:=same_upd (o:=.tup [V.ref lt,V.int (mulN cs:Int)]) nt
   exact k t lt ts _ nlt (ne_of_none hlt nt) (s1.free nt) upd_same (st _ _ hlt) (hT.same st) (s1.trans st)
abbrev aCo:List Str:=["_law_pot_here","_law_many","_law_room"]
def spCo:Sp:=fun vs H Q _=>∃ (p:Addr) (m r:Nat),vs=[.ref p,.int (m:Int),.int (r:Int)]/\Row H p/\m<=12/\r<=30 /\
 ∀ (c:Addr) (cs:List Nat) (H':Hp),H c=none->H' c=some (.lst (vN cs))->cs.length=m->(∀ x∈cs,x<=5)->cs.sum<=m+r->Row H' p->But p H H'->Q (.ref c) H'
abbrev nCo:List Str:=["_law_pot_here","_law_many","_law_room","_law_found","_law_k","_law_more"]
theorem scCo:FnScope nCo aCo (defScope sCo):=⟨rfl,rfl,rfl,by decide +kernel,rfl,by decide +kernel,by decide +kernel⟩
theorem ok_co {f fD:Addr} {fd fdD:FuncData} (F:Fun K "_law_counts" "_law_counts" sCo f fd) (D:Df K mg "_law_take" sTake ["_law_pot_here","_law_many"] fD fdD) (T:Glb mg):FnOk P w K mg base CX0 2 f fd aCo spCo:=by
 have G:FnOk P w K mg base CX0 1 fD fdD ["_law_pot_here","_law_many"] spDraw:=ok_take D.fn T
 refine F.ok scCo (fun vs H Q E h=>?_) (fun cdv A outer s H vs Q E hr h=>?_)
 ·obtain ⟨p,m,r,rfl,_⟩:=h
  rfl
 ·obtain ⟨p,m,r,rfl,hp,m12,r30,k⟩:=h
  refine ⟨_,pss_cons (ps_set (i:=3) scCo.nd rfl (Or.inl rfl) (pe_lst pa_nil))
   (pss_cons (ps_for PassesOwn.never rfl (pi_range1 rfl T.range (pa_cons (pv 1) pa_nil)) (pg_name (i:=4) scCo.nd rfl (Or.inl rfl))
    (pss_cons (ps_set (i:=5) scCo.nd rfl (Or.inl rfl) (pe_call G hr rfl D.mgf D.fn.kp D.b .nil pass0 (pa_cons (pv 0) (pa_cons (pe_op op_add pe_int (pe_callB (call_min2 rfl) (by rfl) T.min boot_min (pa_cons pe_int (pa_cons (pv 2) pa_nil)))) pa_nil))))
    (pss_cons (ps_set (i:=2) scCo.nd rfl (Or.inl rfl) (pe_op op_sub (pv 2) (pv 5)))
    (pss_one (ps_expr (pe_bm PySem.F.plainAttrs_list PySem.F.slot_list_append PySem.F.type_list_append mt_append (pv 3) (pa_cons (pe_op op_add pe_int (pv 5)) pa_nil)))))))
   (pss_one (ps_ret (pv 3)))),?_⟩
  refine ⟨(by decide),fun c nc=>?_⟩
  have npc:p≠c:=ne_of_none hp.lst.choose_spec nc
  refine ⟨_,rfl,_,rfl,by omega,by omega,?_⟩
  refine for_range (fun i σ H2=>∃ (v4 v5:Option V) (r2:Nat) (cs:List Nat),σ=[some (.ref p),some (.int (m:Int)),some (.int (r2:Int)),some (.ref c),v4,v5]/\Row H2 p/\But p H H2/\H2 c=some (.lst (vN cs))/\cs.length=i/\(∀ x∈cs,x<=5)/\cs.sum+r2=i+r)
   ⟨_,_,r,[],rfl,hp.upd_ne npc,(fun b o e _=>by rw [L2.upd_ne (ne_of_none e nc)];exact e),upd_same,rfl,(fun _ z=>nomatch z),by simp⟩ ?_ ?_
  ·rintro i σ H2 hi ⟨v4,v5,r2,cs,rfl,row2,b2,hc2,lc,c5,sm⟩
   have hi':i < 12:=by omega
   refine ⟨_,rfl,_,rfl,_,_,rfl,_,_,rfl,rfl,p,_,rfl,row2,by split<;>omega,by split<;>omega,fun d H3 d0 d1 row3 b3=>?_⟩
   have hc3:=b3 _ _ hc2 (Ne.symm npc)
   obtain ⟨dn,rfl⟩:=Int.eq_ofNat_of_zero_le d0
   have dr:dn<=r2/\dn<=4:=by split at d1<;>omega
   refine ⟨_,rfl,_,rfl,_,_,rfl,rfl,?_⟩
   refine ⟨_,rfl,.inl ⟨rfl,_,SqL.of hc3⟩,_,rfl,_,_,rfl,rfl,c,_,_,rfl,rfl,hc3,(by rw [List.length_map,lc];exact small1000 (by omega)),?_⟩
   refine ⟨some (.int (0+(i:Int))),some (.int (dn:Int)),r2 - dn,cs++[1+dn],?_,row3.upd_ne npc,(b2.trans b3).upd_new nc,by rw [upd_same];simp,by simp [lc],fun x hx=>?_,?_⟩
   ·rw [Int.ofNat_sub dr.1]
    rfl
   ·rcases List.mem_append.mp hx with z | z
    ·exact c5 x z
    ·rw [List.mem_singleton.mp z];omega
   ·rw [List.sum_append];simp;omega
  ·rintro σ H2 ⟨v4,v5,r2,cs,rfl,row2,b2,hc2,lc,c5,sm⟩
   have em:((m:Int)).toNat=m:=by simp
   rw [em] at lc sm
   exact ⟨_,rfl,k c cs H2 nc hc2 lc c5 (by omega) row2 b2⟩
abbrev aMx:List Str:=["_law_pot_here","_law_ties"]
def spMx:Sp:=fun vs H Q _=>∃ (p b:Addr) (ts:List Addr) (ps:List (Str × Str)),vs=[.ref p,.ref b]/\Row H p/\b≠p/\H b=some (.lst (ts.map V.ref))/\TiesAt H ts ps/\ps.length<=30 /\
 ∀ (c:Addr) (us:List Addr) (qs:List (Str × Str)) (H':Hp),H c=none->H' c=some (.lst (us.map V.ref))->TiesAt H' us qs->qs.Perm ps->Row H' p->But p H H'->Q (.ref c) H'
abbrev nMx:List Str:=["_law_pot_here","_law_ties","_law_found","_law_tie"]
theorem scMx:FnScope nMx aMx (defScope sMx):=⟨rfl,rfl,rfl,by decide +kernel,rfl,by decide +kernel,by decide +kernel⟩
theorem TiesAt.takeP {H:Hp}:∀ {ts:List Addr} {ps:List (Str × Str)} (n:Nat),TiesAt H ts ps->TiesAt H (ts.take n) (ps.take n)/\TiesAt H (ts.drop n) (ps.drop n)
 | _,_,0,h=>⟨.nil,h⟩
 | _,_,n+1,.nil=>⟨.nil,.nil⟩
 | _,_,n+1,.cons r t=>⟨.cons r (TiesAt.takeP n t).1,(TiesAt.takeP n t).2⟩
theorem ok_mx {f fD:Addr} {fd fdD:FuncData} (F:Fun K "_law_mixed" "_law_mixed" sMx f fd) (D:Df K mg "_law_take" sTake ["_law_pot_here","_law_many"] fD fdD) (T:Glb mg):FnOk P w K mg base CX0 2 f fd aMx spMx:=by
 have G:FnOk P w K mg base CX0 1 fD fdD ["_law_pot_here","_law_many"] spDraw:=ok_take D.fn T
 refine F.ok scMx (fun vs H Q E h=>?_) (fun cdv A outer s H vs Q E hr h=>?_)
 ·obtain ⟨p,b,ts,ps,rfl,_⟩:=h
  rfl
 ·obtain ⟨p,b,ts,ps,rfl,hp,nbp,hb,hT,few,k⟩:=h
  refine ⟨_,pss_cons (ps_set (i:=2) scMx.nd rfl (Or.inl rfl) (pe_lst pa_nil))
   (pss_cons (ps_for PassesOwn.never rfl (pi_list (pv 1)) (pg_name (i:=3) scMx.nd rfl (Or.inl rfl))
    (pss_one (ps_expr (pe_bm PySem.F.plainAttrs_list PySem.F.slot_list_insert PySem.F.type_list_insert mt_insert (pv 2) (pa_cons (pe_call G hr rfl D.mgf D.fn.kp D.b .nil pass0 (pa_cons (pv 0) (pa_cons (pe_op op_add (pe_callB call_len_seq (by rfl) T.len PySem.boot_len (pa_cons (pv 2) pa_nil)) pe_int) pa_nil))) (pa_cons (pv 3) pa_nil))))))
   (pss_one (ps_ret (pv 2)))),?_⟩
  refine ⟨(by decide),fun c nc=>?_⟩
  have npc:p≠c:=ne_of_none hp.lst.choose_spec nc
  have nbc:b≠c:=ne_of_none hb nc
  have b0:But p H (upd H c (.lst [])):=fun x o e _=>by rw [L2.upd_ne (ne_of_none e nc)];exact e
  have ltu:(ts.map V.ref).length=ps.length:=by rw [List.length_map,hT.len]
  have tkeep:∀ {H2:Hp},But p H H2->TiesAt H2 ts ps:=fun bb=>hT.but bb fun xs z=>by obtain ⟨x,e⟩:=hp.lst;rw [e] at z;cases z
  have hb0:upd H c (.lst []) b=some (.lst (ts.map V.ref)):=by rw [L2.upd_ne nbc];exact hb
  refine ⟨_,rfl,b,rfl,⟨_,SqL.of hb0⟩,for_list (K:=K) (xs:=ts.map V.ref) (fun i σ H2=>∃ (v3:Option V) (us:List Addr) (qs:List (Str × Str)),σ=[some (.ref p),some (.ref b),some (.ref c),v3]/\Row H2 p/\But p H H2/\H2 c=some (.lst (us.map V.ref))/\TiesAt H2 us qs/\qs.Perm (ps.take i))
   ⟨_,[],[],rfl,hp.upd_ne npc,b0,upd_same,.nil,List.Perm.refl _⟩ ?_ ?_ ?_⟩
  ·rintro i σ H2 _ ⟨_,_,_,rfl,_,b2,_⟩
   exact SqL.of (b2 _ _ hb nbp)
  ·rintro i y σ H2 hy ⟨v3,us,qs,rfl,row2,b2,hc2,hU,pm⟩
   rw [List.getElem?_map] at hy
   obtain ⟨t,et,rfl⟩:=Option.map_eq_some_iff.mp hy
   obtain ⟨pr,ep,ht⟩:=(tkeep b2).get et
   have hi:i < ps.length:=(List.getElem?_eq_some_iff.mp ep).1
   have lq:us.length=i:=by rw [hU.len,pm.length_eq,List.length_take];omega
   refine ⟨_,rfl,.inl ⟨rfl,_,SqL.of hc2⟩,_,rfl,_,rfl,c,_,rfl,.inl (SqL.of hc2),_,_,rfl,rfl,p,_,rfl,row2,by rw [List.length_map];omega,by rw [List.length_map,lq];omega,fun d H3 d0 d1 row3 b3=>?_⟩
   obtain ⟨dn,rfl⟩:=Int.eq_ofNat_of_zero_le d0
   rw [List.length_map,lq] at d1
   have hc3:=b3 _ _ hc2 (Ne.symm npc)
   have hU3:TiesAt H3 us qs:=hU.but b3 fun xs z=>by obtain ⟨x,e⟩:=row2.lst;rw [e] at z;cases z
   have ht3:=(tkeep (b2.trans b3)).get et
   obtain ⟨pr',ep',ht3⟩:=ht3
   rw [ep] at ep'
   cases ep'
   refine ⟨_,rfl,c,_,dn,_,rfl,rfl,hc3,by rw [List.length_map,lq];omega,by rw [List.length_map,lq];exact small1000 (by omega),?_⟩
   refine ⟨_,us.take dn++t::us.drop dn,qs.take dn++pr::qs.drop dn,rfl,row3.upd_ne npc,(b2.trans b3).upd_new nc,by rw [upd_same];simp,?_,?_⟩
   ·refine TiesAt.mono (TiesAt.app (TiesAt.takeP dn hU3).1 (.cons ht3 (TiesAt.takeP dn hU3).2)) fun u xs e=>?_
    rw [L2.upd_ne (ne_of e hc3 (by intro z;cases z))]
    exact e
   ·rw [List.take_add_one,ep]
    have p1:(qs.take dn++pr::qs.drop dn).Perm (pr::(qs.take dn++qs.drop dn)):=List.perm_middle
    rw [List.take_append_drop] at p1
    refine p1.trans ((List.Perm.cons _ pm).trans ?_)
    have:(pr::ps.take i).Perm (ps.take i++[pr]):=(List.perm_append_comm (l₁:=[pr]))
    exact this
  ·rintro σ H2 ⟨v3,us,qs,rfl,row2,b2,hc2,hU,pm⟩
   rw [ltu,List.take_of_length_le (Nat.le_refl _)] at pm
   exact ⟨_,rfl,k c us qs H2 nc hc2 hU pm row2 b2⟩
end
abbrev sWb:Stmt:=top 35 -- _law_web
theorem cutN {xs:List V} (n:Nat):cutV xs (some (n:Int)) none=xs.drop n:=by
 unfold cutV
 rw [HT.sIx_nat,HT.sIx_none]
 by_cases h:n<=xs.length
 ·rw [Nat.min_eq_left h,List.take_of_length_le (by rw [List.length_drop];exact Nat.le_refl _)]
 ·rw [Nat.min_eq_right (by omega),List.drop_of_length_le (Nat.le_refl _),List.drop_of_length_le (by omega)]
  simp
theorem mem_tk {ns:List Str} {m:Nat} {z:Str}:z∈ns.take m ↔ ∃ i,i < m/\ns[i]?=some z:=by
 constructor
 ·intro h
  obtain ⟨i,hi,e⟩:=List.getElem_of_mem h
  rw [List.length_take] at hi
  rw [List.getElem_take] at e
  exact ⟨i,by omega,by rw [List.getElem?_eq_getElem (by omega),e]⟩
 ·rintro ⟨i,hi,e⟩
  exact List.mem_of_getElem? (i:=i) (by rw [List.getElem?_take,if_pos hi];exact e)
theorem mem_dt {ns:List Str} {a b:Nat} {z:Str} (h:z∈(ns.drop a).take b):∃ i,a<=i/\i < a+b/\ns[i]?=some z:=by
 obtain ⟨i,hi,e⟩:=mem_tk.mp h
 rw [List.getElem?_drop] at e
 exact ⟨a+i,by omega,by omega,e⟩
theorem mde_of {ns:List Str} (nd:ns.Nodup) {m t ot:Nat} (m2:2<=m) (ml:m<=ns.length) (t1:t<=1) (o2:ot=0\/(2<=ot/\ot<=(ns.drop (m - t)).length)) {cs ds:List Nat} (cl:cs.length=m) (dl:ds.length=ot) {lp pd:List (Str × Str)} (hl:∀ p∈lp,p.1=p.2/\p.1∈ns.take m)
  (hp:∀ p∈pd,p.1∈ns.take m/\∃ j,m+ot<=j/\ns[j]?=some p.2):Mde (ns.take m) ((ns.drop (m - t)).take ot) cs ds lp pd:=by
 have pl:(ns.take m).length=m:=by rw [List.length_take];omega
 have dlen:((ns.drop (m - t)).take ot).length=ot:=by
  rw [List.length_take]
  rcases o2 with e | e<;>omega
 refine ⟨nd.sublist (List.take_sublist _ _),by omega,by rw [pl];exact cl,nd.sublist ((List.take_sublist _ _).trans (List.drop_sublist _ _)),?_,by rw [dlen];exact dl,fun z hz y hy zd yd=>?_,hl,fun p hpd=>?_⟩
 ·rcases o2 with e | e
  ·exact .inl (by rw [e,List.take_zero])
  ·exact .inr (by rw [dlen];exact e.1)
 ·obtain ⟨i,i1,i2⟩:=mem_tk.mp hz
  obtain ⟨j,j1,j2⟩:=mem_tk.mp hy
  obtain ⟨i',a1,_,a3⟩:=mem_dt zd
  obtain ⟨j',b1,_,b3⟩:=mem_dt yd
  have e1:=nd_at nd i2 a3
  have e2:=nd_at nd j2 b3
  have:i=j:=by omega
  rw [this,j2] at i2
  exact (Option.some.inj i2).symm
 ·obtain ⟨h1,j,j1,j2⟩:=hp p hpd
  refine ⟨h1,fun z=>?_,fun z=>?_⟩
  ·obtain ⟨i,i1,i2⟩:=mem_tk.mp z
   have:=nd_at nd i2 j2
   omega
  ·obtain ⟨i,i0,i1,i2⟩:=mem_dt z
   have:=nd_at nd i2 j2
   omega
theorem joinS {N:L2.St->Hp->Prop} {G:Prop} (S:L2.St->Hp->Prop) (use:(∀ σ H,S σ H->N σ H)->G) (rest:∀ σ H,S σ H->N σ H):G:=use rest
section
variable {P:Program} {w:World} {K:PySem.W.Frag} {mg:Str->Option Value} {base:Heap}
abbrev aWb:List Str:=["_law_pot_here","_law_names_here"]
def spWb:Sp:=fun vs H Q _=>∃ (p n:Addr) (ns:List Str),vs=[.ref p,.ref n]/\Row H p/\n≠p/\H n=some (.lst (ns.map V.str))/\GoodP ns/\2<=ns.length /\
 ∀ (t lt:Addr) (ts:List Addr) (ps:List (Str × Str)) (d:Nat) (H':Hp),H lt=none->H' t=some (.tup [.ref lt,.int (d:Int)])->H' lt=some (.lst (ts.map V.ref))->TiesAt H' ts ps->InP ns ps->ps.length<=30->Due ps d->Row H' p->But p H H'->Q (.ref t) H'
abbrev nWb:List Str:=["_law_pot_here","_law_names_here","_law_many","_law_left","_law_other","_law_counts_here","_law_ties","_law_due","_law_others","_law_more","_law_loops","_law_place"]
theorem scWb:FnScope nWb aWb (defScope sWb):=⟨rfl,rfl,rfl,by decide +kernel,rfl,by decide +kernel,by decide +kernel⟩
theorem ok_wb {f fD fC fR : Addr} {fd fdD fdC fdR : FuncData} (F : Fun K "_law_web" "_law_web" sWb f fd) (D : Df K mg "_law_take" sTake ["_law_pot_here", "_law_many"] fD fdD) (DC : Df K mg "_law_counts" sCo aCo fC fdC) (DR : Df K mg "_law_ring_of" sRO aRO fR fdR) (en : mg "enumerate" = none) (T : Glb mg) : FnOk P w K mg base CX0 3 f fd aWb spWb := by
  have G : FnOk P w K mg base CX0 1 fD fdD ["_law_pot_here", "_law_many"] spDraw := ok_take D.fn T
  have GC : FnOk P w K mg base CX0 2 fC fdC aCo spCo := ok_co DC.fn D T
  have GR : FnOk P w K mg base CX0 1 fR fdR aRO spRO := ok_ro DR.fn en T
  refine F.ok scWb (fun vs H Q E h => ?_) (fun cdv A outer s H vs Q E hr h => ?_)
  · obtain ⟨p, n, ns, rfl, _⟩ := h
    rfl
  · obtain ⟨p, n, ns, rfl, hp, nnp, hn, good, n2, k⟩ := h
    have h1 := hr.mono (j := 1) (by decide)
    refine ⟨_, pss_cons (ps_set (i := 2) scWb.nd rfl (Or.inr rfl) (pe_op op_add pe_int (pe_call G h1 rfl D.mgf D.fn.kp D.b .nil pass0 (pa_cons (pv 0) (pa_cons (pe_op op_sub (pe_callB call_len_seq (by rfl) T.len PySem.boot_len (pa_cons (pv 1) pa_nil)) pe_int) pa_nil)))))
      (pss_cons (ps_set (i := 3) scWb.nd rfl (Or.inl rfl) (pe_slice sl_list (pv 1) (po_some (pe_op op_sub (pv 2) (pe_call G h1 rfl D.mgf D.fn.kp D.b .nil pass0 (pa_cons (pv 0) (pa_cons pe_int pa_nil))))) po_none))
      (pss_cons (ps_set (i := 4) scWb.nd rfl (Or.inl rfl) pe_int)
      (pss_cons (ps_if (pt_cmpR op_gt (pe_callB call_len_seq (by rfl) T.len PySem.boot_len (pa_cons (pv 3) pa_nil)) pe_int (nomark _))
        (pss_one (ps_set (i := 4) scWb.nd rfl (Or.inl rfl) (pe_ix ix_list (pe_lst (pa_cons pe_int (pa_cons (pe_op op_add pe_int (pe_call G h1 rfl D.mgf D.fn.kp D.b .nil pass0 (pa_cons (pv 0) (pa_cons (pe_op op_sub (pe_callB call_len_seq (by rfl) T.len PySem.boot_len (pa_cons (pv 3) pa_nil)) pe_int) pa_nil)))) pa_nil))) (pe_call G h1 rfl D.mgf D.fn.kp D.b .nil pass0 (pa_cons (pv 0) (pa_cons pe_int pa_nil))) (fun _ _ => rfl)))) pss_nil)
      (pss_cons (ps_set (i := 5) scWb.nd rfl (Or.inl rfl) (pe_call GC hr rfl DC.mgf DC.fn.kp DC.b .nil pass0 (pa_cons (pv 0) (pa_cons (pv 2) (pa_cons (pe_op op_sub (pe_op op_sub pe_int (pv 2)) (pv 4)) pa_nil)))))
      (pss_cons (ps_asg (pe_call GR h1 rfl DR.mgf DR.fn.kp DR.b .nil pass0 (pa_cons (pv 1) (pa_cons (pv 5) pa_nil))) (pg_tup rfl (pgs_cons (pg_name (i := 6) scWb.nd rfl (Or.inl rfl)) (pgs_cons (pg_name (i := 7) scWb.nd rfl (Or.inl rfl)) pgs_nil))))
      (pss_cons (ps_if (pt_cmpR op_gt (pv 4) pe_int (nomark _))
        (pss_cons (ps_asg (pe_call GR h1 rfl DR.mgf DR.fn.kp DR.b .nil pass0 (pa_cons (pv 3) (pa_cons (pe_call GC hr rfl DC.mgf DC.fn.kp DC.b .nil pass0 (pa_cons (pv 0) (pa_cons (pv 4) (pa_cons (pe_op op_sub (pe_op op_sub pe_int (pe_callB call_len_seq (by rfl) T.len PySem.boot_len (pa_cons (pv 6) pa_nil))) (pv 4)) pa_nil)))) pa_nil))) (pg_tup rfl (pgs_cons (pg_name (i := 8) scWb.nd rfl (Or.inl rfl)) (pgs_cons (pg_name (i := 9) scWb.nd rfl (Or.inl rfl)) pgs_nil))))
        (pss_cons (ps_set (i := 6) scWb.nd rfl (Or.inl rfl) (pe_op op_cat (pv 6) (pv 8)))
        (pss_one (ps_set (i := 7) scWb.nd rfl (Or.inl rfl) (pe_op op_add (pv 7) (pv 9)))))) pss_nil)
      (pss_cons (ps_set (i := 10) scWb.nd rfl (Or.inl rfl) (pe_call G h1 rfl D.mgf D.fn.kp D.b .nil pass0 (pa_cons (pv 0) (pa_cons (pe_op op_add pe_int (pe_callB (call_min2 rfl) (by rfl) T.min boot_min (pa_cons pe_int (pa_cons (pe_op op_sub pe_int (pe_callB call_len_seq (by rfl) T.len PySem.boot_len (pa_cons (pv 6) pa_nil))) pa_nil)))) pa_nil))))
      (pss_cons (ps_expr (pe_bm PySem.F.plainAttrs_list PySem.F.slot_list_extend PySem.F.type_list_extend mt_extend (pv 6) (pa_cons
        (pe_lc ["_law_k"] [1, 2] rfl (compSc (osc := (defScope sWb).names) (N := nWb) rfl rfl (by decide +kernel)) (gk_name (by decide)) (pi_range1 rfl T.range (pa_cons (pv 10) pa_nil))
          (fun _ _ _ => pg_name (i := 0) (show (["_law_k", "_law_names_here", "_law_many"] : List Str).Nodup by decide +kernel) rfl (Or.inl rfl)) (fun _ _ _ => pifs_nil)
          (fun _ _ _ => pe_tup (pa_cons (pe_ix (r := rIxL K) ix_list (pv 1) (pe_op op_mod (pv 0) (pv 2)) (fun _ _ => rfl)) (pa_cons (pe_ix (r := rIxL K) ix_list (pv 1) (pe_op op_mod (pv 0) (pv 2)) (fun _ _ => rfl)) pa_nil)))) pa_nil)))
      (pss_cons (ps_for PassesOwn.never rfl (pi_list (pe_slice sl_list (pv 1) (po_some (pe_op op_add (pv 2) (pv 4))) po_none)) (pg_name (i := 11) scWb.nd rfl (Or.inl rfl))
        (pss_one (ps_if (PW.pt (pw_and (pt_cmpR op_lt (pe_callB call_len_seq (by rfl) T.len PySem.boot_len (pa_cons (pv 6) pa_nil)) pe_int (nomark _)) (pw_and1 (pt_cmpR op_eq (pe_call G h1 rfl D.mgf D.fn.kp D.b .nil pass0 (pa_cons (pv 0) (pa_cons pe_int pa_nil))) pe_int (nomark _)))))
          (pss_one (ps_expr (pe_bm PySem.F.plainAttrs_list PySem.F.slot_list_append PySem.F.type_list_append mt_append (pv 6) (pa_cons (pe_tup (pa_cons (pe_ix ix_list (pv 1) (pe_call G h1 rfl D.mgf D.fn.kp D.b .nil pass0 (pa_cons (pv 0) (pa_cons (pv 2) pa_nil))) (fun _ _ => rfl)) (pa_cons (pv 11) pa_nil))) pa_nil)))) pss_nil)))
      (pss_one (ps_ret (pe_tup (pa_cons (pv 6) (pa_cons (pe_op op_add (pv 7) (pv 10)) pa_nil)))))))))))))), ?_⟩
    have big : 1000 ≤ sizeLine := by decide
    have n12 := good.few
    have nd := good.nd
    have lns : ((ns.map V.str).length : Int) = (ns.length : Nat) := by rw [List.length_map]
    refine ⟨_, rfl, _, rfl, n, _, rfl, .inl (SqL.of hn), _, _, rfl, rfl, p, _, rfl, hp, by rw [lns]; omega, by rw [lns]; omega, fun d1 H1 d10 d11 row1 b1 => ?_⟩
    rw [lns] at d11
    obtain ⟨m0, rfl⟩ := Int.eq_ofNat_of_zero_le d10
    have hn1 := b1 _ _ hn nnp
    refine ⟨_, _, rfl, rfl, ?_⟩
    have em : (2 : Int) + (m0 : Int) = ((2 + m0 : Nat) : Int) := by omega
    dsimp only
    rw [em]
    obtain ⟨m, hm⟩ : ∃ m, m = 2 + m0 := ⟨_, rfl⟩
    rw [← hm]
    have m2 : 2 ≤ m := by omega
    have ml : m ≤ ns.length := by omega
    refine ⟨_, rfl, _, rfl, _, rfl, p, 2, rfl, row1, by decide, by decide, fun d2 H2 d20 d21 row2 b2 => ?_⟩
    obtain ⟨t, rfl⟩ := Int.eq_ofNat_of_zero_le d20
    have tle : t ≤ 1 := by omega
    have hn2 := b2 _ _ hn1 nnp
    have bb2 := b1.trans b2
    refine ⟨_, _, rfl, rfl, _, rfl, n, _, rfl, SqL.of hn2, fun le nle => ?_⟩
    have emt : (m : Int) - (t : Int) = ((m - t : Nat) : Int) := by omega
    dsimp only
    rw [emt, cutN, ← List.map_drop]
    have nlp : p ≠ le := ne_of_none row2.lst.choose_spec nle
    have s3 := same_upd (o := .lst ((ns.drop (m - t)).map V.str)) nle
    have hle3 := upd_same (H := H2) (a := le) (o := .lst ((ns.drop (m - t)).map V.str))
    have row3 := row2.upd_ne (o := .lst ((ns.drop (m - t)).map V.str)) nlp
    have bb3 : But p H (upd H2 le (.lst ((ns.drop (m - t)).map V.str))) := fun c u e z => s3 c u (bb2 c u e z)
    have hn3 := s3 _ _ hn2
    generalize upd H2 le (.lst ((ns.drop (m - t)).map V.str)) = H3 at s3 hle3 row3 bb3 hn3 ⊢
    obtain ⟨L, hL⟩ : ∃ L, L = ns.drop (m - t) := ⟨_, rfl⟩
    rw [← hL] at hle3
    have Ll : L.length = ns.length - (m - t) := by rw [hL, List.length_drop]
    have lL : ((L.map V.str).length : Int) = (L.length : Nat) := by rw [List.length_map]
    have L12 : L.length ≤ 12 := by omega
    apply joinS (fun σ HH => ∃ (v5 v6 v7 v8 v9 v10 v11 : Option V) (ot : Nat), σ = [some (.ref p), some (.ref n), some (.int (m : Int)), some (.ref le), some (.int (ot : Int)), v5, v6, v7, v8, v9, v10, v11] ∧ (ot = 0 ∨ (2 ≤ ot ∧ ot ≤ L.length)) ∧ Row HH p ∧ But p H HH ∧ HH n = some (.lst (ns.map V.str)) ∧ HH le = some (.lst (L.map V.str)))
    · intro rest
      refine ⟨_, rfl, le, _, rfl, .inl (SqL.of hle3), _, _, rfl, rfl, _, rfl, ?_⟩
      rw [lL]
      refine ite2 (fun c => ?_) (fun c => ?_)
      · have c' : 1 < L.length := by have := of_decide_eq_true c; omega
        refine ⟨_, rfl, _, rfl, le, _, rfl, .inl (SqL.of hle3), _, _, rfl, rfl, p, _, rfl, row3, by rw [lL]; omega, by rw [lL]; omega, fun d3 H4 d30 d31 row4 b4 => ?_⟩
        rw [lL] at d31
        obtain ⟨o3, rfl⟩ := Int.eq_ofNat_of_zero_le d30
        have hn4 := b4 _ _ hn3 nnp
        have hle4 := b4 _ _ hle3 (Ne.symm nlp)
        refine ⟨_, _, rfl, rfl, (by show 2 ≤ sizeLine; omega), fun l1 nl1 => ?_⟩
        dsimp only
        have npl : p ≠ l1 := ne_of_none row4.lst.choose_spec nl1
        have sl1 := same_upd (o := .lst [V.int 0, V.int (2 + (o3 : Int))]) nl1
        have hl1 := upd_same (H := H4) (a := l1) (o := .lst [V.int 0, V.int (2 + (o3 : Int))])
        have row4' := row4.upd_ne (o := .lst [V.int 0, V.int (2 + (o3 : Int))]) npl
        generalize upd H4 l1 (.lst [V.int 0, V.int (2 + (o3 : Int))]) = H5 at sl1 hl1 row4' ⊢
        refine ⟨_, rfl, p, 2, rfl, row4', by decide, by decide, fun d4 H6 d40 d41 row6 b6 => ?_⟩
        have hl6 := b6 _ _ hl1 (Ne.symm npl)
        have hn6 := b6 _ _ (sl1 _ _ hn4) nnp
        have hle6 := b6 _ _ (sl1 _ _ hle4) (Ne.symm nlp)
        have bb6 : But p H H6 := fun c u e z => b6 c u (sl1 c u (b4 c u (bb3 c u e z) z)) z
        obtain ⟨ot, eo, ho⟩ : ∃ ot : Nat, atI [V.int 0, V.int (2 + (o3 : Int))] d4 = some (.int (ot : Int)) ∧ (ot = 0 ∨ (2 ≤ ot ∧ ot ≤ L.length)) := by
          have : d4 = 0 ∨ d4 = 1 := by omega
          rcases this with rfl | rfl
          · exact ⟨0, rfl, .inl rfl⟩
          · exact ⟨2 + o3, rfl, .inr ⟨by omega, by omega⟩⟩
        refine ⟨l1, _, _, _, rfl, rfl, SqL.of hl6, eo, ?_⟩
        exact rest _ _ ⟨_, _, _, _, _, _, _, ot, rfl, ho, row6, bb6, hn6, hle6⟩
      · exact rest _ _ ⟨_, _, _, _, _, _, _, 0, rfl, .inl rfl, row3, bb3, hn3, hle3⟩
    rintro σ H4 ⟨v5, v6, v7, v8, v9, v10, v11, ot, rfl, ho, row4, bb4, hn4, hle4⟩
    have ot12 : ot ≤ 12 := by rcases ho with e | e <;> omega
    have nlp' : le ≠ p := Ne.symm nlp
    have er : (30 : Int) - (m : Int) - (ot : Int) = ((30 - m - ot : Nat) : Int) := by omega
    refine ⟨_, rfl, _, rfl, _, rfl, _, _, rfl, rfl, _, rfl, _, _, rfl, rfl, p, m, 30 - m - ot, ?_, row4, by omega, by omega, fun c cs H5 nc hc cl c5 sm row5 b5 => ?_⟩
    · dsimp only
      rw [er]
      rfl
    have hn5 := b5 _ _ hn4 nnp
    have hle5 := b5 _ _ hle4 nlp'
    have bb5 := bb4.trans b5
    refine ⟨_, rfl, _, rfl, n, c, ns, cs, rfl, hn5, hc, by omega, by omega, n12, c5, fun t1 lt ts H6 nlt ntl nt1 ht1 hlt hT s6 => ?_⟩
    rw [cl] at hT
    have Hlt : H lt = none := bb5.none nlt fun e => by obtain ⟨x, y, z⟩ := row5; rw [e, z] at nlt; cases nlt
    have row6 : Row H6 p := let ⟨x, y, z⟩ := row5; ⟨x, y, s6 _ _ z⟩
    have bb6 : But p H H6 := fun c u e z => s6 c u (bb5 c u e z)
    have hn6 := s6 _ _ hn5
    have hle6 := s6 _ _ hle5
    have nlpp : lt ≠ p := fun e => by obtain ⟨x, y, z⟩ := row5; rw [e, z] at nlt; cases nlt
    refine ⟨t1, _, rfl, SqT.of ht1, rfl, _, _, rfl, _, _, rfl, rfl, ?_⟩
    have lt1 : ts.length ≤ 30 - ot := by rw [hT.len, rgF_len]; omega
    have ltI : ((ts.map V.ref).length : Int) = (ts.length : Nat) := by rw [List.length_map]
    apply joinS (fun σ HH => ∃ (v5 v8 v9 v10 v11 : Option V) (lt : Addr) (ts : List Addr) (ds : List Nat) (du : Nat), σ = [some (.ref p), some (.ref n), some (.int (m : Int)), some (.ref le), some (.int (ot : Int)), v5, some (.ref lt), some (.int (du : Int)), v8, v9, v10, v11] ∧ H lt = none ∧ lt ≠ p ∧ HH lt = some (.lst (ts.map V.ref)) ∧ TiesAt HH ts (rgF (ns.take m) cs 0 ++ rgF (L.take ot) ds 0) ∧ ts.length ≤ 30 ∧ ds.length = ot ∧ du = mulN cs + (if L.take ot = [] then 0 else mulN ds) ∧ Row HH p ∧ But p H HH ∧ HH n = some (.lst (ns.map V.str)))
    · intro rest
      refine ⟨_, rfl, _, _, rfl, rfl, _, rfl, ?_⟩
      refine ite2 (fun c => ?_) (fun c => ?_)
      · have o0 : 0 < ot := by have := of_decide_eq_true c; omega
        have ho2 := ho.resolve_left (by omega)
        have er2 : (30 : Int) - ((ts.length : Nat) : Int) - (ot : Int) = ((30 - ts.length - ot : Nat) : Int) := by omega
        refine ⟨_, rfl, _, rfl, _, rfl, _, rfl, lt, _, rfl, .inl (SqL.of hlt), _, _, rfl, rfl, _, rfl, _, _, rfl, rfl, p, ot, 30 - ts.length - ot, ?_, row6, by omega, by omega, fun c2 ds H7 nc2 hc2 dl d5 sm2 row7 b7 => ?_⟩
        · dsimp only
          rw [ltI, er2]
          rfl
        have hn7 := b7 _ _ hn6 nnp
        have hle7 := b7 _ _ hle6 nlp'
        have hlt7 := b7 _ _ hlt nlpp
        have hT7 : TiesAt H7 ts (rgF (ns.take m) cs 0) := hT.but b7 fun xs z => by obtain ⟨x, e⟩ := row6.lst; rw [e] at z; cases z
        refine ⟨le, c2, L, ds, rfl, hle7, hc2, by omega, by omega, L12, d5, fun t2 lo us H8 nlo _ nt2 ht2 hlo hU s8 => ?_⟩
        rw [dl] at hU
        refine ⟨t2, _, rfl, SqT.of ht2, rfl, _, _, rfl, _, _, rfl, rfl, ?_⟩
        have hlt8 := s8 _ _ hlt7
        have hT8 := hT7.same s8
        have lu : us.length ≤ 30 - ts.length := by rw [hU.len, rgF_len]; omega
        refine ⟨_, rfl, _, rfl, lt, lo, _, _, rfl, rfl, hlt8, hlo, (by rw [List.length_map, List.length_map]; omega), fun l3 nl3 => ?_⟩
        have s9' := same_upd (o := .lst (ts.map V.ref ++ us.map V.ref)) nl3
        have hl3 := upd_same (H := H8) (a := l3) (o := .lst (ts.map V.ref ++ us.map V.ref))
        have row8 : Row H8 p := let ⟨x, y, z⟩ := row7; ⟨x, y, s8 _ _ z⟩
        have np3 : p ≠ l3 := ne_of_none row8.lst.choose_spec nl3
        have bb8 : But p H H8 := fun c u e z => s8 c u (b7 c u (bb6 c u e z) z)
        have Hl3 : H l3 = none := bb8.none nl3 (Ne.symm np3)
        have row9 := row8.upd_ne (o := .lst (ts.map V.ref ++ us.map V.ref)) np3
        have bb9 := bb8.upd_new (o := .lst (ts.map V.ref ++ us.map V.ref)) Hl3
        have hn9 := s9' _ _ (s8 _ _ hn7)
        have hT9 := (TiesAt.app hT8 hU).same s9'
        generalize upd H8 l3 (.lst (ts.map V.ref ++ us.map V.ref)) = H9 at s9' hl3 row9 bb9 hn9 hT9 ⊢
        refine ⟨_, rfl, _, rfl, _, _, rfl, rfl, ?_⟩
        have hne : L.take ot ≠ [] := fun z => by
          have : (L.take ot).length = 0 := by rw [z]; rfl
          rw [List.length_take] at this
          omega
        have edu : ((mulN cs : Nat) : Int) + ((mulN ds : Nat) : Int) = ((mulN cs + mulN ds : Nat) : Int) := by omega
        dsimp only
        rw [edu]
        change tSeq _ _ _ _ H9
        exact rest _ _ ⟨_, _, _, _, _, l3, ts ++ us, ds, mulN cs + mulN ds, rfl, Hl3, Ne.symm np3, by rw [hl3, List.map_append], hT9, by rw [List.length_append]; omega, dl, by rw [if_neg hne], row9, bb9, hn9⟩
      · have o0 : ot = 0 := by have : ¬ (0 : Int) < (ot : Int) := by simpa using c
                               omega
        have e1 : L.take ot = [] := by rw [o0, List.take_zero]
        exact rest _ _ ⟨_, _, _, _, _, lt, ts, [], mulN cs, rfl, Hlt, nlpp, hlt, by rw [show rgF (L.take ot) [] 0 = [] from rfl, List.append_nil]; exact hT, by omega, o0.symm, by rw [if_pos e1]; rfl, row6, bb6, hn6⟩
    rintro σ H7 ⟨v5, v8, v9, v10, v11, lt, ts, ds, du, rfl, Hlt, nlt, hlt, hT, l30, dl, edu, row7, bb7, hn7⟩
    have ltI : ((ts.map V.ref).length : Int) = (ts.length : Nat) := by rw [List.length_map]
    refine ⟨_, rfl, _, rfl, lt, _, rfl, .inl (SqL.of hlt), _, _, rfl, rfl, _, _, rfl, _, _, rfl, rfl, p, _, rfl, row7, by rw [ltI]; split <;> omega, by rw [ltI]; split <;> omega, fun d5 H8 d50 d51 row8 b8 => ?_⟩
    rw [ltI] at d51
    obtain ⟨lo, rfl⟩ := Int.eq_ofNat_of_zero_le d50
    have lo3 : lo ≤ 3 ∧ lo + ts.length ≤ 30 := by split at d51 <;> omega
    have hn8 := b8 _ _ hn7 nnp
    have hlt8 := b8 _ _ hlt nlt
    have bb8 := bb7.trans b8
    have hT8 := hT.but b8 fun xs z => by obtain ⟨x, e⟩ := row7.lst; rw [e] at z; cases z
    refine ⟨_, rfl, .inl ⟨rfl, _, SqL.of hlt8⟩, _, rfl, _, rfl, by omega, by omega, ?_⟩
    have atm : ∀ i, i < m → ns[i]? = some (ns[i]?.getD "") := fun i hi => by rw [List.getElem?_eq_getElem (by omega)]; rfl
    have inP : ∀ i, i < m → ns[i]?.getD "" ∈ ns.take m := fun i hi => mem_tk.mpr ⟨i, hi, atm i hi⟩
    refine lc_range (fun j ys H9 => Same H8 H9 ∧ ∃ (us : List Addr) (lp : List (Str × Str)), ys = us.map V.ref ∧ TiesAt H9 us lp ∧ (∀ q ∈ lp, q.1 = q.2 ∧ q.1 ∈ ns.take m) ∧ lp.length = j) ⟨Same.refl _, [], [], rfl, .nil, (fun _ z => nomatch z), rfl⟩ ?_ ?_ ?_
    · rintro j ys H9 hj ⟨_, us, lp, rfl, hU, _, e⟩
      rw [List.length_map, hU.len, e]
      exact Nat.le_trans (show j ≤ 3 by omega) (by decide)
    · rintro j ys H9 R hj ⟨s9, us, lp, rfl, hU, hl, e⟩ kR
      simp only [tYes, gName, if_true]
      have hn9 := s9 _ _ hn8
      have ej : ((0 : Int) + (j : Int)) % (m : Int) = ((j % m : Nat) : Int) := by rw [Int.zero_add, Int.natCast_emod]
      have jm : j % m < m := Nat.mod_lt _ (by omega)
      have ea : atI (ns.map V.str) ((j % m : Nat) : Int) = some (.str (ns[j % m]?.getD "")) := atI_nat (by rw [List.getElem?_map, atm _ jm]; rfl)
      refine ⟨_, rfl, _, rfl, _, rfl, _, _, rfl, rfl, (by omega), ?_⟩
      dsimp only
      rw [ej]
      refine ⟨n, _, _, _, rfl, rfl, SqL.of hn9, ea, _, rfl, _, rfl, _, rfl, _, _, rfl, rfl, (by omega), ?_⟩
      dsimp only
      rw [ej]
      refine ⟨n, _, _, _, rfl, rfl, SqL.of hn9, ea, (by show 2 ≤ sizeLine; omega), fun u nu => kR _ _ ⟨s9.trans (same_upd nu), us ++ [u], lp ++ [(ns[j % m]?.getD "", ns[j % m]?.getD "")], by simp, TiesAt.snoc (hU.same (same_upd nu)) upd_same, fun q hq => ?_, by simp [e]⟩⟩
      rcases List.mem_append.mp hq with z | z
      · exact hl q z
      · rw [List.mem_singleton.mp z]; exact ⟨rfl, inP _ jm⟩
    rintro ys H9 ⟨s9, us, lp, rfl, hU, hl, elp⟩ q2 nq2
    rw [Int.toNat_natCast] at elp
    have sq := same_upd (o := .lst (us.map V.ref)) nq2
    have hq2 := upd_same (H := H9) (a := q2) (o := .lst (us.map V.ref))
    have hlt10 := sq _ _ (s9 _ _ hlt8)
    have hn10 := sq _ _ (s9 _ _ hn8)
    have s810 := s9.trans sq
    have hT10 := (TiesAt.app (hT8.same s9) hU).same sq
    generalize upd H9 q2 (.lst (us.map V.ref)) = H10 at sq hq2 hlt10 hn10 s810 hT10 ⊢
    have row10 : Row H10 p := let ⟨x, y, z⟩ := row8; ⟨x, y, s810 _ _ z⟩
    have bb10 : But p H H10 := fun c u e z => s810 c u (bb8 c u e z)
    have lus : us.length = lo := by rw [hU.len, elp]
    refine ⟨lt, q2, _, _, rfl, rfl, hlt10, hq2, (by rw [List.length_map, List.length_map, lus]; omega), ?_⟩
    have row11 := row10.upd_ne (o := .lst (ts.map V.ref ++ us.map V.ref)) (Ne.symm nlt)
    have bb11 := bb10.upd_new (o := .lst (ts.map V.ref ++ us.map V.ref)) Hlt
    have hlt11 : upd H10 lt (.lst (ts.map V.ref ++ us.map V.ref)) lt = some (.lst ((ts ++ us).map V.ref)) := by rw [upd_same, List.map_append]
    have hT11 : TiesAt (upd H10 lt (.lst (ts.map V.ref ++ us.map V.ref))) (ts ++ us) ((rgF (ns.take m) cs 0 ++ rgF (L.take ot) ds 0) ++ lp) := hT10.mono fun u xs e => by rw [L2.upd_ne (ne_of e hlt10 (by intro z; cases z))]; exact e
    have nnl : n ≠ lt := fun e => by rw [e] at hn; rw [Hlt] at hn; cases hn
    have hn11 : upd H10 lt (.lst (ts.map V.ref ++ us.map V.ref)) n = some (.lst (ns.map V.str)) := by rw [L2.upd_ne nnl]; exact hn10
    generalize upd H10 lt (.lst (ts.map V.ref ++ us.map V.ref)) = H11 at row11 bb11 hlt11 hT11 hn11 ⊢
    refine ⟨_, rfl, _, rfl, _, rfl, _, _, rfl, rfl, _, rfl, n, _, rfl, SqL.of hn11, fun sl nsl => ?_⟩
    have emo : (m : Int) + (ot : Int) = ((m + ot : Nat) : Int) := by omega
    have ecut : cutV (ns.map V.str) (some ((m : Int) + (ot : Int))) none = (ns.drop (m + ot)).map V.str := by rw [emo, cutN, List.map_drop]
    rw [ecut]
    have s12 := same_upd (o := .lst ((ns.drop (m + ot)).map V.str)) nsl
    have hsl := upd_same (H := H11) (a := sl) (o := .lst ((ns.drop (m + ot)).map V.str))
    have npsl : p ≠ sl := ne_of_none row11.lst.choose_spec nsl
    have nlsl : lt ≠ sl := ne_of_none hlt11 nsl
    have row12 := row11.upd_ne (o := .lst ((ns.drop (m + ot)).map V.str)) npsl
    have Hsl : H sl = none := bb11.none nsl (Ne.symm npsl)
    have bb12 := bb11.upd_new (o := .lst ((ns.drop (m + ot)).map V.str)) Hsl
    have hlt12 := s12 _ _ hlt11
    have hn12 := s12 _ _ hn11
    have hT12 := hT11.same s12
    generalize upd H11 sl (.lst ((ns.drop (m + ot)).map V.str)) = H12 at s12 hsl row12 bb12 hlt12 hn12 hT12 ⊢
    refine ⟨sl, rfl, ⟨_, SqL.of hsl⟩, for_list (K := K) (xs := (ns.drop (m + ot)).map V.str) (fun i σ HH => ∃ (v5 v8 v9 v11 : Option V) (rs : List Addr) (pd : List (Str × Str)), σ = [some (.ref p), some (.ref n), some (.int (m : Int)), some (.ref le), some (.int (ot : Int)), v5, some (.ref lt), some (.int (du : Int)), v8, v9, some (.int (lo : Int)), v11] ∧ HH lt = some (.lst (rs.map V.ref)) ∧ TiesAt HH rs (((rgF (ns.take m) cs 0 ++ rgF (L.take ot) ds 0) ++ lp) ++ pd) ∧ rs.length ≤ 30 ∧ (∀ q ∈ pd, q.1 ∈ ns.take m ∧ ∃ j, m + ot ≤ j ∧ ns[j]? = some q.2) ∧ Row HH p ∧ But p H HH ∧ HH n = some (.lst (ns.map V.str)) ∧ HH sl = some (.lst ((ns.drop (m + ot)).map V.str)))
      ⟨_, _, _, _, ts ++ us, [], rfl, hlt12, by rw [List.append_nil]; exact hT12, by rw [List.length_append]; omega, (fun _ z => nomatch z), row12, bb12, hn12, hsl⟩ ?_ ?_ ?_⟩
    · rintro i σ HH _ ⟨_, _, _, _, _, _, rfl, _, _, _, _, _, _, _, h⟩
      exact SqL.of h
    · rintro i y σ HH hy ⟨w5, w8, w9, w11, rs, pd, rfl, hlt13, hT13, r30, hpd, row13, bb13, hn13, hsl13⟩
      rw [List.getElem?_map] at hy
      obtain ⟨z, ez, rfl⟩ := Option.map_eq_some_iff.mp hy
      rw [List.getElem?_drop] at ez
      have rI' : ((rs.map V.ref).length : Int) = (rs.length : Nat) := by rw [List.length_map]
      have keep : ∀ {HH' : Hp}, Row HH' p → But p HH HH' → ∃ (v5 v8 v9 v11 : Option V) (rs : List Addr) (pd : List (Str × Str)), ([some (.ref p), some (.ref n), some (.int (m : Int)), some (.ref le), some (.int (ot : Int)), w5, some (.ref lt), some (.int (du : Int)), w8, w9, some (.int (lo : Int)), some (.str z)] : L2.St) = [some (.ref p), some (.ref n), some (.int (m : Int)), some (.ref le), some (.int (ot : Int)), v5, some (.ref lt), some (.int (du : Int)), v8, v9, some (.int (lo : Int)), v11] ∧ HH' lt = some (.lst (rs.map V.ref)) ∧ TiesAt HH' rs (((rgF (ns.take m) cs 0 ++ rgF (L.take ot) ds 0) ++ lp) ++ pd) ∧ rs.length ≤ 30 ∧ (∀ q ∈ pd, q.1 ∈ ns.take m ∧ ∃ j, m + ot ≤ j ∧ ns[j]? = some q.2) ∧ Row HH' p ∧ But p H HH' ∧ HH' n = some (.lst (ns.map V.str)) ∧ HH' sl = some (.lst ((ns.drop (m + ot)).map V.str)) := fun rw' b' =>
        ⟨_, _, _, _, rs, pd, rfl, b' _ _ hlt13 nlt, hT13.but b' (fun xs z => by obtain ⟨x, e⟩ := row13.lst; rw [e] at z; cases z), r30, hpd, rw', bb13.trans b', b' _ _ hn13 nnp, b' _ _ hsl13 (Ne.symm npsl)⟩
      refine ⟨_, rfl, lt, _, rfl, .inl (SqL.of hlt13), _, _, rfl, rfl, _, rfl, ?_⟩
      rw [rI']
      refine ite2 (fun c1 => ?_) (fun _ => iteF (keep row13 (But.refl _ _)))
      have r29 : rs.length < 30 := by have := of_decide_eq_true c1; omega
      refine ⟨_, rfl, p, 2, rfl, row13, by decide, by decide, fun d6 H14 d60 d61 row14 b14 => ⟨rfl, _, rfl, ?_⟩⟩
      refine ite2 (fun c2 => ?_) (fun _ => keep row14 b14)
      have hlt14 := b14 _ _ hlt13 nlt
      refine ⟨_, rfl, .inl ⟨rfl, _, SqL.of hlt14⟩, _, rfl, _, rfl, _, rfl, p, m, rfl, row14, by omega, by omega, fun d7 H15 d70 d71 row15 b15 => ?_⟩
      obtain ⟨i7, rfl⟩ := Int.eq_ofNat_of_zero_le d70
      have i7m : i7 < m := by omega
      have bb1315 := b14.trans b15
      have hn15 := bb1315 _ _ hn13 nnp
      have hlt15 := bb1315 _ _ hlt13 nlt
      have hsl15 := bb1315 _ _ hsl13 (Ne.symm npsl)
      have hT15 := hT13.but bb1315 fun xs z => by obtain ⟨x, e⟩ := row13.lst; rw [e] at z; cases z
      have ea : atI (ns.map V.str) (i7 : Int) = some (.str (ns[i7]?.getD "")) := atI_nat (by rw [List.getElem?_map, atm _ i7m]; rfl)
      refine ⟨n, _, _, _, rfl, rfl, SqL.of hn15, ea, _, rfl, (by show 2 ≤ sizeLine; omega), fun u nu => ?_⟩
      have su := same_upd (o := .tup [V.str (ns[i7]?.getD ""), V.str z]) nu
      have hu := upd_same (H := H15) (a := u) (o := .tup [V.str (ns[i7]?.getD ""), V.str z])
      have hlt16 := su _ _ hlt15
      have hn16 := su _ _ hn15
      have hsl16 := su _ _ hsl15
      have hT16 := TiesAt.snoc (p := (ns[i7]?.getD "", z)) (hT15.same su) hu
      have row16 : Row (upd H15 u (.tup [V.str (ns[i7]?.getD ""), V.str z])) p := let ⟨x, y, zz⟩ := row15; ⟨x, y, su _ _ zz⟩
      have bb16 : But p H (upd H15 u (.tup [V.str (ns[i7]?.getD ""), V.str z])) := fun c v e zz => su c v (bb1315 c v (bb13 c v e zz) zz)
      generalize upd H15 u (.tup [V.str (ns[i7]?.getD ""), V.str z]) = H16 at su hu hlt16 hn16 hsl16 hT16 row16 bb16 ⊢
      refine ⟨lt, _, _, rfl, rfl, hlt16, (by rw [List.length_map]; omega), ?_⟩
      refine ⟨_, _, _, _, rs ++ [u], pd ++ [(ns[i7]?.getD "", z)], rfl, by rw [upd_same]; simp, ?_, by rw [List.length_append]; simp; omega, fun q hq => ?_, row16.upd_ne (Ne.symm nlt), bb16.upd_new Hlt, by rw [L2.upd_ne nnl]; exact hn16, by rw [L2.upd_ne (Ne.symm nlsl)]; exact hsl16⟩
      · rw [← List.append_assoc]
        exact hT16.mono fun v xs e => by rw [L2.upd_ne (ne_of e hlt16 (by intro z; cases z))]; exact e
      · rcases List.mem_append.mp hq with y | y
        · exact hpd q y
        · rw [List.mem_singleton.mp y]; exact ⟨inP _ i7m, m + ot + i, by omega, ez⟩
    · rintro σ HH ⟨w5, w8, w9, w11, rs, pd, rfl, hlt13, hT13, r30, hpd, row13, bb13, hn13, hsl13⟩
      have Md : Mde (ns.take m) (L.take ot) cs ds lp pd := by rw [hL]; exact mde_of nd m2 ml tle (by rw [← hL]; exact ho) cl dl hl hpd
      have ps : ((rgF (ns.take m) cs 0 ++ rgF (L.take ot) ds 0) ++ lp) ++ pd = madeT (ns.take m) (L.take ot) cs ds lp pd := by unfold madeT; simp [List.append_assoc]
      rw [ps] at hT13
      have ed : (du : Int) + (lo : Int) = ((dueM (L.take ot) cs ds lp : Nat) : Int) := by unfold dueM; rw [elp, edu]; omega
      refine ⟨_, rfl, _, rfl, _, rfl, _, _, rfl, rfl, (by show 2 ≤ sizeLine; omega), fun tt ntt => ?_⟩
      dsimp only
      rw [ed]
      have st := same_upd (o := .tup [V.ref lt, V.int ((dueM (L.take ot) cs ds lp : Nat) : Int)]) ntt
      have npt : p ≠ tt := ne_of_none row13.lst.choose_spec ntt
      have Htt : H tt = none := bb13.none ntt (Ne.symm npt)
      have Lsub : ∀ x ∈ L.take ot, x ∈ ns := fun x hx => by rw [hL] at hx; exact List.mem_of_mem_drop (List.mem_of_mem_take hx)
      have Psub : ∀ x ∈ ns.take m, x ∈ ns := fun x hx => List.mem_of_mem_take hx
      have inn : InP ns (madeT (ns.take m) (L.take ot) cs ds lp pd) := fun q hq => by
        have pne : ns.take m ≠ [] := fun z => by have := Md.p2; rw [z] at this; simp at this
        rcases List.mem_append.mp hq with y | y
        · obtain ⟨j, rfl⟩ := rgF_mem y; exact ⟨Psub _ (pS_mem pne _), Psub _ (pS_mem pne _)⟩
        · rcases List.mem_append.mp y with y | y
          · have dne : L.take ot ≠ [] := fun z => by
              have := Md.dl
              rw [z] at this
              rw [List.length_eq_zero_iff.mp this] at y
              cases y
            obtain ⟨j, rfl⟩ := rgF_mem y; exact ⟨Lsub _ (pS_mem dne _), Lsub _ (pS_mem dne _)⟩
          · rcases List.mem_append.mp y with y | y
            · have := hl q y; exact ⟨Psub _ this.2, by rw [← this.1]; exact Psub _ this.2⟩
            · obtain ⟨g1, j, _, g2⟩ := hpd q y; exact ⟨Psub _ g1, List.mem_of_getElem? g2⟩
      exact k tt lt rs _ _ _ Hlt upd_same (st _ _ hlt13) (hT13.same st) inn (by rw [← hT13.len]; exact r30) Md.due (row13.upd_ne npt) (bb13.upd_new Htt)
end
abbrev sGr:Stmt:=top 36 -- _law_great
def Cnt (qs:List (Str × Str)) (d:Nat):Prop:=∃ P D,Two (aT qs) (bT qs) qs.length P D/\(all2 (aT qs) (bT qs) qs.length P D).length=d
section
variable {P:Program} {w:World} {K:PySem.W.Frag} {mg:Str->Option Value} {base:Heap}
abbrev aGr:List Str:=["_law_pot_here","_law_loops"]
def spGr:Sp:=fun vs H Q _=>∃ (p:Addr) (lo:Nat),vs=[.ref p,.int (lo:Int)]/\Row H p/\lo<=2 /\
 ∀ (t n c:Addr) (ns:List Str) (us:List Addr) (qs:List (Str × Str)) (d:Nat) (H':Hp),H' t=some (.tup [.ref n,.ref c,.int (d:Int)])->Lists H' n c ns qs us->Cnt qs d->Q (.ref t) H'
abbrev nGr:List Str:=["_law_pot_here","_law_loops","_law_names_here","_law_ties","_law_due","_law_others","_law_more"]
theorem scGr:FnScope nGr aGr (defScope sGr):=⟨rfl,rfl,rfl,by decide +kernel,rfl,by decide +kernel,by decide +kernel⟩
theorem ok_gr {f fD fN fR fM:Addr} {fd fdD fdN fdR fdM:FuncData} (F:Fun K "_law_great" "_law_great" sGr f fd) (D:Df K mg "_law_take" sTake ["_law_pot_here","_law_many"] fD fdD) (DN:Df K mg "_law_names" sNames ["_law_pot_here","_law_many"] fN fdN) (DR:Df K mg "_law_ring_of" sRO aRO fR fdR) (DM:Df K mg "_law_mixed" sMx aMx fM fdM) (en:mg "enumerate" = none) (T:Glb mg):FnOk P w K mg base CX0 3 f fd aGr spGr:=by
 have GN:FnOk P w K mg base CX0 2 fN fdN ["_law_pot_here","_law_many"] spNames:=ok_names DN.fn D T
 have GR:FnOk P w K mg base CX0 1 fR fdR aRO spRO:=ok_ro DR.fn en T
 have GM:FnOk P w K mg base CX0 2 fM fdM aMx spMx:=ok_mx DM.fn D T
 refine F.ok scGr (fun vs H Q E h=>?_) (fun cdv A outer s H vs Q E hr h=>?_)
 ·obtain ⟨p,lo,rfl,_⟩:=h
  rfl
 ·obtain ⟨p,lo,rfl,hp,lo2,k⟩:=h
  have h1:=hr.mono (j:=1) (by decide)
  refine ⟨_,pss_cons (ps_set (i:=2) scGr.nd rfl (Or.inr rfl) (pe_call GN hr rfl DN.mgf DN.fn.kp DN.b .nil pass0 (pa_cons (pv 0) (pa_cons pe_int pa_nil))))
   (pss_cons (ps_asg (pe_call GR h1 rfl DR.mgf DR.fn.kp DR.b .nil pass0 (pa_cons (pv 2) (pa_cons (pe_lst (pa_cons pe_int (pa_cons pe_int (pa_cons pe_int (pa_cons pe_int (pa_cons pe_int (pa_cons pe_int pa_nil))))))) pa_nil))) (pg_tup rfl (pgs_cons (pg_name (i:=3) scGr.nd rfl (Or.inl rfl)) (pgs_cons (pg_name (i:=4) scGr.nd rfl (Or.inl rfl)) pgs_nil))))
   (pss_cons (ps_asg (pe_call GR h1 rfl DR.mgf DR.fn.kp DR.b .nil pass0 (pa_cons (pe_slice sl_list (pv 2) (po_some pe_int) po_none) (pa_cons (pe_lst (pa_cons pe_int (pa_cons pe_int (pa_cons pe_int pa_nil)))) pa_nil))) (pg_tup rfl (pgs_cons (pg_name (i:=5) scGr.nd rfl (Or.inl rfl)) (pgs_cons (pg_name (i:=6) scGr.nd rfl (Or.inl rfl)) pgs_nil))))
   (pss_cons (ps_set (i:=3) scGr.nd rfl (Or.inl rfl) (pe_op op_cat (pe_op op_cat (pv 3) (pv 5))
    (pe_lc ["_law_k"] [2] rfl (compSc (osc:=(defScope sGr).names) (N:=nGr) rfl rfl (by decide +kernel)) (gk_name (by decide)) (pi_range1 rfl T.range (pa_cons (pv 1) pa_nil))
     (fun _ _ _=>pg_name (i:=0) (show (["_law_k","_law_names_here"]:List Str).Nodup by decide +kernel) rfl (Or.inl rfl)) (fun _ _ _=>pifs_nil)
     (fun _ _ _=>pe_tup (pa_cons (pe_ix (r:=rIxL K) ix_list (pv 1) (pv 0) (fun _ _=>rfl)) (pa_cons (pe_ix (r:=rIxL K) ix_list (pv 1) (pv 0) (fun _ _=>rfl)) pa_nil))))))
   (pss_one (ps_ret (pe_tup (pa_cons (pv 2) (pa_cons (pe_call GM hr rfl DM.mgf DM.fn.kp DM.b .nil pass0 (pa_cons (pv 0) (pa_cons (pv 3) pa_nil))) (pa_cons (pe_op op_add (pe_op op_add (pv 4) (pv 6)) (pv 1)) pa_nil))))))))),?_⟩
  have big:1000<=sizeLine:=by decide
  refine ⟨_,rfl,p,9,rfl,by decide,by decide,hp,fun n ns H1 good l9 nn hn row1 b1=>?_⟩
  have l9':ns.length=9:=by omega
  have nnp:n≠p:=fun e=>by rw [e] at nn;obtain ⟨x,y,z⟩:=hp;rw [z] at nn;cases nn
  refine ⟨_,rfl,(by show 6<=sizeLine;omega),fun c1 nc1=>?_⟩
  have sc:=same_upd (o:=.lst [V.int 3,V.int 3,V.int 4,V.int 3,V.int 3,V.int 3]) nc1
  have hc1:upd H1 c1 (.lst [V.int 3,V.int 3,V.int 4,V.int 3,V.int 3,V.int 3]) c1=some (.lst (vN [3,3,4,3,3,3])):=by rw [upd_same];rfl
  generalize upd H1 c1 (.lst [V.int 3,V.int 3,V.int 4,V.int 3,V.int 3,V.int 3])=H2 at sc hc1 ⊢
  refine ⟨n,c1,ns,[3,3,4,3,3,3],rfl,sc _ _ hn,hc1,by decide,by rw [l9'];decide,by omega,by decide,fun t1 lt ts H3 nlt _ nt1 ht1 hlt hT s3=>?_⟩
  refine ⟨t1,_,rfl,SqT.of ht1,rfl,_,_,rfl,_,_,rfl,rfl,?_⟩
  have hn3:=s3 _ _ (sc _ _ hn)
  refine ⟨_,rfl,_,rfl,n,_,rfl,SqL.of hn3,fun le nle=>?_⟩
  have e6:cutV (ns.map V.str) (some 6) none=(ns.drop 6).map V.str:=by
   have:=cutN (xs:=ns.map V.str) 6
   rw [List.map_drop]
   exact this
  rw [e6]
  have sl:=same_upd (o:=.lst ((ns.drop 6).map V.str)) nle
  have hle:=upd_same (H:=H3) (a:=le) (o:=.lst ((ns.drop 6).map V.str))
  generalize upd H3 le (.lst ((ns.drop 6).map V.str))=H4 at sl hle ⊢
  refine ⟨(by show 3<=sizeLine;omega),fun c2 nc2=>?_⟩
  have sc2:=same_upd (o:=.lst [V.int 3,V.int 3,V.int 3]) nc2
  have hc2:upd H4 c2 (.lst [V.int 3,V.int 3,V.int 3]) c2=some (.lst (vN [3,3,3])):=by rw [upd_same];rfl
  generalize upd H4 c2 (.lst [V.int 3,V.int 3,V.int 3])=H5 at sc2 hc2 ⊢
  have dl:(ns.drop 6).length=3:=by rw [List.length_drop];omega
  refine ⟨le,c2,ns.drop 6,[3,3,3],rfl,sc2 _ _ hle,hc2,by decide,by rw [dl];decide,by omega,by decide,fun t2 lo2' us H6 nlo _ nt2 ht2 hlo hU s6=>?_⟩
  refine ⟨t2,_,rfl,SqT.of ht2,rfl,_,_,rfl,_,_,rfl,rfl,?_⟩
  have s36:Same H3 H6:=sl.trans (sc2.trans s6)
  have hlt6:=s36 _ _ hlt
  have hT6:=hT.same s36
  have hn6:=s36 _ _ hn3
  have lts:ts.length=19:=by rw [hT.len,rgF_len];rfl
  have lus:us.length=9:=by rw [hU.len,rgF_len];rfl
  refine ⟨_,rfl,_,rfl,lt,lo2',_,_,rfl,rfl,hlt6,hlo,(by rw [List.length_map,List.length_map];omega),fun l3 nl3=>?_⟩
  have s7:=same_upd (o:=.lst (ts.map V.ref++us.map V.ref)) nl3
  have hl3:=upd_same (H:=H6) (a:=l3) (o:=.lst (ts.map V.ref++us.map V.ref))
  have hT7:=(TiesAt.app hT6 hU).same s7
  have hn7:=s7 _ _ hn6
  generalize upd H6 l3 (.lst (ts.map V.ref++us.map V.ref))=H7 at s7 hl3 hT7 hn7 ⊢
  refine ⟨_,rfl,_,rfl,by omega,by omega,?_⟩
  have at6:∀ i:Nat,i < 6->ns[i]?=some (ns[i]?.getD ("" : Str)):=fun i hi=>by rw [List.getElem?_eq_getElem (by omega)];rfl
  refine lc_range (fun j ys H9=>Same H7 H9/\∃ (us:List Addr) (lp:List (Str × Str)),ys=us.map V.ref/\TiesAt H9 us lp/\(∀ q∈lp,q.1=q.2/\q.1∈ns.take 6)/\lp.length=j) ⟨Same.refl _,[],[],rfl,.nil,(fun _ z=>nomatch z),rfl⟩ ?_ ?_ ?_
  ·rintro j ys H9 hj ⟨_,us,lp,rfl,hU,_,e⟩
   rw [List.length_map,hU.len,e]
   exact Nat.le_trans (show j<=3 by omega) (by decide)
  ·rintro j ys H9 R hj ⟨s9,us,lp,rfl,hU,hl,e⟩ kR
   simp only [tYes,gName,if_true]
   have hn9:=s9 _ _ hn7
   have j6:j < 6:=by omega
   have ea:atI (ns.map V.str) ((0:Int)+(j:Int))=some (.str (ns[j]?.getD "")):=by rw [Int.zero_add];exact atI_nat (by rw [List.getElem?_map,at6 _ j6];rfl)
   refine ⟨_,rfl,_,rfl,n,_,_,_,rfl,rfl,SqL.of hn9,ea,_,rfl,_,rfl,n,_,_,_,rfl,rfl,SqL.of hn9,ea,(by show 2<=sizeLine;omega),fun u nu=>kR _ _ ⟨s9.trans (same_upd nu),us++[u],lp++[(ns[j]?.getD "",ns[j]?.getD "")],by simp,TiesAt.snoc (hU.same (same_upd nu)) upd_same,fun q hq=>?_,by simp [e]⟩⟩
   rcases List.mem_append.mp hq with z | z
   ·exact hl q z
   ·rw [List.mem_singleton.mp z];exact ⟨rfl,mem_tk.mpr ⟨j,j6,at6 j j6⟩⟩
  rintro ys H9 ⟨s9,vs,lp,rfl,hV,hl,elp⟩ q2 nq2
  rw [Int.toNat_natCast] at elp
  have sq:=same_upd (o:=.lst (vs.map V.ref)) nq2
  have hq2:=upd_same (H:=H9) (a:=q2) (o:=.lst (vs.map V.ref))
  have s79:=s9.trans sq
  have hl3':=s79 _ _ hl3
  have hT9:=(TiesAt.app (hT7.same s9) hV).same sq
  have hn9:=s79 _ _ hn7
  generalize upd H9 q2 (.lst (vs.map V.ref))=H10 at sq hq2 s79 hl3' hT9 hn9 ⊢
  have lvs:vs.length=lo:=by rw [hV.len,elp]
  refine ⟨l3,q2,_,_,rfl,rfl,hl3',hq2,(by rw [List.length_append,List.length_map,List.length_map,List.length_map];omega),fun l4 nl4=>?_⟩
  have s11:=same_upd (o:=.lst (ts.map V.ref++us.map V.ref++vs.map V.ref)) nl4
  have hl4:upd H10 l4 (.lst (ts.map V.ref++us.map V.ref++vs.map V.ref)) l4=some (.lst ((ts++us++vs).map V.ref)):=by rw [upd_same,List.map_append,List.map_append]
  have hT11:=hT9.same s11
  have hn11:=s11 _ _ hn9
  generalize upd H10 l4 (.lst (ts.map V.ref++us.map V.ref++vs.map V.ref))=H11 at s11 hl4 hT11 hn11 ⊢
  have s111:Same H1 H11:=sc.trans (s3.trans (s36.trans (s7.trans (s79.trans s11))))
  have row11:Row H11 p:=let ⟨x,y,z⟩:=row1;⟨x,y,s111 _ _ z⟩
  have Md:Mde (ns.take 6) ((ns.drop (6 - 0)).take 3) [3,3,4,3,3,3] [3,3,3] lp []:=mde_of (m:=6) (t:=0) (ot:=3) (cs:=[3,3,4,3,3,3]) (ds:=[3,3,3]) (lp:=lp) (pd:=[]) good.nd (by decide) (by omega) (by decide) (.inr ⟨by decide,by rw [Nat.sub_zero,dl];decide⟩) rfl rfl hl (fun _ z=>nomatch z)
  have eps:rgF (ns.take [3,3,4,3,3,3].length) [3,3,4,3,3,3] 0++rgF ((ns.drop 6).take [3,3,3].length) [3,3,3] 0++lp=madeT (ns.take 6) ((ns.drop (6 - 0)).take 3) [3,3,4,3,3,3] [3,3,3] lp []:=by
   unfold madeT
   rw [List.append_nil,List.append_assoc]
   rfl
  rw [eps] at hT11
  have l3p:(madeT (ns.take 6) ((ns.drop (6 - 0)).take 3) [3,3,4,3,3,3] [3,3,3] lp []).length<=30:=by
   rw [<- hT11.len,List.length_append,List.length_append];omega
  have nl4p:l4≠p:=fun e=>by obtain ⟨x,y,z⟩:=row1;rw [e] at nl4;have:=(sc.trans (s3.trans (s36.trans (s7.trans s79)))) _ _ z;rw [this] at nl4;cases nl4
  refine ⟨_,rfl,_,rfl,_,rfl,p,l4,_,_,rfl,row11,nl4p,hl4,hT11,l3p,fun c us2 qs H12 nc hc hQ pm row12 b12=>?_⟩
  have hn12:=b12 _ _ hn11 nnp
  refine ⟨_,rfl,_,rfl,_,_,rfl,rfl,_,rfl,_,_,rfl,rfl,(by show 3<=sizeLine;omega),fun tt ntt=>?_⟩
  have ed:((mulN [3,3,4,3,3,3]:Nat):Int)+((mulN [3,3,3]:Nat):Int)+(lo:Int)=((dueM ((ns.drop (6 - 0)).take 3) [3,3,4,3,3,3] [3,3,3] lp:Nat):Int):=by
   have hne:(ns.drop (6 - 0)).take 3≠[]:=fun z=>by
    have:((ns.drop (6 - 0)).take 3).length=0:=by rw [z];rfl
    rw [List.length_take,Nat.sub_zero,dl] at this
    cases this
   unfold dueM
   rw [if_neg hne,elp]
   omega
  dsimp only
  rw [ed]
  have st:=same_upd (o:=.tup [V.ref n,V.ref c,V.int ((dueM ((ns.drop (6 - 0)).take 3) [3,3,4,3,3,3] [3,3,3] lp:Nat):Int)]) ntt
  have inn:InP ns qs:=fun q hq=>by
   have Psub:∀ x∈ns.take 6,x∈ns:=fun x hx=>List.mem_of_mem_take hx
   have Dsub:∀ x∈(ns.drop (6 - 0)).take 3,x∈ns:=fun x hx=>List.mem_of_mem_drop (List.mem_of_mem_take hx)
   have pne:ns.take 6≠[]:=fun z=>by have:=Md.p2;rw [z] at this;simp at this
   rcases List.mem_append.mp (pm.mem_iff.mp hq) with y | y
   ·obtain ⟨j,rfl⟩:=rgF_mem y;exact ⟨Psub _ (pS_mem pne _),Psub _ (pS_mem pne _)⟩
   ·rcases List.mem_append.mp y with y | y
    ·have dne:(ns.drop (6 - 0)).take 3≠[]:=fun z=>by
      have:=Md.dl
      rw [z] at this
      cases this
     obtain ⟨j,rfl⟩:=rgF_mem y;exact ⟨Dsub _ (pS_mem dne _),Dsub _ (pS_mem dne _)⟩
    ·rw [List.append_nil] at y
     have:=hl q y;exact ⟨Psub _ this.2,by rw [<- this.1];exact Psub _ this.2⟩
  exact k tt n c ns us2 qs _ _ upd_same ⟨st _ _ hn12,st _ _ hc,hQ.same st,good,inn,by rw [pm.length_eq];exact l3p⟩ (Md.due qs pm)
end
abbrev sAR:Stmt:=top 26 -- add_rings_from
def B2 (p q:Addr) (H H':Hp):Prop:=∀ c u,H c=some u->c≠p->c≠q->H' c=some u
theorem B2.refl (p q:Addr) (H:Hp):B2 p q H H:=fun _ _ h _ _=>h
theorem B2.trans {p q:Addr} {H H1 H2:Hp} (a:B2 p q H H1) (b:B2 p q H1 H2):B2 p q H H2:=fun c u e n m=>b c u (a c u e n m) n m
theorem B2.same {p q:Addr} {H H1:Hp} (s:Same H H1):B2 p q H H1:=fun c u e _ _=>s c u e
theorem B2.up1 (p q:Addr) (H:Hp) (o:HO):B2 p q H (upd H p o):=fun c u e n _=>by rw [L2.upd_ne n];exact e
theorem B2.up2 (p q:Addr) (H:Hp) (o:HO):B2 p q H (upd H q o):=fun c u e _ n=>by rw [L2.upd_ne n];exact e
theorem B2.keep {p q:Addr} {H H':Hp} {xs ys:List V} (b:B2 p q H H') (hp:H p=some (.lst xs)) (hq:H q=some (.lst ys)) {c:Addr} {u:HO} (h:H c=some u) (nl:∀ l,u≠.lst l):H' c=some u :=
 b c u h (ne_of h hp (nl _)) (ne_of h hq (nl _))
theorem B2.hold {p q:Addr} {H H':Hp} {xs ys:List V} (b:B2 p q H H') (hp:H p=some (.lst xs)) (hq:H q=some (.lst ys)) {qs:List (Addr × List Int)} (h:HoldI H qs):HoldI H' qs :=
 fun x hx=>b.keep hp hq (h x hx) fun _ z=>nomatch z
theorem B2.ties {p q:Addr} {H H':Hp} {xs ys:List V} (b:B2 p q H H') (hp:H p=some (.lst xs)) (hq:H q=some (.lst ys)) {ts:List Addr} {ps:List (Str × Str)} (h:TiesAt H ts ps):TiesAt H' ts ps :=
 h.mono fun t xs e=>b.keep hp hq e fun _ z=>nomatch z
theorem B2.web {p q:Addr} {H H':Hp} {xs ys:List V} (b:B2 p q H H') (hp:H p=some (.lst xs)) (hq:H q=some (.lst ys)) {C x:Addr} {ns:List Str} {ps:List (Str × Str)} (h:WebObj C H x ns ps):WebObj C H' x ns ps :=
 let ⟨dx,kp,kt,ts,h1,h2,h3,h4⟩:=h
 ⟨dx,kp,kt,ts,b.keep hp hq h1 (fun _ z=>nomatch z),b.keep hp hq h2 (fun _ z=>nomatch z),b.keep hp hq h3 (fun _ z=>nomatch z),b.ties hp hq h4⟩
def nI (l:List Nat):List Int:=l.map (fun k:Nat=>(k:Int))
def rI (nt:Nat) (c:List Nat):List Int:=nI (rise nt c)
theorem rI_of {nt:Nat} {c:List Nat} (hc:∀ k∈c,k < nt) (nd:c.Nodup) {ms:List Int} (p:ms.Perm (nI c)) (s:ms.Pairwise (·<=·)):ms=rI nt c:=by
 have p2:ms.Perm (rI nt c):=p.trans ((rise_perm hc nd).symm.map _)
 refine List.Perm.eq_of_pairwise (le:=(·<=·)) (fun x y _ _ h1 h2=>Int.le_antisymm h1 h2) s ?_ p2
 unfold rI nI
 rw [List.pairwise_map]
 exact (rise_lt nt c).imp fun h=>by omega
structure En where
 t:Addr
 g:Addr
 b:Addr
 n:Nod Str
structure Ent (ps:List (Str × Str)) (fo ah:Addr) (H:Hp) (e:En):Prop where
 ht:H e.t=some (.tup [.ref e.g,.ref e.b])
 hg:H e.g=some (.lst ((nI e.n.1).map V.int))
 hb:H e.b=some (.lst ((bnn (aT ps) e.n).map V.str))
 g1:e.g≠fo
 g2:e.g≠ah
 b1:e.b≠fo
 b2:e.b≠ah
theorem Ent.keep {ps:List (Str × Str)} {fo ah:Addr} {H H':Hp} {e:En} {xs ys:List V} (h:Ent ps fo ah H e) (b:B2 fo ah H H') (hp:H fo=some (.lst xs)) (hq:H ah=some (.lst ys)):Ent ps fo ah H' e :=
 ⟨b.keep hp hq h.ht (fun _ z=>nomatch z),b _ _ h.hg h.g1 h.g2,b _ _ h.hb h.b1 h.b2,h.g1,h.g2,h.b1,h.b2⟩
theorem clo_le {α:Type} [DecidableEq α] (a b:Nat->α) (st:α) (p:Nod α) {i j:Nat} (h:i<=j):(clo a b st p i).length<=(clo a b st p j).length:=by
 induction h with
 | refl=>exact Nat.le_refl _
 | step _ ih=>rw [clo_succ,List.length_append];omega
noncomputable abbrev srE (ns:List Str) (ps:List (Str × Str)) (st:Str) (n:Nod Str):List (List Nat):=srch (aT ps) (bT ps) ps.length st (lbk ns ps st) ((srt ns).length+1 - n.1.length) n
theorem bnn_len (ps:List (Str × Str)) (n:Nod Str):(bnn (aT ps) n).length=n.1.length+1:=by simp [bnn]
theorem srE_eq {ns:List Str} {ps:List (Str × Str)} {st:Str} {n:Nod Str} (h:n.1.length+1<=(srt ns).length):srE ns ps st n=clo (aT ps) (bT ps) st n ps.length++(ext (aT ps) (bT ps) st (lbk ns ps st) n ps.length).flatMap (srE ns ps st):=by
 have e:(srt ns).length+1 - n.1.length=((srt ns).length - n.1.length)+1:=by omega
 unfold srE
 rw [e,srch]
 congr 1
 have:∀ m∈ext (aT ps) (bT ps) st (lbk ns ps st) n ps.length,srch (aT ps) (bT ps) ps.length st (lbk ns ps st) ((srt ns).length - n.1.length) m=srE ns ps st m:=fun m hm=>by
  obtain ⟨k,_,_,_,_,rfl⟩:=(ext_mem _ _ _ _).mp hm
  unfold srE
  congr 1
  simp
 rw [List.flatMap_def,List.flatMap_def,List.map_congr_left this]
def msr (N:Nat) (stk:List En):Nat:=(stk.map fun e=>31 ^ (N - e.n.1.length)).sum
theorem msr_snoc (N:Nat) (stk:List En) (e:En):msr N (stk++[e])=msr N stk+31 ^ (N - e.n.1.length):=by simp [msr]
theorem msr_app (N:Nat) (s t:List En):msr N (s++t)=msr N s+msr N t:=by simp [msr]
theorem msr_new {N d:Nat}:∀ {t:List En},(∀ e∈t,N - e.n.1.length=d)->msr N t=t.length * 31 ^ d
 | [],_=>by simp [msr]
 | e::t,h=>by
  have:=msr_new (N:=N) (d:=d) (t:=t) fun x hx=>h x (List.mem_cons_of_mem _ hx)
  show 31 ^ (N - e.n.1.length)+msr N t=_
  rw [this,h e List.mem_cons_self,List.length_cons,Nat.add_mul,Nat.one_mul,Nat.add_comm]
section
variable {P:Program} {w:World} {K:PySem.W.Frag} {mg:Str->Option Value} {base:Heap}
variable {C E7 fP fS fL fSp fLB:Addr} {fdP fdS fdL fdSp fdLB:FuncData}
abbrev aAR:List Str:=["web","start","found"]
def spAR (C E7:Addr):Sp:=fun vs H Q R=>∃ (x fo:Addr) (st:Str) (ns:List Str) (ps:List (Str × Str)) (cs:List (List Nat)) (qs:List (Addr × List Int)),vs=[.ref x,.str st,.ref fo]/\WebObj C H x ns ps/\GoodW ns ps/\st∈ns /\
 H fo=some (.lst (qs.map fun q=>V.ref q.1))/\HoldI H qs/\qs.map (·.2)=cs.map (rI ps.length)/\cs.length<=1000/\(∀ H':Hp,1000 < cs.length+(srE ns ps st ([],st)).length->But fo H H'->R (.ref E7) none H') /\
 ∀ (ds:List (List Nat)) (qs':List (Addr × List Int)) (H':Hp),cs.length+(srE ns ps st ([],st)).length<=1000->But fo H H'->H' fo=some (.lst (qs'.map fun q=>V.ref q.1))->HoldI H' qs'->qs'.map (·.2)=(cs++ds).map (rI ps.length)->ds.Perm (srE ns ps st ([],st))->Q .non H'
abbrev nAR:List Str:=["web","start","found","ahead","gone","been","k","a","b"]
theorem scAR:FnScope nAR aAR (defScope sAR):=⟨rfl,rfl,rfl,by decide +kernel,rfl,by decide +kernel,by decide +kernel⟩
structure Stk (ns:List Str) (ps:List (Str × Str)) (st:Str) (fo ah:Addr) (H:Hp) (stk:List En):Prop where
 hah:H ah=some (.lst (stk.map fun e=>V.ref e.t))
 ent:∀ e∈stk,Ent ps fo ah H e
 vld:∀ e∈stk,Vld (aT ps) (bT ps) ps.length ltT st e.n
 ins:∀ e∈stk,∀ z∈bnn (aT ps) e.n,z∈srt ns
 bnd:∀ (i:Nat) e,stk[i]?=some e->i < 30 * (e.n.1.length+1)
structure Fnd (ps:List (Str × Str)) (fo:Addr) (H:Hp) (cs:List (List Nat)) (qs:List (Addr × List Int)):Prop where
 hfo:H fo=some (.lst (qs.map fun q=>V.ref q.1))
 hold:HoldI H qs
 eq:qs.map (·.2)=cs.map (rI ps.length)
def ArW (x fo ah:Addr) (st:Str) (ns:List Str) (ps:List (Str × Str)) (cs:List (List Nat)) (H0:Hp) (m:Nat) (σ:L2.St) (H2:Hp):Prop :=
 ∃ (v4 v5 v6 v7 v8:Option V) (stk:List En) (ds:List (List Nat)) (qs:List (Addr × List Int)),σ=[some (.ref x),some (.str st),some (.ref fo),some (.ref ah),v4,v5,v6,v7,v8]/\B2 fo ah H0 H2/\Stk ns ps st fo ah H2 stk/\Fnd ps fo H2 (cs++ds) qs /\
  (ds++stk.flatMap fun e=>srE ns ps st e.n).Perm (srE ns ps st ([],st))/\m=msr (srt ns).length stk/\(cs++ds).length<=1000
theorem ok_ar {f:Addr} {fd:FuncData} (F:Fun K "add_rings_from" "add_rings_from" sAR f fd) (M:Mt K mg C fP fS fdP fdS) (DL:Df K mg "leads" sLeads ["places","ties"] fL fdL) (DS:Df K mg "spread" sSpread ["steps","start"] fSp fdSp) (DB:Df K mg "leads_back" sLB aLB fLB fdLB) (en:mg "enumerate" = none) {tr:Tok} (hM:mg "MOST_RINGS" = some (.int 1000 tr)) (X7:Ex K mg "TooMany" E7) (T:Glb mg):FnOk P w K mg base (CXO P w) 3 f fd aAR (spAR C E7):=by
 have GTi:FnOk P w K mg base CX0 1 fS fdS ["self"] (spTs C):=ok_ties M.sF M.wc T
 have GB:FnOk P w K mg base CX0 2 fLB fdLB aLB (spLB C):=ok_lb DB.fn M DL DS T
 refine F.okO scAR (fun vs H Q E h=>?_) (fun cdv A outer s H vs Q E hr h=>?_)
 ·obtain ⟨x,fo,st,ns,ps,cs,qs,rfl,_⟩:=h
  rfl
 ·obtain ⟨x,fo,st,ns,ps,cs,qs,rfl,hW,gW,hs,hfo,hold,eqs,few,kX,k⟩:=h
  obtain ⟨Bn,newId,initId,bm,q7,FB⟩:=X7.bm
  have p30:=gW.few
  have hu:=hu_of hr
  have hr1:=hr.mono (show 1<=2 by decide)
  refine ⟨_,pss_cons (ps_set (i:=3) scAR.nd rfl (Or.inl rfl) (pe_lst (pa_cons (pe_tup (pa_cons (pe_lst pa_nil) (pa_cons (pe_lst (pa_cons (pv 1) pa_nil)) pa_nil))) pa_nil)))
   (pss_one (ps_while PassesOwn.leaving (pt_truth (pv 3) (fun _=>rfl))
    (pss_cons (ps_asg (pe_bm0 PySem.F.plainAttrs_list PySem.F.slot_list_pop PySem.F.type_list_pop mt_pop (pv 3)) (pg_tup rfl (pgs_cons (pg_name (i:=4) scAR.nd rfl (Or.inl rfl)) (pgs_cons (pg_name (i:=5) scAR.nd rfl (Or.inl rfl)) pgs_nil))))
    (pss_one (ps_for PassesOwn.leaving rfl (pi_enum rfl en (pa_cons (pe_meth0 (pv 0) M.wc.cl M.sM GTi hr1 M.sB .nil pass0) pa_nil)) (pg_tup rfl (pgs_cons (pg_name (i:=6) scAR.nd rfl (Or.inl rfl)) (pgs_cons (pg_tup rfl (pgs_cons (pg_name (i:=7) scAR.nd rfl (Or.inl rfl)) (pgs_cons (pg_name (i:=8) scAR.nd rfl (Or.inl rfl)) pgs_nil))) pgs_nil)))
     (pss_one (ps_if (PW.pt (pw_and (pt_cmpR op_eq (pv 7) (pe_ix ix_list (pv 5) (pe_un un_neg pe_int) (fun _ _=>rfl)) (nomark _)) (pw_and1 (pt_cmpR op_eq (pv 8) (pv 1) (nomark _)))))
      (pss_cons (ps_expr (pe_bm PySem.F.plainAttrs_list PySem.F.slot_list_append PySem.F.type_list_append mt_append (pv 2) (pa_cons (pe_callTy call_tuple_of (by rfl) T.tuple PyProof.Rows.boot_tuple (pa_cons (pe_callB call_sorted_int (by rfl) T.sorted boot_sorted (pa_cons (pe_op op_cat (pv 4) (pe_lst (pa_cons (pv 6) pa_nil))) pa_nil)) pa_nil)) pa_nil)))
      (pss_one (ps_if (pt_cmpR op_gt (pe_callB call_len_seq (by rfl) T.len PySem.boot_len (pa_cons (pv 2) pa_nil)) (pe_glob (v:=.int 1000) rfl hM ⟨_,rfl⟩) (nomark _)) (pss_one (ps_raise rfl X7.b q7 FB (pa_cons pe_str pa_nil))) pss_nil)))
      (pss_one (ps_if (PW.pt (pw_and (pt_cmpR op_eq (pv 7) (pe_ix ix_list (pv 5) (pe_un un_neg pe_int) (fun _ _=>rfl)) (nomark _)) (pw_and1 (pt_val (pe_call GB hr rfl DB.mgf DB.fn.kp DB.b .nil pass0 (pa_cons (pv 0) (pa_cons (pv 1) (pa_cons (pv 5) (pa_cons (pv 8) pa_nil))))) (fun _=>rfl)))))
       (pss_one (ps_expr (pe_bm PySem.F.plainAttrs_list PySem.F.slot_list_append PySem.F.type_list_append mt_append (pv 3) (pa_cons (pe_tup (pa_cons (pe_op op_cat (pv 4) (pe_lst (pa_cons (pv 6) pa_nil))) (pa_cons (pe_op op_cat (pv 5) (pe_lst (pa_cons (pv 8) pa_nil))) pa_nil))) pa_nil))))
       pss_nil))))))))),?_⟩
  have N12:(srt ns).length<=12:=by rw [(srt_perm ns).length_eq];exact gW.good.few
  have hsN:st∈srt ns:=(srt_perm ns).mem_iff.mpr hs
  have LB:=lbk_ok gW.ins st
  refine ⟨(by decide),fun g0 ng=>?_⟩
  have sg:=same_upd (o:=.lst []) ng
  have hg0:=upd_same (H:=H) (a:=g0) (o:=.lst [])
  have nfg:fo≠g0:=ne_of_none hfo ng
  generalize upd H g0 (.lst [])=Hg at sg hg0 ⊢
  refine ⟨_,rfl,(by show 1<=sizeLine;decide),fun b0 nb=>?_⟩
  have sb:=same_upd (o:=.lst [V.str st]) nb
  have hb0:=upd_same (H:=Hg) (a:=b0) (o:=.lst [V.str st])
  have nfb:fo≠b0:=ne_of_none (sg _ _ hfo) nb
  have hg1:=sb _ _ hg0
  have s1:=sg.trans sb
  generalize upd Hg b0 (.lst [V.str st])=Hb at sb hb0 hg1 s1 ⊢
  refine ⟨(by show 2<=sizeLine;decide),fun t0 nt=>?_⟩
  have stt:=same_upd (o:=.tup [V.ref g0,V.ref b0]) nt
  have ht0:=upd_same (H:=Hb) (a:=t0) (o:=.tup [V.ref g0,V.ref b0])
  have hg2:=stt _ _ hg1
  have hb2:=stt _ _ hb0
  have s2:=s1.trans stt
  generalize upd Hb t0 (.tup [V.ref g0,V.ref b0])=Ht at stt ht0 hg2 hb2 s2 ⊢
  refine ⟨(by show 1<=sizeLine;decide),fun ah nah=>?_⟩
  have Hah:H ah=none:=s2.free nah
  have sa:=same_upd (o:=.lst [V.ref t0]) nah
  have ha0:=upd_same (H:=Ht) (a:=ah) (o:=.lst [V.ref t0])
  have nfa:fo≠ah:=ne_of_none (s2 _ _ hfo) nah
  have hE:Ent ps fo ah (upd Ht ah (.lst [V.ref t0])) ⟨t0,g0,b0,([],st)⟩:=⟨sa _ _ ht0,sa _ _ hg2,sa _ _ hb2,Ne.symm nfg,ne_of_none hg2 nah,Ne.symm nfb,ne_of_none hb2 nah⟩
  have s3:=s2.trans sa
  generalize upd Ht ah (.lst [V.ref t0])=H0 at sa ha0 hE s3 ⊢
  have hfo0:=s3 _ _ hfo
  have W0:=hW.same s3
  have m1:∀ {e:En},e∈[(⟨t0,g0,b0,([],st)⟩:En)]->e=⟨t0,g0,b0,([],st)⟩:=fun h=>List.mem_singleton.mp h
  refine ⟨ArW x fo ah st ns ps cs H0,⟨_,_,_,_,_,_,[⟨t0,g0,b0,([],st)⟩],[],qs,rfl,B2.refl _ _ _,⟨ha0,fun e he=>by rw [m1 he];exact hE,fun e he=>by rw [m1 he];exact vld0 st,fun e he z hz=>?_,fun i e he=>?_⟩,⟨hfo0,fun q hq=>s3 _ _ (hold q hq),by rw [List.append_nil];exact eqs⟩,?_,rfl,by rw [List.append_nil];exact few⟩,?_⟩
  ·rw [m1 he] at hz
   have ez:z=st:=by simpa [bnn] using hz
   rw [ez];exact hsN
  ·have:=(List.getElem?_eq_some_iff.mp he).1
   simp at this
   omega
  ·simp
  rintro m σ H2 ⟨v4,v5,v6,v7,v8,stk,ds,qs2,rfl,b2,S2,F2,pm,rfl,le2⟩
  rw [List.length_append] at le2
  refine ⟨_,rfl,_,.inl ⟨_,SqL.of S2.hah,rfl⟩,?_⟩
  refine ite2 (fun hne=>?_) (fun hem=>?_)
  rotate_left
  ·have he:stk=[]:=by
    cases stk with
    | nil=>rfl
    | cons x r=>simp at hem
   subst he
   have pmd:ds.Perm (srE ns ps st ([],st)):=by simpa using pm
   refine k ds qs2 H2 (by rw [<- pmd.length_eq];exact le2) (fun c u e n=>?_) F2.hfo F2.hold F2.eq pmd
   exact b2 c u (s3 c u e) n (ne_of_none e Hah)
  have hpos:stk≠[]:=fun e=>by rw [e] at hne;simp at hne
  obtain ⟨stk0,e,rfl⟩:∃ hs0 pl,stk=hs0++[pl]:=⟨stk.dropLast,stk.getLast hpos,(List.dropLast_concat_getLast hpos).symm⟩
  refine ⟨fun σ' H'=>∃ m',m' < msr (srt ns).length (stk0++[e])/\ArW x fo ah st ns ps cs H0 m' σ' H',fun σ' H' h=>h,?_⟩
  have eE:e∈stk0++[e]:=by simp
  have eS:∀ e'∈stk0,e'∈stk0++[e]:=fun e' h=>List.mem_append_left _ h
  refine ⟨_,rfl,.inl ⟨rfl,_,SqL.of S2.hah⟩,ah,_,.ref e.t,rfl,rfl,S2.hah,(by simp),?_⟩
  have eh:((stk0++[e]).map fun e=>V.ref e.t).dropLast=stk0.map fun e=>V.ref e.t:=by simp
  rw [eh]
  have b3:=B2.up2 fo ah H2 (.lst (stk0.map fun e=>V.ref e.t))
  have ha3:=upd_same (H:=H2) (a:=ah) (o:=.lst (stk0.map fun e=>V.ref e.t))
  have hf3:upd H2 ah (.lst (stk0.map fun e=>V.ref e.t)) fo=_:=(L2.upd_ne nfa).trans F2.hfo
  generalize upd H2 ah (.lst (stk0.map fun e=>V.ref e.t))=H3 at b3 ha3 hf3 ⊢
  have E3:=(S2.ent e eE).keep b3 F2.hfo S2.hah
  have W3:=(b2.trans b3).web hfo0 ha0 W0
  refine ⟨e.t,_,rfl,SqT.of E3.ht,rfl,_,_,rfl,_,_,rfl,rfl,?_⟩
  obtain ⟨d1,f1,q1,r1⟩:=W3.meth "ties"
  refine ⟨_,rfl,x,d1,f1,rfl,q1,r1,x,ns,ps,rfl,W3,fun lt tt nlt hTt=>?_⟩
  have s4:=same_upd (o:=.lst (tt.map V.ref)) nlt
  have hlt:=upd_same (H:=H3) (a:=lt) (o:=.lst (tt.map V.ref))
  have nlf:lt≠fo:=Ne.symm (ne_of_none hf3 nlt)
  have nla:lt≠ah:=Ne.symm (ne_of_none ha3 nlt)
  generalize upd H3 lt (.lst (tt.map V.ref))=H4 at s4 hlt ⊢
  have b4:B2 fo ah H3 H4:=B2.same s4
  have E4:=E3.keep b4 hf3 ha3
  have ha4:=s4 _ _ ha3
  have hf4:=s4 _ _ hf3
  have hT4:=hTt.same s4
  have W4:=W3.same s4
  have b24:=b3.trans b4
  have F4:Fnd ps fo H4 (cs++(ds++clo (aT ps) (bT ps) st e.n 0)) qs2:=⟨hf4,b24.hold F2.hfo S2.hah F2.hold,by rw [show clo (aT ps) (bT ps) st e.n 0=[] from rfl,List.append_nil];exact F2.eq⟩
  have len1:e.n.1.length+1<=(srt ns).length:=by
   have:=(S2.vld e eE).nd.length_le_of_subset (S2.ins e eE)
   rw [bnn_len] at this
   exact this
  have top:stk0.length < 30 * (e.n.1.length+1):=S2.bnd stk0.length e (by simp)
  have cnt:∀ i,i<=ps.length->cs.length+(ds.length+(clo (aT ps) (bT ps) st e.n i).length)<=cs.length+(srE ns ps st ([],st)).length:=fun i hi=>by
   have h1:=pm.length_eq
   have h2:=clo_le (aT ps) (bT ps) st e.n hi
   rw [List.length_append,List.flatMap_append,List.length_append,List.flatMap_cons,List.flatMap_nil,List.append_nil,srE_eq len1,List.length_append] at h1
   omega
  refine ⟨lt,rfl,⟨_,SqL.of hlt⟩,for_enum (K:=K) (xs:=tt.map V.ref) (fun i σ H5=>∃ (v6 v7 v8:Option V) (new:List En) (qs5:List (Addr × List Int)),σ=[some (.ref x),some (.str st),some (.ref fo),some (.ref ah),some (.ref e.g),some (.ref e.b),v6,v7,v8]/\B2 fo ah H4 H5/\H5 ah=some (.lst ((stk0++new).map fun e=>V.ref e.t))/\(∀ e'∈new,Ent ps fo ah H5 e')/\new.map (·.n)=ext (aT ps) (bT ps) st (lbk ns ps st) e.n i/\Fnd ps fo H5 (cs++(ds++clo (aT ps) (bT ps) st e.n i)) qs5/\cs.length+(ds.length+(clo (aT ps) (bT ps) st e.n i).length)<=1000)
   ⟨_,_,_,[],qs2,rfl,B2.refl _ _ _,by rw [List.append_nil];exact ha4,(fun _ z=>nomatch z),rfl,F4,le2⟩ ?_ ?_ ?_⟩
  ·rintro i σ H5 _ ⟨_,_,_,_,_,rfl,b5,_⟩
   exact SqL.of (b5 _ _ hlt nlf nla)
  ·rintro i y σ H5 q hy ⟨v6,v7,v8,new,qs5,rfl,b5,ha5,En5,eqn,F5,le5⟩ nq
   rw [List.getElem?_map] at hy
   obtain ⟨u,eu,rfl⟩:=Option.map_eq_some_iff.mp hy
   obtain ⟨pr,ep,hpr⟩:=(b5.ties hf4 ha4 hT4).get eu
   have hi:i < ps.length:=(List.getElem?_eq_some_iff.mp ep).1
   obtain ⟨i1,i2⟩:=gW.ins pr (List.mem_of_getElem? ep)
   have sq:=same_upd (o:=.tup [.int (i:Int),.ref u]) nq
   have hq:=upd_same (H:=H5) (a:=q) (o:=.tup [.int (i:Int),.ref u])
   have hpr6:=sq _ _ hpr
   generalize upd H5 q (.tup [.int (i:Int),.ref u])=H6 at sq hq hpr6 ⊢
   have b46:B2 fo ah H4 H6:=b5.trans (B2.same sq)
   have ha6:=sq _ _ ha5
   have E6:=E4.keep b46 hf4 ha4
   have En6:∀ e'∈new,Ent ps fo ah H6 e':=fun e' h=>(En5 e' h).keep (B2.same sq) F5.hfo ha5
   have F6:Fnd ps fo H6 (cs++(ds++clo (aT ps) (bT ps) st e.n i)) qs5:=⟨sq _ _ F5.hfo,fun x hx=>sq _ _ (F5.hold x hx),F5.eq⟩
   have W6:=b46.web hf4 ha4 W4
   have ea:=aT_at ep
   have eb:=bT_at ep
   refine ⟨q,_,rfl,SqT.of hq,rfl,_,_,rfl,_,_,rfl,u,_,rfl,SqT.of hpr6,rfl,_,_,rfl,_,_,rfl,rfl,rfl,?_⟩
   have ebl:(bnn (aT ps) e.n).map V.str=(e.n.1.map (aT ps)).map V.str++[V.str e.n.2]:=by simp [bnn]
   have lst:atI ((bnn (aT ps) e.n).map V.str) (-1)=some (.str e.n.2):=by rw [ebl];exact atI_last _ _
   refine ⟨_,rfl,_,rfl,_,rfl,e.b,_,_,_,rfl,rfl,SqL.of E6.hb,lst,rfl,_,rfl,?_⟩
   rw [dec_str]
   by_cases c1:pr.1=e.n.2
   ·rw [show (pr.1 == e.n.2)=true from beq_iff_eq.mpr c1]
    refine iteT ⟨_,rfl,_,rfl,rfl,_,rfl,?_⟩
    rw [dec_str]
    by_cases c2:pr.2=st
    ·rw [show (pr.2 == st)=true from beq_iff_eq.mpr c2]
     refine iteT ?_
     have vE:=S2.vld e eE
     have mp:(e.n.1++[i]).map (aT ps)=bnn (aT ps) e.n:=by simp [bnn,ea,c1]
     have ndc:(e.n.1++[i]).Nodup:=nodup_of_map (f:=aT ps) (by rw [mp];exact vE.nd)
     have ltc:∀ k∈e.n.1++[i],k < ps.length:=fun k hk=>(List.mem_append.mp hk).elim (vE.kn k) fun z=>by rw [List.mem_singleton.mp z];exact hi
     have lg:e.n.1.length<=12:=by omega
     have lq5:qs5.length=cs.length+(ds.length+(clo (aT ps) (bT ps) st e.n i).length):=by
      have:=congrArg List.length F5.eq
      simpa using this
     have cn1:=cnt (i+1) (by omega)
     have ec:clo (aT ps) (bT ps) st e.n (i+1)=clo (aT ps) (bT ps) st e.n i++[e.n.1++[i]]:=by rw [clo_succ,if_pos ⟨by rw [ea,c1],by rw [eb,c2]⟩]
     refine ⟨_,rfl,.inl ⟨rfl,_,SqL.of F6.hfo⟩,_,rfl,_,rfl,(by show 1<=sizeLine;decide),fun l1 nl1=>?_⟩
     have t1:=same_upd (o:=.lst [V.int (i:Int)]) nl1
     have hl1:=upd_same (H:=H6) (a:=l1) (o:=.lst [V.int (i:Int)])
     generalize upd H6 l1 (.lst [V.int (i:Int)])=H7 at t1 hl1 ⊢
     refine ⟨e.g,l1,_,_,rfl,rfl,t1 _ _ E6.hg,hl1,?_,fun l2 nl2=>?_⟩
     ·rw [List.length_map,show (nI e.n.1).length=e.n.1.length from List.length_map _]
      exact Nat.le_trans (show e.n.1.length+1<=13 by omega) (by decide)
     have eI:(nI e.n.1).map V.int++[V.int (i:Int)]=(nI (e.n.1++[i])).map V.int:=by simp [nI]
     rw [eI]
     have t2:=t1.trans (same_upd (o:=.lst ((nI (e.n.1++[i])).map V.int)) nl2)
     have hl2:=upd_same (H:=H7) (a:=l2) (o:=.lst ((nI (e.n.1++[i])).map V.int))
     generalize upd H7 l2 (.lst ((nI (e.n.1++[i])).map V.int))=H8 at t2 hl2 ⊢
     refine ⟨l2,_,rfl,SqL.of hl2,?_,fun l3 ms nl3 pms sms=>?_⟩
     ·rw [show (nI (e.n.1++[i])).length=(e.n.1++[i]).length from List.length_map _];simp;omega
     obtain rfl:=rI_of ltc ndc pms sms
     have t3:=t2.trans (same_upd (o:=.lst ((rI ps.length (e.n.1++[i])).map V.int)) nl3)
     have hl3:=upd_same (H:=H8) (a:=l3) (o:=.lst ((rI ps.length (e.n.1++[i])).map V.int))
     generalize upd H8 l3 (.lst ((rI ps.length (e.n.1++[i])).map V.int))=H9 at t3 hl3 ⊢
     refine ⟨l3,_,rfl,.inl ⟨SqL.of hl3,fun t4 nt4=>?_⟩⟩
     have t5:=t3.trans (same_upd (o:=.tup ((rI ps.length (e.n.1++[i])).map V.int)) nt4)
     have ht4:=upd_same (H:=H9) (a:=t4) (o:=.tup ((rI ps.length (e.n.1++[i])).map V.int))
     generalize upd H9 t4 (.tup ((rI ps.length (e.n.1++[i])).map V.int))=H10 at t5 ht4 ⊢
     have hf10:=t5 _ _ F6.hfo
     have ha10:=t5 _ _ ha6
     refine ⟨fo,_,_,rfl,rfl,hf10,(by rw [List.length_map];exact small1000 (by omega)),?_⟩
     have bF:=B2.up1 fo ah H10 (.lst ((qs5.map fun q=>V.ref q.1)++[V.ref t4]))
     have hfN:=upd_same (H:=H10) (a:=fo) (o:=.lst ((qs5.map fun q=>V.ref q.1)++[V.ref t4]))
     have haN:upd H10 fo (.lst ((qs5.map fun q=>V.ref q.1)++[V.ref t4])) ah=_:=(L2.upd_ne (Ne.symm nfa)).trans ha10
     generalize upd H10 fo (.lst ((qs5.map fun q=>V.ref q.1)++[V.ref t4]))=H11 at bF hfN haN ⊢
     have b6N:B2 fo ah H6 H11:=(B2.same t5).trans bF
     refine ⟨_,rfl,fo,_,rfl,.inl (SqL.of hfN),_,_,rfl,rfl,_,rfl,?_⟩
     have lq6:((((qs5.map fun q=>V.ref q.1)++[V.ref t4]).length:Nat):Int)=((cs.length+(ds.length+(clo (aT ps) (bT ps) st e.n (i+1)).length):Nat):Int):=by
      rw [ec]
      simp
      omega
     rw [lq6]
     by_cases over:1000 < cs.length+(ds.length+(clo (aT ps) (bT ps) st e.n (i+1)).length)
     ·have nov:decide ((1000:Int) < ((cs.length+(ds.length+(clo (aT ps) (bT ps) st e.n (i+1)).length):Nat):Int))=true:=decide_eq_true (by omega)
      rw [nov]
      refine iteT ⟨(by show 1<=sizeLine;decide),kX H11 (by omega) fun c u e n=>?_⟩
      exact (b2.trans (b24.trans (b46.trans b6N))) c u (s3 c u e) n (ne_of_none e Hah)
     have nov:decide ((1000:Int) < ((cs.length+(ds.length+(clo (aT ps) (bT ps) st e.n (i+1)).length):Nat):Int))=false:=decide_eq_false (by omega)
     rw [nov]
     refine iteF ⟨_,_,_,new,qs5++[(t4,rI ps.length (e.n.1++[i]))],rfl,b46.trans b6N,haN,fun e' h=>(En6 e' h).keep b6N F6.hfo ha6,?_,?_,by omega⟩
     ·rw [ext_succ,if_neg (by rw [eb];exact fun z=>z.2.1 c2),List.append_nil];exact eqn
     ·refine ⟨by rw [hfN,List.map_append];rfl,fun q hq=>?_,?_⟩
      ·rcases List.mem_append.mp hq with z | z
       ·exact b6N.keep F6.hfo ha6 (F6.hold q z) fun _ z=>nomatch z
       ·rw [List.mem_singleton.mp z]
        exact bF.keep hf10 ha10 ht4 fun _ z=>nomatch z
      ·rw [List.map_append,F5.eq,ec]
       simp
    ·rw [show (pr.2 == st)=false from beq_eq_false_iff_ne.mpr c2]
     refine iteF ?_
     refine ⟨_,rfl,_,rfl,_,rfl,e.b,_,_,_,rfl,rfl,SqL.of E6.hb,lst,rfl,_,rfl,?_⟩
     rw [dec_str,show (pr.1 == e.n.2)=true from beq_iff_eq.mpr c1]
     refine iteT ⟨_,rfl,_,rfl,_,rfl,_,rfl,x,e.b,st,pr.2,_,ns,ps,rfl,W6,gW,E6.hb,hs,fun H7 s7=>⟨_,rfl,?_⟩⟩
     have ha7:=s7 _ _ ha6
     have E7:=E6.keep (B2.same s7) F6.hfo ha6
     have En7:∀ e'∈new,Ent ps fo ah H7 e':=fun e' h=>(En6 e' h).keep (B2.same s7) F6.hfo ha6
     have F7:Fnd ps fo H7 (cs++(ds++clo (aT ps) (bT ps) st e.n i)) qs5:=⟨s7 _ _ F6.hfo,fun x hx=>s7 _ _ (F6.hold x hx),F6.eq⟩
     have b47:B2 fo ah H4 H7:=b46.trans (B2.same s7)
     by_cases c3:lbk ns ps st (bnn (aT ps) e.n) pr.2=true
     ·rw [c3]
      refine iteT ?_
      have lg:e.n.1.length<=12:=by omega
      have ln:new.length<=i:=by
       have:=congrArg List.length eqn
       rw [List.length_map] at this
       rw [this]
       exact ext_len _ _ _ _ _ _
      refine ⟨_,rfl,.inl ⟨rfl,_,SqL.of ha7⟩,_,rfl,_,rfl,(by show 1<=sizeLine;decide),fun l1 nl1=>?_⟩
      have t1:=same_upd (o:=.lst [V.int (i:Int)]) nl1
      have hl1:=upd_same (H:=H7) (a:=l1) (o:=.lst [V.int (i:Int)])
      generalize upd H7 l1 (.lst [V.int (i:Int)])=H8 at t1 hl1 ⊢
      refine ⟨e.g,l1,_,_,rfl,rfl,t1 _ _ E7.hg,hl1,?_,fun g1 ng1=>?_⟩
      ·rw [List.length_map,show (nI e.n.1).length=e.n.1.length from List.length_map _]
       exact Nat.le_trans (show e.n.1.length+1<=13 by omega) (by decide)
      have eI:(nI e.n.1).map V.int++[V.int (i:Int)]=(nI (e.n.1++[i])).map V.int:=by simp [nI]
      rw [eI]
      have t2:=t1.trans (same_upd (o:=.lst ((nI (e.n.1++[i])).map V.int)) ng1)
      have hg1':=upd_same (H:=H8) (a:=g1) (o:=.lst ((nI (e.n.1++[i])).map V.int))
      have g1f:g1≠fo:=Ne.symm (ne_of_none (t1 _ _ F7.hfo) ng1)
      have g1a:g1≠ah:=Ne.symm (ne_of_none (t1 _ _ ha7) ng1)
      generalize upd H8 g1 (.lst ((nI (e.n.1++[i])).map V.int))=H9 at t2 hg1' ⊢
      refine ⟨_,rfl,_,rfl,(by show 1<=sizeLine;decide),fun l2 nl2=>?_⟩
      have t3':=same_upd (o:=.lst [V.str pr.2]) nl2
      have t3:=t2.trans t3'
      have hl2:=upd_same (H:=H9) (a:=l2) (o:=.lst [V.str pr.2])
      have hg1b:=t3' _ _ hg1'
      generalize upd H9 l2 (.lst [V.str pr.2])=H10 at t3 t3' hl2 hg1b ⊢
      refine ⟨e.b,l2,_,_,rfl,rfl,t3 _ _ E7.hb,hl2,?_,fun b1 nb1=>?_⟩
      ·rw [List.length_map,bnn_len]
       exact Nat.le_trans (show e.n.1.length+1+1<=14 by omega) (by decide)
      have eB:(bnn (aT ps) e.n).map V.str++[V.str pr.2]=(bnn (aT ps) (e.n.1++[i],pr.2)).map V.str:=by simp [bnn,ea,c1]
      rw [eB]
      have t4':=same_upd (o:=.lst ((bnn (aT ps) (e.n.1++[i],pr.2)).map V.str)) nb1
      have t4:=t3.trans t4'
      have hb1':=upd_same (H:=H10) (a:=b1) (o:=.lst ((bnn (aT ps) (e.n.1++[i],pr.2)).map V.str))
      have b1f:b1≠fo:=Ne.symm (ne_of_none (t3 _ _ F7.hfo) nb1)
      have b1a:b1≠ah:=Ne.symm (ne_of_none (t3 _ _ ha7) nb1)
      have hg1c:=t4' _ _ hg1b
      generalize upd H10 b1 (.lst ((bnn (aT ps) (e.n.1++[i],pr.2)).map V.str))=H11 at t4 t4' hb1' hg1c ⊢
      refine ⟨(by show 2<=sizeLine;decide),fun t9 nt9=>?_⟩
      have t5':=same_upd (o:=.tup [V.ref g1,V.ref b1]) nt9
      have t5:=t4.trans t5'
      have ht9:=upd_same (H:=H11) (a:=t9) (o:=.tup [V.ref g1,V.ref b1])
      have hg1d:=t5' _ _ hg1c
      have hb1d:=t5' _ _ hb1'
      generalize upd H11 t9 (.tup [V.ref g1,V.ref b1])=H12 at t5 t5' ht9 hg1d hb1d ⊢
      have ha12:=t5 _ _ ha7
      have hf12:=t5 _ _ F7.hfo
      refine ⟨ah,_,_,rfl,rfl,ha12,(by rw [List.length_map,List.length_append];exact small1000 (by omega)),?_⟩
      have bA:=B2.up2 fo ah H12 (.lst (((stk0++new).map fun e=>V.ref e.t)++[V.ref t9]))
      have haN:=upd_same (H:=H12) (a:=ah) (o:=.lst (((stk0++new).map fun e=>V.ref e.t)++[V.ref t9]))
      have hfN:upd H12 ah (.lst (((stk0++new).map fun e=>V.ref e.t)++[V.ref t9])) fo=_:=(L2.upd_ne nfa).trans hf12
      generalize upd H12 ah (.lst (((stk0++new).map fun e=>V.ref e.t)++[V.ref t9]))=H13 at bA haN hfN ⊢
      have b7N:B2 fo ah H7 H13:=(B2.same t5).trans bA
      have EN:Ent ps fo ah H12 ⟨t9,g1,b1,(e.n.1++[i],pr.2)⟩:=⟨ht9,hg1d,hb1d,g1f,g1a,b1f,b1a⟩
      refine ⟨_,_,_,new++[⟨t9,g1,b1,(e.n.1++[i],pr.2)⟩],qs5,rfl,b47.trans b7N,by rw [haN];simp,fun e' h=>?_,?_,?_,by rw [clo_succ,if_neg (by rw [eb];exact fun z=>c2 z.2),List.append_nil];exact le5⟩
      ·rcases List.mem_append.mp h with z | z
       ·exact (En7 e' z).keep b7N F7.hfo ha7
       ·rw [List.mem_singleton.mp z];exact EN.keep bA hf12 ha12
      ·rw [ext_succ,if_pos ⟨by rw [ea,c1],by rw [eb];exact c2,by rw [eb];exact c3⟩,List.map_append,eqn,eb]
       rfl
      ·rw [clo_succ,if_neg (by rw [eb];exact fun z=>c2 z.2),List.append_nil]
       exact ⟨hfN,b7N.hold F7.hfo ha7 F7.hold,F7.eq⟩
     ·rw [Bool.not_eq_true] at c3
      rw [c3]
      refine iteF ⟨_,_,_,new,qs5,rfl,b47,ha7,En7,?_,?_,by rw [clo_succ,if_neg (by rw [eb];exact fun z=>c2 z.2),List.append_nil];exact le5⟩
      ·rw [ext_succ,if_neg (by rw [ea,eb,c3];simp),List.append_nil];exact eqn
      ·rw [clo_succ,if_neg (by rw [eb];exact fun z=>c2 z.2),List.append_nil];exact F7
   ·rw [show (pr.1 == e.n.2)=false from beq_eq_false_iff_ne.mpr c1]
    refine iteF ⟨_,rfl,_,rfl,_,rfl,e.b,_,_,_,rfl,rfl,SqL.of E6.hb,lst,rfl,_,rfl,?_⟩
    rw [dec_str,show (pr.1 == e.n.2)=false from beq_eq_false_iff_ne.mpr c1]
    refine iteF ⟨_,_,_,new,qs5,rfl,b46,ha6,En6,?_,?_,by rw [clo_succ,if_neg (by rw [ea];exact fun z=>c1 z.1),List.append_nil];exact le5⟩
    ·rw [ext_succ,if_neg (by rw [ea];exact fun z=>c1 z.1),List.append_nil];exact eqn
    ·rw [clo_succ,if_neg (by rw [ea];exact fun z=>c1 z.1),List.append_nil];exact F6
  ·rintro σ H5 ⟨v6,v7,v8,new,qs5,rfl,b5,ha5,En5,eqn,F5,le5⟩
   have ltt:(tt.map V.ref).length=ps.length:=by rw [List.length_map,hTt.len]
   rw [ltt] at eqn F5 le5
   have ln:new.length<=30:=by
    have:=congrArg List.length eqn
    rw [List.length_map] at this
    rw [this]
    exact Nat.le_trans (ext_len _ _ _ _ _ _) p30
   have vE:=S2.vld e eE
   have nx:∀ e'∈new,Vld (aT ps) (bT ps) ps.length ltT st e'.n/\bnn (aT ps) e'.n=bnn (aT ps) e.n++[e'.n.2]/\e'.n.2∈srt ns:=fun e' h=>vE.ext LB (eqn ▸ List.mem_map.mpr ⟨e',h,rfl⟩)
   have nl:∀ e'∈new,e'.n.1.length=e.n.1.length+1:=fun e' h=>by
    have:=congrArg List.length (nx e' h).2.1
    rw [bnn_len,List.length_append,bnn_len] at this
    simpa using this
   obtain ⟨d,ed⟩:∃ d,(srt ns).length - e.n.1.length=d+1:=⟨(srt ns).length - e.n.1.length - 1,by omega⟩
   have mN:msr (srt ns).length new=new.length * 31 ^ d:=msr_new fun e' h=>by rw [nl e' h];omega
   have b25:=b24.trans b5
   refine ⟨msr (srt ns).length (stk0++new),?_,_,_,_,_,_,stk0++new,ds++clo (aT ps) (bT ps) st e.n ps.length,qs5,rfl,b2.trans b25,⟨ha5,fun e' h=>?_,fun e' h=>?_,fun e' h=>?_,fun i e' h=>?_⟩,F5,?_,rfl,by rw [List.length_append,List.length_append];exact le5⟩
   ·rw [msr_app,msr_snoc,mN,ed,Nat.pow_succ]
    have:=Nat.mul_le_mul_right (31 ^ d) ln
    have:0 < 31 ^ d:=Nat.pow_pos (by decide)
    omega
   ·rcases List.mem_append.mp h with z | z
    ·exact (S2.ent e' (eS e' z)).keep b25 F2.hfo S2.hah
    ·exact En5 e' z
   ·rcases List.mem_append.mp h with z | z
    ·exact S2.vld e' (eS e' z)
    ·exact (nx e' z).1
   ·rcases List.mem_append.mp h with z | z
    ·exact S2.ins e' (eS e' z)
    ·rw [(nx e' z).2.1]
     intro y hy
     rcases List.mem_append.mp hy with q | q
     ·exact S2.ins e eE y q
     ·rw [List.mem_singleton.mp q];exact (nx e' z).2.2
   ·by_cases hi:i < stk0.length
    ·rw [List.getElem?_append_left hi] at h
     exact S2.bnd i e' (by rw [List.getElem?_append_left hi];exact h)
    ·rw [List.getElem?_append_right (by omega)] at h
     have:=(List.getElem?_eq_some_iff.mp h).1
     have:=nl e' (List.mem_of_getElem? h)
     omega
   ·refine List.Perm.trans ?_ pm
    rw [List.flatMap_append,List.flatMap_append,List.flatMap_cons,List.flatMap_nil,List.append_nil,srE_eq len1,<- eqn,List.flatMap_map,List.append_assoc]
    refine List.Perm.append_left _ ?_
    rw [<- List.append_assoc,<- List.append_assoc]
    exact List.Perm.append_right _ List.perm_append_comm
end
abbrev sRg:Stmt:=top 27 -- rings
theorem rI_ne {nt:Nat} {c:List Nat} (hc:∀ k∈c,k < nt) (ne:c≠[]):rI nt c≠[]:=fun e=>by
 match c,ne with
 | k::r,_ =>
  have:k∈rise nt (k::r):=(rise_mem hc k).mpr List.mem_cons_self
  have e2:rise nt (k::r)=[]:=List.map_eq_nil_iff.mp e
  rw [e2] at this
  cases this
noncomputable abbrev rgL (ns:List Str) (ps:List (Str × Str)) (L:List Str):List (List Nat):=rgs (aT ps) (bT ps) ps.length (lbk ns ps) (srt ns) L
section
variable {P:Program} {w:World} {K:PySem.W.Frag} {mg:Str->Option Value} {base:Heap}
variable {C E7 fP fS fL fSp fLB fAR:Addr} {fdP fdS fdL fdSp fdLB fdAR:FuncData}
def spRg (C E7:Addr):Sp:=fun vs H Q R=>∃ (x:Addr) (ns:List Str) (ps:List (Str × Str)),vs=[.ref x]/\WebObj C H x ns ps/\GoodW ns ps/\(∀ H':Hp,1000 < (rgL ns ps (srt ns)).length->Same H H'->R (.ref E7) none H') /\
 ∀ (l:Addr) (qs:List (Addr × List Int)) (H':Hp),(rgL ns ps (srt ns)).length<=1000->H l=none->H' l=some (.lst (qs.map fun q=>V.ref q.1))->HoldI H' qs->(qs.map (·.2)).Perm ((rgL ns ps (srt ns)).map (rI ps.length))->qs.Pairwise (fun a b=>ltI b.2 a.2=false)->Same H H'->Q (.ref l) H'
abbrev nRg:List Str:=["web","found","place"]
theorem scRg:FnScope nRg ["web"] (defScope sRg):=⟨rfl,rfl,rfl,by decide +kernel,rfl,by decide +kernel,by decide +kernel⟩
theorem ok_rg {f:Addr} {fd:FuncData} (F:Fun K "rings" "rings" sRg f fd) (M:Mt K mg C fP fS fdP fdS) (DL:Df K mg "leads" sLeads ["places","ties"] fL fdL) (DS:Df K mg "spread" sSpread ["steps","start"] fSp fdSp) (DB:Df K mg "leads_back" sLB aLB fLB fdLB) (DA:Df K mg "add_rings_from" sAR aAR fAR fdAR) (en:mg "enumerate" = none) {tr:Tok} (hM:mg "MOST_RINGS" = some (.int 1000 tr)) (X7:Ex K mg "TooMany" E7) (T:Glb mg):FnOk P w K mg base (CXO P w) 4 f fd ["web"] (spRg C E7):=by
 have GP:FnOk P w K mg base CX0 1 fP fdP ["self"] (spPl C):=ok_places M.pF M.wc T
 have GA:FnOk P w K mg base (CXO P w) 3 fAR fdAR aAR (spAR C E7):=ok_ar DA.fn M DL DS DB en hM X7 T
 refine F.okO scRg (fun vs H Q E h=>?_) (fun cdv A outer s H vs Q E hr h=>?_)
 ·obtain ⟨x,ns,ps,rfl,_⟩:=h
  rfl
 ·obtain ⟨x,ns,ps,rfl,hW,gW,kX,k⟩:=h
  have hr1:=hr.mono (show 1<=3 by decide)
  refine ⟨_,pss_cons (ps_set (i:=1) scRg.nd rfl (Or.inl rfl) (pe_lst pa_nil))
   (pss_cons (ps_for PassesOwn.leaving rfl (pi_list (pe_meth0 (pv 0) M.wc.cl M.pM GP hr1 M.pB .nil pass0)) (pg_name (i:=2) scRg.nd rfl (Or.inl rfl))
    (pss_one (ps_expr (pe_call GA hr rfl DA.mgf DA.fn.kp DA.b .nil passO (pa_cons (pv 0) (pa_cons (pv 2) (pa_cons (pv 1) pa_nil)))))))
   (pss_one (ps_ret (pe_callB (call_sorted_ltI) (by rfl) T.sorted boot_sorted (pa_cons (pv 1) pa_nil))))),?_⟩
  have nd:=srt_nd gW.good.nd
  have LB:∀ st∈srt ns,Lbk (aT ps) (bT ps) ps.length ltT st (lbk ns ps st) (srt ns):=fun st _=>lbk_ok gW.ins st
  refine ⟨(by decide),fun fo nfo=>?_⟩
  have s0:=same_upd (o:=.lst []) nfo
  have h0:=upd_same (H:=H) (a:=fo) (o:=.lst [])
  generalize upd H fo (.lst [])=H0 at s0 h0 ⊢
  have W0:=hW.same s0
  obtain ⟨d1,f1,q1,r1⟩:=W0.meth "places"
  refine ⟨_,rfl,x,d1,f1,rfl,q1,r1,x,ns,ps,rfl,W0,fun lp np=>⟨lp,rfl,⟨_,SqL.of upd_same⟩,?_⟩⟩
  have sp:=same_upd (o:=.lst ((srt ns).map V.str)) np
  have hlp:=upd_same (H:=H0) (a:=lp) (o:=.lst ((srt ns).map V.str))
  have nlf:lp≠fo:=Ne.symm (ne_of_none h0 np)
  generalize upd H0 lp (.lst ((srt ns).map V.str))=H1 at sp hlp ⊢
  have h1:=sp _ _ h0
  have s1:=s0.trans sp
  have W1:=W0.same sp
  refine for_list (K:=K) (xs:=(srt ns).map V.str) (fun i σ H2=>∃ (v2:Option V) (cs:List (List Nat)) (qs:List (Addr × List Int)),σ=[some (.ref x),some (.ref fo),v2]/\But fo H1 H2/\Fnd ps fo H2 cs qs/\cs.Perm (rgL ns ps ((srt ns).take i))/\cs.length<=1000)
   ⟨_,[],[],rfl,But.refl _ _,⟨h1,(fun _ z=>nomatch z),rfl⟩,by simp [rgL,rgs],by simp⟩ ?_ ?_ ?_
  ·rintro i σ H2 _ ⟨_,_,_,rfl,b2,_⟩
   exact SqL.of (b2 _ _ hlp nlf)
  ·rintro i y σ H2 hy ⟨v2,cs,qs,rfl,b2,F2,pm,le⟩
   rw [List.getElem?_map] at hy
   obtain ⟨st,est,rfl⟩:=Option.map_eq_some_iff.mp hy
   have hst:=List.mem_of_getElem? est
   have W2:=W1.but b2 h1
   have spl:rgL ns ps ((srt ns).take (i+1))=rgL ns ps ((srt ns).take i)++srE ns ps st ([],st):=by
    unfold rgL rgs
    rw [List.take_add_one,est,List.flatMap_append]
    simp
    rfl
   have tot:cs.length+(srE ns ps st ([],st)).length<=(rgL ns ps (srt ns)).length:=by
    have e1:=pm.length_eq
    have e2:(rgL ns ps (srt ns)).length=(rgL ns ps ((srt ns).take (i+1))).length+(rgL ns ps ((srt ns).drop (i+1))).length:=by
     rw [<- List.length_append]
     congr 1
     unfold rgL rgs
     rw [<- List.flatMap_append,List.take_append_drop]
    rw [spl,List.length_append] at e2
    omega
   refine ⟨_,rfl,_,rfl,_,rfl,x,fo,st,ns,ps,cs,qs,rfl,W2,gW,(srt_perm ns).mem_iff.mp hst,F2.hfo,F2.hold,F2.eq,le,fun H3 over b3=>kX H3 (by omega) fun c u e=>b3 c u (b2 c u (s1 c u e) (ne_of_none e nfo)) (ne_of_none e nfo),fun ds qs' H3 le3 b3 hf3 hold3 eq3 pm3=>?_⟩
   exact ⟨_,cs++ds,qs',rfl,b2.trans b3,⟨hf3,hold3,eq3⟩,by rw [spl];exact pm.append pm3,by rw [List.length_append,pm3.length_eq];exact le3⟩
  ·rintro σ H2 ⟨v2,cs,qs,rfl,b2,F2,pm,le⟩
   rw [List.length_map,List.take_of_length_le (Nat.le_refl _)] at pm
   have el:=congrArg List.length F2.eq
   rw [List.length_map,List.length_map,pm.length_eq] at el
   refine ⟨_,rfl,fo,qs,rfl,SqL.of F2.hfo,F2.hold,fun q hq=>?_,by have:=pm.length_eq;omega,fun l qs' nl pq up=>?_⟩
   ·have:q.2∈cs.map (rI ps.length):=by rw [<- F2.eq];exact List.mem_map.mpr ⟨q,hq,rfl⟩
    obtain ⟨c,hc,e⟩:=List.mem_map.mp this
    obtain ⟨st,_,g⟩:=(rgs_mem LB).mp (pm.mem_iff.mp hc)
    rw [<- e]
    exact rI_ne g.kn g.cyc.ne
   ·have s2:Same H H2:=fun c u e=>b2 c u (s1 c u e) (ne_of_none e nfo)
    have s3:=same_upd (o:=.lst (qs'.map fun q=>V.ref q.1)) nl
    refine k l qs' _ (by rw [<- pm.length_eq];exact le) (s2.free nl) upd_same (fun q hq=>s3 _ _ (F2.hold q (pq.mem_iff.mp hq))) ?_ up (s2.trans s3)
    have p1:=pq.map (·.2)
    rw [F2.eq] at p1
    exact p1.trans (pm.map _)
end
abbrev sIR:Stmt:=top 32 -- _law_is_ring
theorem cut1 {xs:List V} (h:1<=xs.length):cutV xs (some 1) none=xs.drop 1:=by
 match xs,h with
 | x::ys,_ =>
  unfold cutV
  simp [HT.sIx]
def vO:Option Str->V
 | none=>.non
 | some z=>.str z
def tbR (ps:List (Str × Str)) (s:List Nat):List (Key × V):=s.map fun k=>(Sum.inr (aT ps k),V.str (bT ps k))
theorem tbR_val (ps:List (Str × Str)) (z:Str):∀ s:List Nat,valV (tbR ps s) (Sum.inr z:Key)=(fnd (aT ps) (bT ps) s z).map V.str
 | []=>rfl
 | k::s=>by
  show valV ((Sum.inr (aT ps k),V.str (bT ps k))::tbR ps s) _=_
  by_cases e:aT ps k=z
  ·rw [valV_pos (by rw [e])]
   unfold fnd
   rw [List.find?_cons,decide_eq_true e]
   rfl
  ·rw [valV_neg (fun q=>e (Sum.inr.inj q)),tbR_val ps z s]
   unfold fnd
   rw [List.find?_cons,decide_eq_false e]
theorem fnd_none {ps:List (Str × Str)} {s:List Nat} {z:Str}:fnd (aT ps) (bT ps) s z=none ↔ z ∉ s.map (aT ps):=by
 unfold fnd
 rw [Option.map_eq_none_iff,List.find?_eq_none]
 constructor
 ·intro h q
  obtain ⟨k,hk,e⟩:=List.mem_map.mp q
  exact h k hk (decide_eq_true e)
 ·intro h k hk q
  exact h (List.mem_map.mpr ⟨k,hk,of_decide_eq_true q⟩)
section
variable {P:Program} {w:World} {K:PySem.W.Frag} {mg:Str->Option Value} {base:Heap}
abbrev aIR:List Str:=["_law_ties","_law_some"]
def spIR:Sp:=fun vs H Q _=>∃ (lt t:Addr) (ts:List Addr) (ps:List (Str × Str)) (s:List Nat),vs=[.ref lt,.ref t]/\H lt=some (.lst (ts.map V.ref))/\TiesAt H ts ps/\H t=some (.tup (s.map fun (k:Nat)=>V.int (k:Int)))/\s≠[]/\s.length<=12/\(∀ k∈s,k < ps.length) /\
 ∀ H',Same H H'->Q (.bl (isR (aT ps) (bT ps) s)) H'
abbrev nIR:List Str:=["_law_ties","_law_some","_law_ahead","_law_k","_law_here","_law_turn"]
theorem scIR:FnScope nIR aIR (defScope sIR):=⟨rfl,rfl,rfl,by decide +kernel,rfl,by decide +kernel,by decide +kernel⟩
theorem ok_ir {f:Addr} {fd:FuncData} (F:Fun K "_law_is_ring" "_law_is_ring" sIR f fd) (T:Glb mg):FnOk P w K mg base CX0 1 f fd aIR spIR:=by
 refine F.ok scIR (fun vs H Q E h=>?_) (fun cdv A outer s H vs Q E hr h=>?_)
 ·obtain ⟨lt,t,ts,ps,s,rfl,_⟩:=h
  rfl
 ·obtain ⟨lt,t,ts,ps,s,rfl,hlt,hT,ht,ne,l12,hk,k⟩:=h
  have hu:=hu_of hr
  refine ⟨_,pss_cons (ps_set (i:=2) scIR.nd rfl (Or.inl rfl) pe_dnewK)
   (pss_cons (ps_for PassesOwn.never rfl (pi_tup (pv 1)) (pg_name (i:=3) scIR.nd rfl (Or.inl rfl))
    (pss_cons (ps_if (pt_cmp (pc_din hu (pe_ix ix_tup (pe_ix ix_list (pv 0) (pv 3) (fun _ _=>rfl)) pe_int (fun _ _=>rfl)) (pv 2))) (pss_one (ps_ret pe_bl)) pss_nil)
    (pss_one (ps_dput hu (pv 2) (pe_ix ix_tup (pe_ix ix_list (pv 0) (pv 3) (fun _ _=>rfl)) pe_int (fun _ _=>rfl)) (pe_ix ix_tup (pe_ix ix_list (pv 0) (pv 3) (fun _ _=>rfl)) pe_int (fun _ _=>rfl)) rfl))))
   (pss_cons (ps_set (i:=4) scIR.nd rfl (Or.inl rfl) (pe_ix ix_tup (pe_ix ix_list (pv 0) (pe_ix ix_tup (pv 1) pe_int (fun _ _=>rfl)) (fun _ _=>rfl)) pe_int (fun _ _=>rfl)))
   (pss_cons (ps_for PassesOwn.never rfl (pi_tup (pe_slice sl_tup (pv 1) (po_some pe_int) po_none)) (pg_name (i:=5) scIR.nd rfl (Or.inl rfl))
    (pss_cons (ps_set (i:=4) scIR.nd rfl (Or.inl rfl) (pe_dget1N hu (pv 2) (pv 4) ⟨rfl,rfl,rfl,rfl⟩))
    (pss_one (ps_if (pt_cmpR op_eq (pv 4) (pe_ix ix_tup (pe_ix ix_list (pv 0) (pe_ix ix_tup (pv 1) pe_int (fun _ _=>rfl)) (fun _ _=>rfl)) pe_int (fun _ _=>rfl)) (nomark _)) (pss_one (ps_ret pe_bl)) pss_nil))))
   (pss_one (ps_ret (pe_cmpR op_eq (pe_dget1N hu (pv 2) (pv 4) ⟨rfl,rfl,rfl,rfl⟩) (pe_ix ix_tup (pe_ix ix_list (pv 0) (pe_ix ix_tup (pv 1) pe_int (fun _ _=>rfl)) (fun _ _=>rfl)) pe_int (fun _ _=>rfl)) (nomark _))))))),?_⟩
  have tie:∀ k∈s,∃ u,ts[k]?=some u/\H u=some (.tup [.str (aT ps k),.str (bT ps k)]):=fun k hks=>by
   have hl:k < ts.length:=by rw [hT.len];exact hk k hks
   have e:=List.getElem?_eq_getElem hl
   obtain ⟨p,ep,hp⟩:=hT.get e
   exact ⟨_,e,by rw [aT_at ep,bT_at ep];exact hp⟩
  have gets:∀ k∈s,∃ u,atI (ts.map V.ref) ((k:Nat):Int)=some (.ref u)/\H u=some (.tup [.str (aT ps k),.str (bT ps k)]):=fun k hks=>by
   obtain ⟨u,e,h⟩:=tie k hks
   exact ⟨u,atI_nat (by rw [List.getElem?_map,e];rfl),h⟩
  obtain ⟨k0,r,rfl⟩:∃ k0 r,s=k0::r:=by
   cases s with
   | nil=>exact absurd rfl ne
   | cons a b=>exact ⟨a,b,rfl⟩
  obtain ⟨u0,g0,hu0⟩:=gets k0 List.mem_cons_self
  refine fun d nd=>?_
  have sd:=same_upd (o:=.dK []) nd
  have hd:=upd_same (H:=H) (a:=d) (o:=.dK [])
  generalize upd H d (.dK [])=H0 at sd hd ⊢
  refine ⟨_,rfl,t,rfl,⟨_,SqT.of (sd _ _ ht)⟩,?_⟩
  refine for_tup (K:=K) (xs:=(k0::r).map fun (k:Nat)=>V.int (k:Int)) (fun i σ H2=>∃ v3 v4 v5,σ=[some (.ref lt),some (.ref t),some (.ref d),v3,v4,v5]/\Same H H2/\H2 d=some (.dK (tbR ps ((k0::r).take i)))/\(((k0::r).take i).map (aT ps)).Nodup) ⟨_,_,_,rfl,sd,hd,List.nodup_nil⟩ ?_ ?_ ?_
  ·rintro i σ H2 _ ⟨_,_,_,rfl,s2,_⟩
   exact SqT.of (s2 _ _ ht)
  ·rintro i y σ H2 hy ⟨v3,v4,v5,rfl,s2,hd2,nd2⟩
   rw [List.getElem?_map] at hy
   obtain ⟨n,en,rfl⟩:=Option.map_eq_some_iff.mp hy
   have hn:=List.mem_of_getElem? en
   obtain ⟨u,gu,hu'⟩:=gets n hn
   have etk:(k0::r).take (i+1)=(k0::r).take i++[n]:=by rw [List.take_add_one,en];rfl
   refine ⟨_,rfl,_,rfl,lt,_,_,_,rfl,rfl,SqL.of (s2 _ _ hlt),gu,u,_,_,_,rfl,rfl,SqT.of (s2 _ _ hu'),atI_nat (j:=0) rfl,_,rfl,d,_,rfl,DGet.k (k:=Sum.inr (aT ps n)) hd2,_,rfl,?_⟩
   rw [tbR_val]
   by_cases c:aT ps n∈((k0::r).take i).map (aT ps)
   ·have:(fnd (aT ps) (bT ps) ((k0::r).take i) (aT ps n)).map V.str≠none:=fun e=>(fnd_none.mp (Option.map_eq_none_iff.mp e)) c
    have e2:((fnd (aT ps) (bT ps) ((k0::r).take i) (aT ps n)).map V.str).isSome=true:=by rw [Option.isSome_iff_ne_none];exact this
    rw [e2]
    refine iteT ?_
    have e3:false=isR (aT ps) (bT ps) (k0::r):=by
     have:¬ ((k0::r).map (aT ps)).Nodup:=fun q=>by
      rw [<- List.take_append_drop (i+1) (k0::r),etk,List.map_append,List.map_append] at q
      have:=(List.nodup_append.mp (List.nodup_append.mp q).1).2.2 _ c _ (List.mem_singleton.mpr rfl)
      exact this rfl
     rw [show isR (aT ps) (bT ps) (k0::r)=(decide (((k0::r).map (aT ps)).Nodup) && wlk (fnd (aT ps) (bT ps) (k0::r)) (aT ps k0) r.length (some (aT ps k0))) from rfl,decide_eq_false this]
     rfl
    rw [e3]
    exact k _ s2
   ·have e2:=fnd_none.mpr c
    rw [e2]
    refine iteF ?_
    refine ⟨_,rfl,_,rfl,lt,_,_,_,rfl,rfl,SqL.of (s2 _ _ hlt),gu,u,_,_,_,rfl,rfl,SqT.of (s2 _ _ hu'),atI_nat (j:=1) rfl,_,rfl,_,rfl,_,rfl,lt,_,_,_,rfl,rfl,SqL.of (s2 _ _ hlt),gu,u,_,_,_,rfl,rfl,SqT.of (s2 _ _ hu'),atI_nat (j:=0) rfl,d,_,rfl,DPut.k (k:=Sum.inr (aT ps n)) hd2 ?_,?_⟩
    ·simp only [tbR,List.length_map,List.length_take]
     exact small1000 (by omega)
    ·rw [putK_new _ (by rw [tbR_val,e2];rfl)]
     refine ⟨_,_,_,rfl,Same.upd_new s2 nd,?_,?_⟩
     ·rw [upd_same,etk];simp [tbR]
     ·rw [etk,List.map_append,List.nodup_append]
      refine ⟨nd2,by simp,fun a ha b hb q=>c ?_⟩
      rw [<- List.mem_singleton.mp hb,<- q];exact ha
  rintro σ H2 ⟨v3,v4,v5,rfl,s2,hd2,nd2⟩
  rw [List.length_map,List.take_of_length_le (Nat.le_refl _)] at hd2 nd2
  have a00:atI ((k0::r).map fun (k:Nat)=>V.int (k:Int)) 0=some (.int (k0:Int)):=atI_nat (j:=0) rfl
  refine ⟨_,rfl,_,rfl,t,_,_,_,rfl,rfl,SqT.of (s2 _ _ ht),a00,lt,_,_,_,rfl,rfl,SqL.of (s2 _ _ hlt),g0,u0,_,_,_,rfl,rfl,SqT.of (s2 _ _ hu0),atI_nat (j:=0) rfl,?_⟩
  have tst:∀ h:Option Str,decide (vO h=V.str (aT ps k0))=decide (h=some (aT ps k0)):=fun h=>by
   cases h with
   | none=>rw [decide_eq_false (by intro z;cases z),decide_eq_false (by intro z;cases z)]
   | some z =>
    by_cases e:z=aT ps k0
    ·rw [decide_eq_true (by rw [e];rfl),decide_eq_true (by rw [e])]
    ·rw [decide_eq_false (show ¬ vO (some z)=V.str (aT ps k0) from fun q=>e (V.str.inj q)),decide_eq_false (fun q=>e (Option.some.inj q))]
  have scl:∀ h:Option Str,scal (vO h) (V.str (aT ps k0))=true:=fun h=>by cases h<;>rfl
  have dg:∀ (H3:Hp) (h:Option Str),H3 d=some (.dK (tbR ps (k0::r)))->DGetN H3 d (vO h) ((h.bind (fnd (aT ps) (bT ps) (k0::r))).map V.str):=fun H3 h e=>by
   cases h with
   | none=>exact .inr ⟨rfl,rfl,_,.inl e⟩
   | some z =>
    refine .inl ?_
    rw [Option.bind_some,<- tbR_val]
    exact DGet.k (k:=Sum.inr z) e
  have vom:∀ h:Option Str,(h.map V.str).getD .non=vO h:=fun h=>by cases h<;>rfl
  have isw:isR (aT ps) (bT ps) (k0::r)=wlk (fnd (aT ps) (bT ps) (k0::r)) (aT ps k0) r.length (some (aT ps k0)):=by
   rw [show isR (aT ps) (bT ps) (k0::r)=(decide (((k0::r).map (aT ps)).Nodup) && wlk (fnd (aT ps) (bT ps) (k0::r)) (aT ps k0) r.length (some (aT ps k0))) from rfl,decide_eq_true nd2]
   rfl
  refine ⟨_,rfl,_,rfl,t,_,rfl,SqT.of (s2 _ _ ht),?_,fun tl ntl=>?_⟩
  ·rintro ⟨h1,_⟩
   simp [HT.sIx] at h1
  rw [cut1 (by simp)]
  have stl:=same_upd (o:=.tup (((k0::r).map fun (k:Nat)=>V.int (k:Int)).drop 1)) ntl
  have htl:upd H2 tl (.tup (((k0::r).map fun (k:Nat)=>V.int (k:Int)).drop 1)) tl=some (.tup (r.map fun (k:Nat)=>V.int (k:Int))):=by rw [upd_same];rfl
  generalize upd H2 tl (.tup (((k0::r).map fun (k:Nat)=>V.int (k:Int)).drop 1))=H3 at stl htl ⊢
  have s3:=s2.trans stl
  have hd3:=stl _ _ hd2
  refine ⟨tl,rfl,⟨_,SqT.of htl⟩,?_⟩
  refine for_tup (K:=K) (xs:=r.map fun (k:Nat)=>V.int (k:Int)) (fun i σ H4=>∃ (v3 v5:Option V) (h:Option Str),H4=H3/\σ=[some (.ref lt),some (.ref t),some (.ref d),v3,some (vO h),v5]/\wlk (fnd (aT ps) (bT ps) (k0::r)) (aT ps k0) (r.length - i) h=isR (aT ps) (bT ps) (k0::r)) ⟨_,_,some (aT ps k0),rfl,rfl,isw.symm⟩ ?_ ?_ ?_
  ·rintro i σ H4 _ ⟨_,_,_,rfl,_⟩
   exact SqT.of htl
  ·rintro i y σ H4 hy ⟨v3,v5,h,rfl,rfl,wk⟩
   have hi:=(List.getElem?_eq_some_iff.mp hy).1
   rw [List.length_map] at hi
   have er:r.length - i=(r.length - (i+1))+1:=by omega
   rw [er,wlk] at wk
   refine ⟨_,rfl,d,rfl,.inl ⟨_,.inl hd3⟩,_,rfl,_,dg H4 h hd3,?_⟩
   rw [vom]
   generalize h.bind (fnd (aT ps) (bT ps) (k0::r))=h' at wk ⊢
   refine ⟨_,rfl,_,rfl,_,rfl,t,_,_,_,rfl,rfl,SqT.of (s3 _ _ ht),a00,lt,_,_,_,rfl,rfl,SqL.of (s3 _ _ hlt),g0,u0,_,_,_,rfl,rfl,SqT.of (s3 _ _ hu0),atI_nat (j:=0) rfl,scl h',_,rfl,?_⟩
   rw [tst]
   by_cases c:h'=some (aT ps k0)
   ·rw [decide_eq_true c]
    rw [if_pos c] at wk
    refine iteT ?_
    rw [wk]
    exact k _ s3
   ·rw [decide_eq_false c]
    rw [if_neg c] at wk
    exact iteF ⟨_,_,h',rfl,rfl,wk⟩
  ·rintro σ H4 ⟨v3,v5,h,rfl,rfl,wk⟩
   rw [List.length_map,Nat.sub_self,wlk] at wk
   refine ⟨_,rfl,d,rfl,.inl ⟨_,.inl hd3⟩,_,rfl,_,dg H4 h hd3,?_⟩
   rw [vom]
   refine ⟨_,rfl,_,rfl,t,_,_,_,rfl,rfl,SqT.of (s3 _ _ ht),a00,lt,_,_,_,rfl,rfl,SqL.of (s3 _ _ hlt),g0,u0,_,_,_,rfl,rfl,SqT.of (s3 _ _ hu0),atI_nat (j:=0) rfl,scl _,?_⟩
   rw [tst,wk]
   exact k _ s3
end
end K75
namespace L5
open PySem L3
def adv (m:Nat) (p:Probe):Probe :=
 if p.more > 0 then { p with j:=p.j+1,more:=p.more - 1 } else
 let (i,perturb):=SetTable.leap m p.i p.perturb
 { p with j:=i,more:=SetTable.runEnd m i - i,i,perturb }
def start (m:Nat) (h:Int):Probe:={ j:=SetTable.bits h % (m+1),more:=SetTable.runEnd m (SetTable.bits h % (m+1)) - SetTable.bits h % (m+1),i:=SetTable.bits h % (m+1),perturb:=SetTable.bits h,dummy:=none }
def st (m:Nat) (h:Int):Nat->Probe
 | 0=>start m h
 | k+1=>adv m (st m h k)
def sl (m:Nat) (h:Int) (k:Nat):Nat:=(st m h k).j
theorem adv_dummy (m:Nat) (p:Probe) (h:p.dummy=none):(adv m p).dummy=none:=by
 unfold adv;split<;>exact h
theorem st_dummy (m:Nat) (h:Int):∀ k,(st m h k).dummy=none
 | 0=>rfl
 | k+1=>adv_dummy m _ (st_dummy m h k)
def lp (m:Nat) (h:Int):Nat->Nat × Nat
 | 0=>(SetTable.bits h % (m+1),SetTable.bits h)
 | k+1=>SetTable.leap m (lp m h k).1 (lp m h k).2
def at_ (m:Nat) (h:Int) (L r:Nat):Probe:={ j:=(lp m h L).1+r,more:=SetTable.runEnd m (lp m h L).1 - (lp m h L).1 - r,i:=(lp m h L).1,perturb:=(lp m h L).2,dummy:=none }
def run (m:Nat) (h:Int) (L:Nat):Nat:=SetTable.runEnd m (lp m h L).1 - (lp m h L).1
theorem run_le (m:Nat) (h:Int) (L:Nat):run m h L<=9:=by unfold run SetTable.runEnd;split<;>omega
def off (m:Nat) (h:Int):Nat->Nat
 | 0=>0
 | L+1=>off m h L+run m h L+1
theorem off_le (m:Nat) (h:Int):∀ L,off m h L<=10 * L
 | 0=>Nat.le_refl _
 | L+1=>by have:=off_le m h L;have:=run_le m h L;unfold off;omega
theorem st_off (m:Nat) (h:Int):∀ (L r:Nat),r<=run m h L->st m h (off m h L+r)=at_ m h L r
 | 0,0,_=>by simp [off,st,start,at_,lp]
 | L+1,0,_=>by
  show adv m (st m h (off m h L+run m h L))=_
  rw [st_off m h L (run m h L) (Nat.le_refl _)]
  unfold adv at_
  rw [if_neg (by unfold run;simp)]
  simp [lp]
 | L,r+1,hr=>by
  show adv m (st m h (off m h L+r))=_
  rw [st_off m h L r (by omega)]
  unfold adv at_
  rw [if_pos (by unfold run at hr;simp;omega)]
  simp
  omega
theorem sl_off {m:Nat} {h:Int} {L r:Nat} (hr:r<=run m h L):sl m h (off m h L+r)=(lp m h L).1+r:=by unfold sl;rw [st_off m h L r hr];rfl
theorem bits_lt (h:Int):SetTable.bits h < 2 ^ 64:=by
 unfold SetTable.bits
 have a:=Int.emod_nonneg h (show (2 ^ 64:Int)≠0 by decide)
 have b:=Int.emod_lt_of_pos h (show (0:Int) < 2 ^ 64 by decide)
 omega
theorem lp_per (m:Nat) (h:Int):∀ k,(lp m h k).2=SetTable.bits h / 32 ^ k
 | 0=>by simp [lp]
 | k+1=>by
  show (lp m h k).2 / 32=_
  rw [lp_per m h k,Nat.div_div_eq_div_mul,Nat.pow_succ]
theorem lp_zero (m:Nat) (h:Int) (k:Nat):(lp m h (13+k)).2=0:=by
 rw [lp_per]
 refine Nat.div_eq_of_lt (Nat.lt_of_lt_of_le (bits_lt h) ?_)
 rw [Nat.pow_add]
 exact Nat.le_trans (by decide:2 ^ 64<=32 ^ 13) (Nat.le_mul_of_pos_right _ (Nat.pow_pos (by decide)))
theorem lp_lt (m:Nat) (h:Int):∀ k,(lp m h k).1 < m+1
 | 0=>Nat.mod_lt _ (Nat.succ_pos _)
 | k+1=>Nat.mod_lt _ (Nat.succ_pos _)
def it (m:Nat) (i:Nat):Nat->Nat
 | 0=>i
 | k+1=>(it m i k * 5+1) % (m+1)
theorem lp_it (m:Nat) (h:Int):∀ k,(lp m h (13+k)).1=it m (lp m h 13).1 k
 | 0=>rfl
 | k+1=>by
  show (SetTable.leap m (lp m h (13+k)).1 (lp m h (13+k)).2).1=_
  have z:(lp m h (13+k)).2 / 32=0:=by rw [lp_zero]
  unfold SetTable.leap
  rw [z,lp_it m h k]
  rfl
def Msk (m:Nat):Prop:=m=7\/m=31\/m=127\/m=511\/m=2047
def obt (m:Nat):Nat->Nat->Nat
 | 0,_=>0
 | n+1,x=>2 ^ x ||| obt m n ((x * 5+1) % (m+1))
theorem it_succ (m:Nat):∀ (k x:Nat),it m x (k+1)=it m ((x * 5+1) % (m+1)) k
 | 0,x=>rfl
 | k+1,x=>by
  show (it m x (k+1) * 5+1) % (m+1)=_
  rw [it_succ m k x]
  rfl
theorem obt_at (m:Nat):∀ (n x j:Nat),(obt m n x).testBit j=true->∃ k,k < n/\it m x k=j
 | 0,x,j,h=>by simp [obt] at h
 | n+1,x,j,h=>by
  rw [obt,Nat.testBit_or,Bool.or_eq_true] at h
  rcases h with h | h
  ·rw [Nat.testBit_two_pow] at h
   exact ⟨0,Nat.succ_pos _,of_decide_eq_true h⟩
  ·obtain ⟨k,hk,e⟩:=obt_at m n _ j h
   exact ⟨k+1,Nat.succ_lt_succ hk,by rw [it_succ];exact e⟩
theorem it_add (m:Nat):∀ (a b x:Nat),it m x (a+b)=it m (it m x a) b
 | a,0,x=>rfl
 | a,b+1,x=>by
  show (it m x (a+b) * 5+1) % (m+1)=_
  rw [it_add m a b x]
  rfl
theorem obt_full {m:Nat} (hm:Msk m):obt m (m+1) 0=2 ^ (m+1) - 1:=by
 rcases hm with rfl | rfl | rfl | rfl | rfl<;>decide +kernel
theorem it_round {m:Nat} (hm:Msk m):it m 0 (m+1)=0:=by
 rcases hm with rfl | rfl | rfl | rfl | rfl<;>decide +kernel
theorem it_from {m:Nat} (hm:Msk m) {j:Nat} (hj:j<=m):∃ k,k < m+1/\it m 0 k=j:=by
 refine obt_at m (m+1) 0 j ?_
 rw [obt_full hm,Nat.testBit_two_pow_sub_one]
 exact decide_eq_true (by omega)
theorem leaps {m:Nat} (hm:Msk m) (h:Int) {j:Nat} (hj:j<=m):∃ L,L < m+15/\(lp m h L).1=j:=by
 have i:=lp_lt m h 13
 obtain ⟨a,ha,ea⟩:=it_from hm (show (lp m h 13).1<=m by omega)
 obtain ⟨b,hb,eb⟩:=it_from hm hj
 by_cases q:a<=b
 ·refine ⟨13+(b - a),by omega,?_⟩
  rw [lp_it,<- ea,<- it_add,show a+(b - a)=b by omega,eb]
 ·refine ⟨13+((m+1 - a)+b),by omega,?_⟩
  rw [lp_it,<- ea,it_add m (m+1 - a) b,<- it_add m a (m+1 - a),show a+(m+1 - a)=m+1 by omega,it_round hm,eb]
theorem cover {m:Nat} (hm:Msk m) (h:Int) {j:Nat} (hj:j<=m):∃ k,k < 10 * SetTable.turns m/\sl m h k=j:=by
 obtain ⟨L,hL,e⟩:=leaps hm h hj
 refine ⟨off m h L+0,?_,by rw [sl_off (Nat.zero_le _)];exact e⟩
 have:=off_le m h L
 unfold SetTable.turns
 omega
theorem least {P:Nat->Prop}:∀ n,P n->∃ m,m<=n/\P m/\∀ k,k < m->¬ P k:=by
 intro n
 induction n using Nat.strongRecOn with
 | ind n ih =>
  intro h
  by_cases q:∃ k,k < n/\P k
  ·obtain ⟨k,hk,pk⟩:=q
   obtain ⟨m,a,b,c⟩:=ih k hk pk
   exact ⟨m,by omega,b,c⟩
  ·exact ⟨n,Nat.le_refl _,h,fun k hk pk=>q ⟨k,hk,pk⟩⟩
theorem nd_len {α:Type} [DecidableEq α]:∀ {l m:List α},l.Nodup->(∀ x∈l,x∈m)->l.length<=m.length
 | [],m,_,_=>Nat.zero_le _
 | x::l,m,h,k=>by
  obtain ⟨h1,h2⟩:=List.nodup_cons.mp h
  have mx:=k x List.mem_cons_self
  have:=nd_len (m:=m.erase x) h2 fun y hy=>(List.mem_erase_of_ne (a:=y) (b:=x) (fun e=>h1 (by rw [<- e];exact hy))).mpr (k y (List.mem_cons_of_mem _ hy))
  rw [List.length_erase_of_mem mx] at this
  have pos:=List.length_pos_of_mem mx
  rw [List.length_cons]
  omega
theorem ins_get {α:Type} (xs:Array α) {p:Nat} (hp:p<=xs.size) (x:α) (i:Nat):(SetTable.insertAt xs p x)[i]?=if i < p then xs[i]? else if i=p then some x else xs[i - 1]?:=by
 rw [<- Array.getElem?_toList,SetTable.toList_insertAt]
 have lt:(xs.toList.take p).length=p:=by rw [List.length_take];simp;omega
 by_cases h:i < p
 ·rw [if_pos h,List.getElem?_append_left (by omega),List.getElem?_take,if_pos h,Array.getElem?_toList]
 ·rw [if_neg h,List.getElem?_append_right (by omega),lt]
  by_cases e:i=p
  ·subst e;simp
  ·rw [if_neg e]
   obtain ⟨d,rfl⟩:∃ d,i=p+1+d:=⟨i - (p+1),by omega⟩
   rw [show p+1+d - p=d+1 by omega,List.getElem?_cons_succ,List.getElem?_drop,Array.getElem?_toList]
   congr 1
   omega
structure Tab (t:SetTable) (es:Array (Int × Value)):Prop where
 rise:Rising t.place
 size:t.place.size=es.size
 nod:t.dummies=#[]
 msk:Msk t.mask
 le:∀ i j:Nat,t.place[i]?=some j->j<=t.mask
 few:es.size<=t.mask
 wp:∀ (i j:Nat) (e:Int × Value),t.place[i]?=some j->es[i]?=some e->∃ k,k < 10 * SetTable.turns t.mask/\sl t.mask e.1 k=j/\∀ k',k' < k->∃ i':Nat,t.place[i']?=some (sl t.mask e.1 k')
theorem Tab.fits {t:SetTable} {es:Array (Int × Value)} (T:Tab t es):t.fits es.size=true:=by
 unfold SetTable.fits SetTable.fill
 rw [T.size,T.nod]
 have:=T.few
 simp
 omega
theorem Tab.gave {t:SetTable} {es:Array (Int × Value)} (T:Tab t es):t.gaveWay=false:=by
 unfold SetTable.gaveWay
 rcases T.msk with e | e | e | e | e<;>rw [e]<;>rfl
theorem Tab.free {t:SetTable} {es:Array (Int × Value)} (T:Tab t es):∃ j,j<=t.mask/\∀ i:Nat,t.place[i]?≠some j:=by
 refine Classical.byContradiction fun no=>?_
 have all:∀ j,j<=t.mask->∃ i:Nat,t.place[i]?=some j:=fun j hj=>Classical.byContradiction fun q=>no ⟨j,hj,fun i e=>q ⟨i,e⟩⟩
 have l:=nd_len (l:=List.range (t.mask+1)) (m:=t.place.toList) List.nodup_range fun j hj=>by
  obtain ⟨i,e⟩:=all j (by have:=List.mem_range.mp hj;omega)
  rw [<- Array.getElem?_toList] at e
  exact List.mem_of_getElem? e
 rw [List.length_range,Array.length_toList,T.size] at l
 have:=T.few
 omega
theorem Tab.first {t:SetTable} {es:Array (Int × Value)} (T:Tab t es) (h:Int):∃ K,K < 10 * SetTable.turns t.mask/\(∀ i:Nat,t.place[i]?≠some (sl t.mask h K))/\∀ k,k < K->∃ i:Nat,t.place[i]?=some (sl t.mask h k):=by
 obtain ⟨j,hj,e⟩:=T.free
 obtain ⟨k,hk,es⟩:=cover T.msk h hj
 obtain ⟨K,a,b,c⟩:=least (P:=fun k=>∀ i:Nat,t.place[i]?≠some (sl t.mask h k)) k (by rw [es];exact e)
 exact ⟨K,by omega,b,fun k' hk'=>Classical.byContradiction fun q=>c k' hk' fun i e=>q ⟨i,e⟩⟩
theorem go_spec {t : SetTable} {es : Array (Int × Value)} (T : Tab t es) (hashAt : Nat → Int) (h : Int) : ∀ (f k : Nat), (∃ K, k ≤ K ∧ K < k + f ∧ ∀ i : Nat, t.place[i]? ≠ some (sl t.mask h K)) →
    ∃ n, k ≤ n ∧ (∀ k', k ≤ k' → k' < n → ∃ i : Nat, t.place[i]? = some (sl t.mask h k') ∧ (hashAt i == h) = false) ∧
      (((∀ i : Nat, t.place[i]? ≠ some (sl t.mask h n)) ∧ SetTable.probe.go t hashAt h f (st t.mask h k) = some (.empty (sl t.mask h n) none)) ∨
       ∃ i : Nat, t.place[i]? = some (sl t.mask h n) ∧ (hashAt i == h) = true ∧ SetTable.probe.go t hashAt h f (st t.mask h k) = some (.candidate (sl t.mask h n) i (st t.mask h (n + 1))))
  | 0, k, ⟨K, a, b, _⟩ => by omega
  | f + 1, k, ⟨K, a, b, c⟩ => by
    have ej : (st t.mask h k).j = sl t.mask h k := rfl
    by_cases em : ∃ i : Nat, t.place[i]? = some (sl t.mask h k)
    · obtain ⟨i, ei⟩ := em
      cases hh : hashAt i == h with
      | true =>
        refine ⟨k, Nat.le_refl _, fun k' x y => by omega, .inr ⟨i, ei, hh, ?_⟩⟩
        rw [SetTable.probe.go, ej, slot_live T.rise ei]
        dsimp only
        rw [hh]
        rfl
      | false =>
        have ne : k ≠ K := fun e => c i (e ▸ ei)
        obtain ⟨n, n1, n2, n3⟩ := go_spec T hashAt h f (k + 1) ⟨K, by omega, by omega, c⟩
        have e : SetTable.probe.go t hashAt h (f + 1) (st t.mask h k) = SetTable.probe.go t hashAt h f (st t.mask h (k + 1)) := by
          rw [SetTable.probe.go, ej, slot_live T.rise ei]
          dsimp only
          rw [hh]
          rfl
        rw [e]
        refine ⟨n, by omega, fun k' x y => ?_, n3⟩
        by_cases q : k' = k
        · subst q; exact ⟨i, ei, hh⟩
        · exact n2 k' (by omega) y
    · refine ⟨k, Nat.le_refl _, fun k' x y => by omega, .inl ⟨fun i e => em ⟨i, e⟩, ?_⟩⟩
      rw [SetTable.probe.go, ej, slot_empty T.nod (fun i e => em ⟨i, e⟩)]
      dsimp only
      rw [st_dummy]
theorem Tab.put {t:SetTable} {es:Array (Int × Value)} (T:Tab t es) {h:Int} {x:Value} {K:Nat} (room:es.size+1<=t.mask) (hK:K < 10 * SetTable.turns t.mask) (hj:∀ i:Nat,t.place[i]?≠some (sl t.mask h K)) (hb:∀ k,k < K->∃ i:Nat,t.place[i]?=some (sl t.mask h k)) (sle:sl t.mask h K<=t.mask) :
  Tab (t.put (sl t.mask h K)).1 (SetTable.insertAt es (t.put (sl t.mask h K)).2 (h,x)):=by
 obtain ⟨b1,b2,b3⟩:=below_is T.rise (sl t.mask h K)
 have ep:(t.put (sl t.mask h K)).2=SetTable.below t.place (sl t.mask h K):=rfl
 have em:(t.put (sl t.mask h K)).1.mask=t.mask:=rfl
 have epl:(t.put (sl t.mask h K)).1.place=SetTable.insertAt t.place (SetTable.below t.place (sl t.mask h K)) (sl t.mask h K):=rfl
 have ed:(t.put (sl t.mask h K)).1.dummies=#[]:=by
  show (if SetTable.has t.dummies (sl t.mask h K) then _ else t.dummies)=#[]
  have e:SetTable.has t.dummies (sl t.mask h K)=false:=by rw [T.nod];rfl
  rw [e]
  exact T.nod
 rw [ep]
 generalize hp:SetTable.below t.place (sl t.mask h K)=p at b1 b2 b3 epl ⊢
 generalize (t.put (sl t.mask h K)).1=t' at em epl ed ⊢
 have size':∀ {α:Type} (xs:Array α) (x:α),(SetTable.insertAt xs p x).size=xs.size+1:=fun xs x=>by
  rw [<- Array.length_toList,(SetTable.insertAt_perm xs p x).length_eq];simp
 have pe:p<=es.size:=by rw [<- T.size];exact b1
 have get':∀ i:Nat,t'.place[i]?=if i < p then t.place[i]? else if i=p then some (sl t.mask h K) else t.place[i - 1]?:=fun i=>by rw [epl,ins_get _ b1]
 have gete:∀ i:Nat,(SetTable.insertAt es p (h,x))[i]?=if i < p then es[i]? else if i=p then some (h,x) else es[i - 1]?:=fun i=>ins_get _ pe _ i
 have up:∀ {s:Nat},(∃ i:Nat,t.place[i]?=some s)->∃ i:Nat,t'.place[i]?=some s:=fun {s} ⟨i,e⟩=>by
  by_cases q:i < p
  ·exact ⟨i,by rw [get',if_pos q];exact e⟩
  ·exact ⟨i+1,by rw [get',if_neg (by omega),if_neg (by omega),Nat.add_sub_cancel];exact e⟩
 refine ⟨fun i j hi hj' ij=>?_,by rw [epl,size',size',T.size],ed,by rw [em];exact T.msk,fun i j e=>?_,by rw [em,size'];exact room,fun i j e e1 e2=>?_⟩
 ·have g1:=get' i
  have g2:=get' j
  rw [Array.getElem?_eq_getElem hi] at g1
  rw [Array.getElem?_eq_getElem hj'] at g2
  have sz:t'.place.size=t.place.size+1:=by rw [epl,size']
  have lo:∀ a (ha:a < t.place.size),a < p->t.place[a] < sl t.mask h K:=fun a ha q=>b2 a ha q
  have hi':∀ a (ha:a < t.place.size),p<=a->sl t.mask h K < t.place[a]:=fun a ha q=>by
   have:=b3 a ha q
   have ne:t.place[a]≠sl t.mask h K:=fun e=>hj a (by rw [Array.getElem?_eq_getElem ha,e])
   omega
  by_cases c1:i < p
  ·rw [if_pos c1,Array.getElem?_eq_getElem (show i < t.place.size by omega)] at g1
   have v1:=Option.some.inj g1
   rw [v1]
   by_cases c2:j < p
   ·rw [if_pos c2,Array.getElem?_eq_getElem (show j < t.place.size by omega)] at g2
    rw [Option.some.inj g2];exact T.rise _ _ _ _ ij
   ·rw [if_neg c2] at g2
    by_cases c3:j=p
    ·rw [if_pos c3] at g2;rw [Option.some.inj g2];exact lo i _ c1
    ·rw [if_neg c3,Array.getElem?_eq_getElem (show j - 1 < t.place.size by omega)] at g2
     rw [Option.some.inj g2];exact Nat.lt_trans (lo i _ c1) (hi' (j - 1) _ (by omega))
  ·rw [if_neg c1] at g1
   rw [if_neg (show ¬ j < p by omega),if_neg (show j≠p by omega),Array.getElem?_eq_getElem (show j - 1 < t.place.size by omega)] at g2
   rw [Option.some.inj g2]
   by_cases c3:i=p
   ·rw [if_pos c3] at g1;rw [Option.some.inj g1];exact hi' (j - 1) _ (by omega)
   ·rw [if_neg c3,Array.getElem?_eq_getElem (show i - 1 < t.place.size by omega)] at g1
    rw [Option.some.inj g1];exact T.rise _ _ _ _ (by omega)
 ·rw [get'] at e
  rw [em]
  split at e
  ·exact T.le _ _ e
  ·split at e
   ·cases e;exact sle
   ·exact T.le _ _ e
 ·rw [get'] at e1
  rw [gete] at e2
  rw [em]
  have old:∀ {i:Nat},t.place[i]?=some j->es[i]?=some e->∃ k,k < 10 * SetTable.turns t.mask/\sl t.mask e.1 k=j/\∀ k',k' < k->∃ i':Nat,t'.place[i']?=some (sl t.mask e.1 k'):=fun {i} a b=>by
   obtain ⟨k,x1,x2,x3⟩:=T.wp i j e a b
   exact ⟨k,x1,x2,fun k' hk'=>up (x3 k' hk')⟩
  split at e1
  ·rename_i c;rw [if_pos c] at e2;exact old e1 e2
  ·rename_i c
   rw [if_neg c] at e2
   split at e1
   ·rename_i c2
    rw [if_pos c2] at e2
    cases e1;cases e2
    exact ⟨K,hK,rfl,fun k' hk'=>up (hb k' hk')⟩
   ·rename_i c2;rw [if_neg c2] at e2;exact old e1 e2
theorem runEnd_le {m i:Nat} (h:i<=m):SetTable.runEnd m i<=m:=by unfold SetTable.runEnd;split<;>omega
theorem runEnd_ge (m i:Nat):i<=SetTable.runEnd m i:=by unfold SetTable.runEnd;split<;>omega
theorem st_le (m:Nat) (h:Int):∀ k,(st m h k).j+(st m h k).more<=m
 | 0=>by
  have a:SetTable.bits h % (m+1)<=m:=Nat.le_of_lt_succ (Nat.mod_lt _ (Nat.succ_pos m))
  have b:=runEnd_le a
  have c:=runEnd_ge m (SetTable.bits h % (m+1))
  show SetTable.bits h % (m+1)+(SetTable.runEnd m (SetTable.bits h % (m+1)) - SetTable.bits h % (m+1))<=m
  omega
 | k+1=>by
  have ih:=st_le m h k
  show (adv m (st m h k)).j+(adv m (st m h k)).more<=m
  unfold adv
  split
  ·dsimp only;omega
  ·have a:(SetTable.leap m (st m h k).i (st m h k).perturb).1<=m:=Nat.le_of_lt_succ (Nat.mod_lt _ (Nat.succ_pos m))
   have b:=runEnd_le a
   have c:=runEnd_ge m (SetTable.leap m (st m h k).i (st m h k).perturb).1
   dsimp only
   omega
theorem sl_le (m:Nat) (h:Int) (k:Nat):sl m h k<=m:=by have:=st_le m h k;unfold sl;omega
structure Own (m:Nat) (hs:List Int) (ow:Array (Option Nat)):Prop where
 size:ow.size=m+1
 has:∀ a,a < hs.length->∃ j:Nat,ow[j]?=some (some a)
 lt:∀ (j a:Nat),ow[j]?=some (some a)->a < hs.length
 inj:∀ (i j a:Nat),ow[i]?=some (some a)->ow[j]?=some (some a)->i=j
 wp:∀ (j a:Nat) (h:Int),ow[j]?=some (some a)->hs[a]?=some h->∃ k,k < 10 * SetTable.turns m/\sl m h k=j/\∀ k',k' < k->∃ b:Nat,ow[sl m h k']?=some (some b)
theorem own_get {m:Nat} {hs:List Int} {ow:Array (Option Nat)} (O:Own m hs ow) {j:Nat} (h:j<=m):ow[j]?=some none\/∃ a,ow[j]?=some (some a):=by
 have hj:j < ow.size:=by rw [O.size];omega
 rw [Array.getElem?_eq_getElem hj]
 cases e:ow[j] with
 | none=>exact .inl rfl
 | some a=>exact .inr ⟨a,rfl⟩
theorem nd_map {α β:Type} {f:α->β}:∀ {l:List α},l.Nodup->(∀ i∈l,∀ j∈l,f i=f j->i=j)->(l.map f).Nodup
 | [],_,_=>List.nodup_nil
 | x::l,h,k=>by
  obtain ⟨h1,h2⟩:=List.nodup_cons.mp h
  refine List.nodup_cons.mpr ⟨fun m=>?_,nd_map h2 fun i hi j hj=>k i (List.mem_cons_of_mem _ hi) j (List.mem_cons_of_mem _ hj)⟩
  obtain ⟨y,hy,e⟩:=List.mem_map.mp m
  have:=k y (List.mem_cons_of_mem _ hy) x List.mem_cons_self e
  exact h1 (this ▸ hy)
theorem own_free {m:Nat} {hs:List Int} {ow:Array (Option Nat)} (O:Own m hs ow) (l:hs.length<=m):∃ j,j<=m/\ow[j]?=some none:=by
 refine Classical.byContradiction fun no=>?_
 have all:∀ j,j<=m->∃ a,ow[j]?=some (some a):=fun j hj=>(own_get O hj).elim (fun e=>absurd ⟨j,hj,e⟩ no) id
 have f:=nd_len (l:=(List.range (m+1)).map fun j=>((ow[j]?).join).getD 0) (m:=List.range hs.length) (by
   refine nd_map List.nodup_range fun i hi j hj e=>?_
   obtain ⟨a,ea⟩:=all i (by have:=List.mem_range.mp hi;omega)
   obtain ⟨b,eb⟩:=all j (by have:=List.mem_range.mp hj;omega)
   rw [ea,eb] at e
   have e':a=b:=by simpa using e
   subst e'
   exact O.inj i j a ea eb) fun x hx=>by
  obtain ⟨j,hj,rfl⟩:=List.mem_map.mp hx
  obtain ⟨a,ea⟩:=all j (by have:=List.mem_range.mp hj;omega)
  rw [ea]
  exact List.mem_range.mpr (O.lt j a ea)
 rw [List.length_map,List.length_range,List.length_range] at f
 omega
theorem free_spec {m:Nat} {hs:List Int} {ow:Array (Option Nat)} (O:Own m hs ow) (h:Int):∀ (f L:Nat),(∃ L',L<=L'/\L' < L+f/\ow[(lp m h L').1]?=some none)->(∀ k,k < off m h L->∃ b:Nat,ow[sl m h k]?=some (some b)) ->
  ∃ K,SetTable.layClean.free m ow f (lp m h L).1 (lp m h L).2=some (sl m h K)/\K < 10 * (L+f)/\ow[sl m h K]?=some none/\∀ k,k < K->∃ b:Nat,ow[sl m h k]?=some (some b)
 | 0,L,⟨L',a,b,_⟩,_=>by omega
 | f+1,L,⟨L',a,b,c⟩,hb=>by
  have il:(lp m h L).1<=m:=by have:=lp_lt m h L;omega
  have re:SetTable.runEnd m (lp m h L).1+1 - (lp m h L).1=run m h L+1:=by have:=runEnd_ge m (lp m h L).1;unfold run;omega
  have inb:∀ r,r<=run m h L->(lp m h L).1+r<=m:=fun r hr=>by have:=runEnd_le il;have:=runEnd_ge m (lp m h L).1;unfold run at hr;omega
  have gd:∀ r,r<=run m h L->((ow.getD ((lp m h L).1+r) (some 0)).isNone=true ↔ ow[(lp m h L).1+r]?=some none):=fun r hr=>by
   have hj:(lp m h L).1+r < ow.size:=by rw [O.size];have:=inb r hr;omega
   rw [Array.getElem?_eq_getElem hj]
   simp [Array.getD,hj]
  rw [SetTable.layClean.free,re]
  cases hf:(List.range (run m h L+1)).find? fun k=>(ow.getD ((lp m h L).1+k) (some 0)).isNone with
  | some r =>
   dsimp only
   obtain ⟨h1,h2,h3⟩:=List.find?_range_eq_some.mp hf
   have hr:r<=run m h L:=by have:=List.mem_range.mp h2;omega
   refine ⟨off m h L+r,by rw [sl_off hr],?_,by rw [sl_off hr];exact (gd r hr).mp h1,fun k hk=>?_⟩
   ·have:=off_le m h L;have:=run_le m h L;omega
   ·by_cases q:k < off m h L
    ·exact hb k q
    ·obtain ⟨r',rfl⟩:∃ r',k=off m h L+r':=⟨k - off m h L,by omega⟩
     have hr':r'<=run m h L:=by omega
     rw [sl_off hr']
     have nn:=h3 r' (by omega)
     rcases own_get O (inb r' hr') with e | e
     ·have:=(gd r' hr').mpr e
      rw [this] at nn;cases nn
     ·exact e
  | none =>
   dsimp only
   have all:=List.find?_range_eq_none.mp hf
   have occ:∀ r,r<=run m h L->∃ b:Nat,ow[(lp m h L).1+r]?=some (some b):=fun r hr=>by
    have nn:=all r (by omega)
    rcases own_get O (inb r hr) with e | e
    ·have:=(gd r hr).mpr e
     rw [this] at nn;cases nn
    ·exact e
   have ne:L≠L':=fun e=>by
    subst e
    obtain ⟨b,eb⟩:=occ 0 (Nat.zero_le _)
    rw [Nat.add_zero,c] at eb;cases eb
   obtain ⟨K,k1,k2,k3,k4⟩:=free_spec O h f (L+1) ⟨L',by omega,by omega,c⟩ fun k hk=>by
    by_cases q:k < off m h L
    ·exact hb k q
    ·obtain ⟨r,rfl⟩:∃ r,k=off m h L+r:=⟨k - off m h L,by omega⟩
     have hr:r<=run m h L:=by have hk':off m h L+r < off m h L+run m h L+1:=hk;omega
     rw [sl_off hr]
     exact occ r hr
   exact ⟨K,k1,by omega,k3,k4⟩
theorem own_more {m:Nat} {hs:List Int} {ow:Array (Option Nat)} (O:Own m hs ow) {h:Int} {K:Nat} (hK:K < 10 * SetTable.turns m) (e:ow[sl m h K]?=some none) (hb:∀ k,k < K->∃ b:Nat,ow[sl m h k]?=some (some b)):Own m (hs++[h]) (ow.setIfInBounds (sl m h K) (some hs.length)):=by
 have hj:sl m h K < ow.size:=by rw [O.size];have:=sl_le m h K;omega
 have get:∀ j:Nat,(ow.setIfInBounds (sl m h K) (some hs.length))[j]?=if sl m h K=j then some (some hs.length) else ow[j]?:=fun j=>by
  rw [Array.getElem?_setIfInBounds]
  by_cases q:sl m h K=j
  ·rw [if_pos q,if_pos q,if_pos hj]
  ·rw [if_neg q,if_neg q]
 have keep:∀ {j a:Nat},ow[j]?=some (some a)->(ow.setIfInBounds (sl m h K) (some hs.length))[j]?=some (some a):=fun {j a} q=>by
  rw [get,if_neg (fun z=>by rw [z,q] at e;cases e)];exact q
 refine ⟨by rw [Array.size_setIfInBounds];exact O.size,fun a ha=>?_,fun j a q=>?_,fun i j a p q=>?_,fun j a g p q=>?_⟩
 ·rw [List.length_append,List.length_singleton] at ha
  by_cases q:a < hs.length
  ·obtain ⟨j,ej⟩:=O.has a q;exact ⟨j,keep ej⟩
  ·exact ⟨sl m h K,by rw [get,if_pos rfl,show a=hs.length by omega]⟩
 ·rw [get] at q
  rw [List.length_append,List.length_singleton]
  split at q
  ·cases q;omega
  ·have:=O.lt j a q;omega
 ·rw [get] at p q
  split at p
  ·cases p
   split at q
   ·rename_i x y;omega
   ·exact absurd (O.lt _ _ q) (Nat.lt_irrefl _)
  ·split at q
   ·cases q;exact absurd (O.lt _ _ p) (Nat.lt_irrefl _)
   ·exact O.inj i j a p q
 ·rw [get] at p
  split at p
  ·rename_i x
   cases p
   rw [List.getElem?_append_right (Nat.le_refl _),Nat.sub_self] at q
   cases q
   exact ⟨K,hK,x,fun k' hk'=>let ⟨b,eb⟩:=hb k' hk';⟨b,keep eb⟩⟩
  ·have la:=O.lt j a p
   rw [List.getElem?_append_left la] at q
   obtain ⟨k,a1,a2,a3⟩:=O.wp j a g p q
   exact ⟨k,a1,a2,fun k' hk'=>let ⟨b,eb⟩:=a3 k' hk';⟨b,keep eb⟩⟩
def lay1 (m:Nat) (acc:Option (Array (Option Nat) × Nat)) (h:Int):Option (Array (Option Nat) × Nat):=do
 let (owner,k) <- acc
 let j <- SetTable.layClean.free m owner (SetTable.turns m) (SetTable.bits h % (m+1)) (SetTable.bits h)
 pure (owner.setIfInBounds j (some k),k+1)
theorem lay_all {m:Nat} (hm:Msk m):∀ (more hs:List Int) (ow:Array (Option Nat)),Own m hs ow->hs.length+more.length<=m->∃ ow',more.foldl (lay1 m) (some (ow,hs.length))=some (ow',(hs++more).length)/\Own m (hs++more) ow'
 | [],hs,ow,O,_=>⟨ow,by simp,by simpa using O⟩
 | h::more,hs,ow,O,l=>by
  rw [List.length_cons] at l
  obtain ⟨j,hj,ej⟩:=own_free O (by omega)
  obtain ⟨L',l1,l2⟩:=leaps hm h hj
  obtain ⟨K,k1,k2,k3,k4⟩:=free_spec O h (SetTable.turns m) 0 ⟨L',Nat.zero_le _,by unfold SetTable.turns;omega,by rw [l2];exact ej⟩ fun k hk=>absurd hk (Nat.not_lt_zero _)
  rw [Nat.zero_add] at k2
  have O':=own_more O k2 k3 k4
  have e:lay1 m (some (ow,hs.length)) h=some (ow.setIfInBounds (sl m h K) (some hs.length),(hs++[h]).length):=by
   unfold lay1
   have k1':SetTable.layClean.free m ow (SetTable.turns m) (SetTable.bits h % (m+1)) (SetTable.bits h)=some (sl m h K):=k1
   simp [k1']
  obtain ⟨ow',a,b⟩:=lay_all hm more (hs++[h]) _ O' (by rw [List.length_append,List.length_singleton];omega)
  refine ⟨ow',?_,by simpa using b⟩
  rw [List.foldl_cons,e,a]
  simp
theorem lay_clean {m:Nat} (hm:Msk m) (hs:Array Int) (l:hs.size<=m):∃ ow,SetTable.layClean m hs=some ow/\Own m hs.toList ow:=by
 have O0:Own m [] (Array.replicate (m+1) (none:Option Nat)):=by
  have no:∀ (j a:Nat),(Array.replicate (m+1) (none:Option Nat))[j]?≠some (some a):=fun j a e=>by
   rw [Array.getElem?_replicate] at e
   split at e<;>cases e
  exact ⟨by simp,fun a ha=>absurd ha (Nat.not_lt_zero _),fun j a e=>absurd e (no j a),fun i j a e=>absurd e (no i a),fun j a h e=>absurd e (no j a)⟩
 obtain ⟨ow,a,b⟩:=lay_all hm hs.toList [] _ O0 (by simpa using l)
 refine ⟨ow,?_,by simpa using b⟩
 unfold SetTable.layClean
 rw [<- Array.foldl_toList]
 have a':List.foldl (lay1 m) (some (Array.replicate (m+1) none,0)) hs.toList=some (ow,([]++hs.toList).length):=a
 show Option.map (·.1) (List.foldl (lay1 m) (some (Array.replicate (m+1) none,0)) hs.toList)=some ow
 rw [a']
 rfl
theorem fm_fst {g:Nat->Option Nat}:∀ l:List Nat,(l.filterMap fun j=>(g j).map fun a=>(j,a)).map (·.1)=l.filter fun j=>(g j).isSome
 | []=>rfl
 | j::l=>by
  cases e:g j with
  | none=>rw [List.filterMap_cons_none (by simp [e]),fm_fst l,List.filter_cons_of_neg (by simp [e])]
  | some a=>rw [List.filterMap_cons_some (b:=(j,a)) (by simp [e]),List.map_cons,fm_fst l,List.filter_cons_of_pos (by simp [e])]
theorem fm_all {α:Type} {f:Nat->Option α}:∀ {l:List Nat},(∀ a∈l,∃ x,f a=some x)->∀ i:Nat,(l.filterMap f)[i]?=(l[i]?).bind f
 | [],_,i=>by simp
 | a::l,h,i=>by
  obtain ⟨x,e⟩:=h a List.mem_cons_self
  rw [List.filterMap_cons_some e]
  cases i with
  | zero=>simp [e]
  | succ i=>simpa using fm_all (fun b hb=>h b (List.mem_cons_of_mem _ hb)) i
theorem nd_of_map {α β:Type} {f:α->β}:∀ {l:List α},(l.map f).Nodup->l.Nodup
 | [],_=>List.nodup_nil
 | x::l,h=>by
  obtain ⟨h1,h2⟩:=List.nodup_cons.mp h
  exact List.nodup_cons.mpr ⟨fun m=>h1 (List.mem_map.mpr ⟨x,m,rfl⟩),nd_of_map h2⟩
theorem laid_tab {m:Nat} (hm:Msk m) (es:Array (Int × Value)) (l:es.size<=m) (finger moves:Nat) (led plain:Bool):∃ (t:SetTable) (order:Array Nat),SetTable.laid m finger moves led plain (es.map (·.1))=some (t,order)/\t.mask=m/\t.led=led/\t.plain=plain /\
  Tab t (order.filterMap fun i=>es[i]?)/\(order.filterMap fun i=>es[i]?).toList.Perm es.toList/\(order.filterMap fun i=>es[i]?).size=es.size:=by
 obtain ⟨ow,e,O⟩:=lay_clean hm (es.map (·.1)) (by rw [Array.size_map];exact l)
 have hl:(es.map (·.1)).toList.length=es.size:=by simp
 have gd:∀ j a:Nat,ow.getD j none=some a ↔ ow[j]?=some (some a):=fun j a=>by
  by_cases hj:j < ow.size
  ·simp [Array.getD,hj]
  ·simp [Array.getD,hj]
 refine ⟨_,_,by unfold SetTable.laid;rw [e];rfl,rfl,rfl,rfl,?_⟩
 generalize hL:(List.range (m+1)).filterMap (fun j=>(ow.getD j none).map fun x=>(j,x))=live
 have mem:∀ {j a:Nat},(j,a)∈live ↔ j<=m/\ow[j]?=some (some a):=fun {j a}=>by
  rw [<- hL,List.mem_filterMap]
  constructor
  ·rintro ⟨j',hj',q⟩
   cases g:ow.getD j' none with
   | none=>rw [g] at q;cases q
   | some a' =>
    rw [g] at q
    cases q
    exact ⟨by have:=List.mem_range.mp hj';omega,(gd _ _).mp g⟩
  ·rintro ⟨hj,q⟩
   exact ⟨j,List.mem_range.mpr (by omega),by rw [(gd j a).mpr q];rfl⟩
 have e1:live.map (·.1)=(List.range (m+1)).filter fun j=>(ow.getD j none).isSome:=by rw [<- hL];exact fm_fst _
 have ge:∀ a∈live.map (·.2),∃ x,es[a]?=some x:=fun a ha=>by
  obtain ⟨⟨j,a'⟩,hp,rfl⟩:=List.mem_map.mp ha
  have:=O.lt j a' (mem.mp hp).2
  rw [hl] at this
  exact ⟨es[a'],Array.getElem?_eq_getElem this⟩
 have nd2:(live.map (·.2)).Nodup:=by
  have nd1:live.Nodup:=by
   have:(live.map (·.1)).Nodup:=by rw [e1];exact List.nodup_range.filter _
   exact nd_of_map this
  refine nd_map nd1 fun p hp q hq ee=>?_
  obtain ⟨j1,a1⟩:=p
  obtain ⟨j2,a2⟩:=q
  have ee':a1=a2:=ee
  subst ee'
  rw [O.inj j1 j2 a1 (mem.mp hp).2 (mem.mp hq).2]
 have pm:(live.map (·.2)).Perm (List.range es.size):=(List.perm_ext_iff_of_nodup nd2 List.nodup_range).mpr fun a=>by
  rw [List.mem_range]
  constructor
  ·intro h
   obtain ⟨⟨j,a'⟩,hp,rfl⟩:=List.mem_map.mp h
   have:=O.lt j a' (mem.mp hp).2
   rw [hl] at this;exact this
  ·intro h
   obtain ⟨j,ej⟩:=O.has a (by rw [hl];exact h)
   have hj:j < ow.size:=(Array.getElem?_eq_some_iff.mp ej).1
   exact List.mem_map.mpr ⟨(j,a),mem.mpr ⟨by rw [O.size] at hj;omega,ej⟩,rfl⟩
 have tl:((live.map (·.2)).toArray.filterMap fun i=>es[i]?).toList=(live.map (·.2)).filterMap fun i=>es[i]?:=by rw [Array.toList_filterMap]
 have perm:((live.map (·.2)).toArray.filterMap fun i=>es[i]?).toList.Perm es.toList:=by
  rw [tl]
  exact (pm.filterMap _).trans (by rw [filterMap_getElem?_range])
 have size:((live.map (·.2)).toArray.filterMap fun i=>es[i]?).size=es.size:=by rw [<- Array.length_toList,perm.length_eq,Array.length_toList]
 have gete:∀ i:Nat,((live.map (·.2)).toArray.filterMap fun i=>es[i]?)[i]?=(live[i]?).bind fun p=>es[p.2]?:=fun i=>by
  rw [<- Array.getElem?_toList,tl,fm_all ge,List.getElem?_map]
  cases live[i]?<;>rfl
 have getp:∀ i:Nat,((live.map (·.1)).toArray)[i]?=(live[i]?).map (·.1):=fun i=>by rw [List.getElem?_toArray,List.getElem?_map]
 have inn:∀ {j:Nat},(∃ b:Nat,ow[j]?=some (some b))->j<=m->∃ i:Nat,((live.map (·.1)).toArray)[i]?=some j:=fun {j} ⟨b,eb⟩ hj=>by
  obtain ⟨i,hi,ei⟩:=List.getElem_of_mem (mem.mpr ⟨hj,eb⟩)
  exact ⟨i,by rw [getp,List.getElem?_eq_getElem hi,ei];rfl⟩
 refine ⟨⟨fun i j hi hj ij=>?_,?_,rfl,hm,fun i j q=>?_,by rw [size];exact l,fun i j x q1 q2=>?_⟩,perm,size⟩
 ·have pw:(live.map (·.1)).Pairwise (· < ·):=by rw [e1];exact List.pairwise_lt_range.filter _
  have:=List.pairwise_iff_getElem.mp pw i j (by simpa using hi) (by simpa using hj) ij
  simpa using this
 ·rw [size]
  have:=pm.length_eq
  rw [List.length_map,List.length_range] at this
  simp [this]
 ·rw [getp] at q
  obtain ⟨⟨j',a⟩,e1',e2'⟩:=Option.map_eq_some_iff.mp q
  cases e2'
  exact (mem.mp (List.mem_of_getElem? e1')).1
 ·rw [getp] at q1
  rw [gete] at q2
  obtain ⟨⟨j',a⟩,e1',e2'⟩:=Option.map_eq_some_iff.mp q1
  cases e2'
  rw [e1'] at q2
  have q2':es[a]?=some x:=q2
  have mm:=mem.mp (List.mem_of_getElem? e1')
  obtain ⟨k,k1,k2,k3⟩:=O.wp j' a x.1 mm.2 (by rw [Array.getElem?_toList,Array.getElem?_map,q2'];rfl)
  exact ⟨k,k1,k2,fun k' hk'=>inn (k3 k' hk') (sl_le _ _ _)⟩
open PySem PySem.Spec PyProof.Rows L2 L3
section
variable {prog:Program} {w:World} {A:Around} {E:Value->Shared->Prop} {s:Shared}
abbrev KT (prog:Program) (w:World) (h:Heap) (zs:List Int) (a:Addr):Prop:=IsTupleKey (PySem.intKind prog w) h zs a
abbrev hT (prog:Program) (w:World) (zs:List Int):Int:=tupleKeyHash (PySem.intKind prog w) zs
theorem items_int {ks:List Int} {vs:List Value} (h:ItemsAre (PySem.intKind prog w) ks vs):∀ v∈vs,∃ z t,v=.int z t:=by
 induction h with
 | nil=>intro v hv;exact nomatch hv
 | @cons k v' ks vs h1 _ ih =>
  intro v hv
  rcases List.mem_cons.mp hv with rfl | hv
  ·have h1':Value.isInt k v=true:=h1
   cases v with
   | int z t=>exact ⟨z,t,rfl⟩
   | _=>simp [Value.isInt] at h1'
  ·exact ih v hv
theorem ofClass_tup {ks:List Int} {a:Addr} {Q:Bool->Shared->Prop} (hk:KT prog w s.heap ks a) (h:Q false s):wpAny (model prog w) A (ofAClassStatement 8 (.ref a)) Q E s:=by
 have hT:=hk.typeIs
 obtain ⟨o,items,n,ho,_,hd,hi⟩:=hk
 unfold ofAClassStatement
 refine wpAny_bind (wpAny_typeOf hT ?_)
 dsimp only
 rw [if_pos (by decide)]
 refine wpAny_bind (wpAny_pure ?_)
 simp only [Bool.not_true,Bool.false_eq_true,if_false]
 refine wpAny_bind (wpAny_seqItems ho hd ?_)
 dsimp only
 refine wpAny_bind ?_
 rw [<- Array.forIn_toList]
 refine wpAny_forIn_list _ (fun rest r s'=>r.1=none/\s'=s/\∀ v∈rest,∃ z t,v=.int z t) _ ?_ ?_ _ _ ⟨rfl,rfl,items_int hi⟩
 ·rintro v rest r s' ⟨hr,rfl,hall⟩
  obtain ⟨z,t,rfl⟩:=hall v List.mem_cons_self
  have e:ofAClassStatement 7 (.int z t)=pure false:=rfl
  rw [e]
  refine wpAny_bind (wpAny_pure ?_)
  simp only [Bool.false_eq_true,if_false]
  exact wpAny_pure ⟨rfl,rfl,fun u hu=>hall u (List.mem_cons_of_mem _ hu)⟩
 ·rintro ⟨r1,r2⟩ s' ⟨hr,rfl,_⟩
  simp only at hr
  subst hr
  exact wpAny_pure h
theorem unseen {ks:List Int} {b:Addr} {Q:Bool->Shared->Prop} (hk:KT prog w s.heap ks b) {stored:List Value} (hs:∀ v∈stored,∃ c ys,v=.ref c/\KT prog w s.heap ys c) (h:Q false s):wpAny (model prog w) A (searchCouldBeSeen (.ref b) stored) Q E s:=by
 unfold searchCouldBeSeen
 refine wpAny_bind ?_
 refine wpAny_forIn_list _ (fun rest r s'=>r.1=none/\s'=s/\∀ v∈rest,∃ c ys,v=.ref c/\KT prog w s.heap ys c) _ ?_ ?_ _ _ ⟨rfl,rfl,hs⟩
 ·rintro v rest r s' ⟨hr,rfl,hall⟩
  obtain ⟨c,ys,rfl,hc⟩:=hall v List.mem_cons_self
  have rest':∀ u∈rest,∃ c ys,u=.ref c/\KT prog w s'.heap ys c:=fun u hu=>hall u (List.mem_cons_of_mem _ hu)
  dsimp only
  by_cases q:(b == c || carriedByValue (.ref b) && carriedByValue (.ref c))=true
  ·rw [if_pos q]
   exact wpAny_pure ⟨rfl,rfl,rest'⟩
  ·rw [if_neg q]
   refine wpAny_bind (wpAny_eqIsQuiet_tuple hk ?_)
   simp only [Bool.not_true,Bool.false_eq_true,if_false]
   refine wpAny_bind (wpAny_eqIsQuiet_tuple hc ?_)
   simp only [Bool.not_true,Bool.false_eq_true,if_false]
   refine wpAny_bind (ofClass_tup hk ?_)
   simp only [Bool.false_eq_true,if_false]
   refine wpAny_bind (ofClass_tup hc ?_)
   simp only [Bool.false_eq_true,if_false]
   exact wpAny_pure ⟨rfl,rfl,rest'⟩
 ·rintro ⟨r1,r2⟩ s' ⟨hr,rfl,_⟩
  simp only at hr
  subst hr
  exact wpAny_pure h
def Elems (prog:Program) (w:World) (h:Heap) (es:Array (Int × Value)):Prop:=∀ e∈es.toList,∃ c ys,e.2=.ref c/\KT prog w h ys c/\e.1=hT prog w ys
def Among (prog:Program) (w:World) (h:Heap) (es:Array (Int × Value)) (zs:List Int):Prop:=∃ e∈es.toList,∃ c,e.2=.ref c/\KT prog w h zs c
theorem arr_mem {α:Type} {es:Array α} {i:Nat} {e:α} (h:es[i]?=some e):e∈es.toList:=by
 rw [<- Array.getElem?_toList] at h
 exact List.mem_of_getElem? h
theorem search_from {a b:Addr} {o:Obj} {es:Array (Int × Value)} {ep:Nat} {t:SetTable} {zs:List Int} {K:Nat} {Q:SetFound->Shared->Prop} (hu:A.units < cLine) (ho:s.heap.get? a=some o) (hd:o.data=.set es ep t) (T:Tab t es) (el:Elems prog w s.heap es) (hk:KT prog w s.heap zs b)
  (hK:K < 10 * SetTable.turns t.mask) (emp:∀ i:Nat,t.place[i]?≠some (sl t.mask (hT prog w zs) K)) (bef:∀ k,k < K->∃ i:Nat,t.place[i]?=some (sl t.mask (hT prog w zs) k))
  (q1:Among prog w s.heap es zs->Q (.there none) s) (q2:¬ Among prog w s.heap es zs->Q (.free (sl t.mask (hT prog w zs) K) false) s) :
  ∀ (fuel k:Nat) (stand:Option SetTable.Probe),K - k < fuel->k<=K->stand.getD (t.probeStart (hT prog w zs))=st t.mask (hT prog w zs) k ->
   (∀ (k' i:Nat) (e:Int × Value),k' < k->t.place[i]?=some (sl t.mask (hT prog w zs) k')->es[i]?=some e->∀ c,e.2=.ref c->¬ KT prog w s.heap zs c) ->
   wpAny (model prog w) A (setSearchFrom a (.ref b) (hT prog w zs) true fuel stand) Q E s
 | 0,k,stand,lt,_,_,_=>by omega
 | fuel+1,k,stand,lt,le,est,no=>by
  unfold setSearchFrom
  refine wpAny_bind (wpAny_setState_of ho hd T.fits ?_)
  dsimp only
  rw [T.gave]
  simp only [Bool.false_eq_true,if_false]
  rw [est]
  have hg:=go_spec T (fun i=>((es[i]?).map (·.1)).getD 0) (hT prog w zs) (10 * SetTable.turns t.mask) k ⟨K,le,by omega,emp⟩
  obtain ⟨n,kn,mid,res⟩:=hg
  have nK:n<=K:=by
   refine Nat.le_of_not_lt fun q=>?_
   obtain ⟨i,e,_⟩:=mid K le q
   exact emp i e
  rcases res with ⟨ne,pe⟩ | ⟨i,pi,hh,pe⟩
  ·have en:n=K:=by
    refine Nat.le_antisymm nK (Nat.le_of_not_lt fun q=>?_)
    obtain ⟨i,e⟩:=bef n q
    exact ne i e
   subst en
   have pe':t.probe (fun i=>((es[i]?).map (·.1)).getD 0) (hT prog w zs) (st t.mask (hT prog w zs) k)=some (.empty (sl t.mask (hT prog w zs) n) none):=pe
   have fin:¬ Among prog w s.heap es zs:=by
    intro am
    obtain ⟨e,he,c,ec,hc⟩:=am
    obtain ⟨i,hi,rfl⟩:=List.getElem_of_mem he
    have hi':i < es.size:=by simpa using hi
    have ei:es[i]?=some es[i]:=Array.getElem?_eq_getElem hi'
    have hpi:i < t.place.size:=by rw [T.size];exact hi'
    obtain ⟨ke,b1,b2,b3⟩:=T.wp i t.place[i] es[i] (Array.getElem?_eq_getElem hpi) ei
    obtain ⟨c',ys,ec',hys,hsh⟩:=el _ he
    have ec2:es.toList[i]=es[i]:=by simp
    rw [ec2] at ec ec' hsh
    rw [ec] at ec'
    cases ec'
    have ez:zs=ys:=hc.inj hys
    subst ez
    rw [hsh] at b2 b3
    have kK:ke < n:=by
     refine Nat.lt_of_not_le fun q=>?_
     by_cases eq:n=ke
     ·subst eq;exact ne i (by rw [b2];exact Array.getElem?_eq_getElem hpi)
     ·obtain ⟨i',e'⟩:=b3 n (by omega);exact ne i' e'
    by_cases kk:ke < k
    ·exact no ke i es[i] kk (by rw [b2];exact Array.getElem?_eq_getElem hpi) ei c ec hc
    ·obtain ⟨i',e1,e2⟩:=mid ke (by omega) kK
     have ii:i'=i:=by
      have x1:=below_at T.rise e1
      have x2:=below_at T.rise (show t.place[i]?=some (sl t.mask (hT prog w zs) ke) by rw [b2];exact Array.getElem?_eq_getElem hpi)
      omega
     subst ii
     rw [ei] at e2
     simp [hsh] at e2
   split
   ·rename_i met heq
    have em:=Option.some.inj (heq.symm.trans pe')
    subst em
    exact wpAny_pure (q2 fin)
   ·rename_i heq
    exact (heq _ pe').elim
  ·have hi:i < es.size:=by rw [<- T.size];exact (Array.getElem?_eq_some_iff.mp pi).1
   have ei:es[i]?=some es[i]:=Array.getElem?_eq_getElem hi
   obtain ⟨c,ys,ec,hys,hsh⟩:=el _ (arr_mem ei)
   have pe':t.probe (fun i=>((es[i]?).map (·.1)).getD 0) (hT prog w zs) (st t.mask (hT prog w zs) k)=some (.candidate (sl t.mask (hT prog w zs) n) i (st t.mask (hT prog w zs) (n+1))):=pe
   have nlt:n < K:=by
    refine Nat.lt_of_le_of_ne nK fun e=>?_
    subst e;exact emp i pi
   split
   rotate_left
   ·rename_i heq
    exact (heq _ pe').elim
   rename_i met heq
   have em:=Option.some.inj (heq.symm.trans pe')
   subst em
   dsimp only
   have hl:t.led=true\/t.led=false:=by cases t.led<;>simp
   rcases hl with ld | ld
   all_goals rw [ld]
   all_goals simp only [Bool.not_true,Bool.not_false,Bool.false_eq_true,if_false,if_true]
   rotate_left
   refine wpAny_bind (unseen hk (fun v hv=>?hv) ?_)
   case hv =>
    obtain ⟨e,he,rfl⟩:=List.mem_map.mp hv
    have he':e∈es.toList:=by
     rw [Array.toList_filter] at he
     exact (List.mem_filter.mp he).1
    obtain ⟨c2,ys2,g1,g2,_⟩:=el e he'
    exact ⟨c2,ys2,g1,g2⟩
   simp only [Bool.false_eq_true,if_false]
   all_goals (
    rw [ei]
    generalize es[i]=en at ec hsh ei
    obtain ⟨hh0,y⟩:=en
    dsimp only at ec hsh
    subst ec
    dsimp only
    refine wpAny_bind (wpAny_holding (wpAny_eqBool_tuple hu hys hk ?_))
    refine wpAny_bind (wpAny_setState_of ho hd T.fits ?_)
    dsimp only
    by_cases ez:ys=zs
    ·rw [decide_eq_true ez]
     subst ez
     simp only [Bool.true_and,if_true]
     exact wpAny_pure (q1 ⟨_,arr_mem ei,c,rfl,hys⟩)
    ·rw [decide_eq_false ez]
     simp only [Bool.true_and,Bool.false_eq_true,if_false]
     have sm:t.sameMemory t.moves t.mask=some true:=by unfold SetTable.sameMemory;rw [if_pos (by simp)]
     rw [sm]
     dsimp only
     rw [if_pos rfl,slot_live T.rise pi]
     dsimp only
     rw [ei]
     dsimp only
     refine wpAny_bind (wpAny_isSame_ref_self ?_)
     refine wpAny_bind (wpAny_pure ?_)
     simp only [if_true]
     refine search_from hu ho hd T el hk hK emp bef q1 q2 fuel (n+1) _ (by omega) (by omega) rfl fun k' i' e' hk' p' e1 c' ec' kt=>?_
     by_cases k1:k' < k
     ·exact no k' i' e' k1 p' e1 c' ec' kt
     ·by_cases k2:k'=n
      ·subst k2
       have ii:i'=i:=by have x1:=below_at T.rise p';have x2:=below_at T.rise pi;omega
       subst ii
       rw [ei] at e1
       cases e1
       cases ec'
       exact ez (hys.inj kt)
      ·obtain ⟨i2,f1,f2⟩:=mid k' (by omega) (by omega)
       have ii:i'=i2:=by have x1:=below_at T.rise p';have x2:=below_at T.rise f1;omega
       subst ii
       obtain ⟨c2,ys2,g1,g2,g3⟩:=el _ (arr_mem e1)
       rw [ec'] at g1
       cases g1
       have:zs=ys2:=kt.inj g2
       subst this
       rw [e1] at f2
       simp [g3] at f2)
theorem KT.keep {h h':Heap} {zs:List Int} {b:Addr} (x:KT prog w h zs b) (k:∀ o,h.get? b=some o->h'.get? b=some o):KT prog w h' zs b:=let ⟨o,items,n,ho,r⟩:=x;⟨o,items,n,k o ho,r⟩
theorem hashVal_tup {ks:List Int} {a:Addr} {Q:Bool->Shared->Prop} (hk:KT prog w s.heap ks a) (h:Q true s):wpAny (model prog w) A (hashByValue 8 (.ref a)) Q E s:=by
 have hT:=hk.typeIs
 obtain ⟨o,items,n,ho,_,hd,hi⟩:=hk
 unfold hashByValue
 refine wpAny_bind (wpAny_specialOf hT F.slot_tuple_hash.lookup ?_)
 dsimp only
 refine wpAny_bind (wpAny_seqItems ho hd ?_)
 refine wpAny_bind ?_
 show wpAny _ _ (forIn items _ _) _ _ s
 rw [<- Array.forIn_toList]
 refine wpAny_forIn_list _ (fun rest r s'=>r.1=none/\s'=s/\∀ v∈rest,∃ z t,v=.int z t) _ ?_ ?_ _ _ ⟨rfl,rfl,items_int hi⟩
 ·rintro v rest r s' ⟨hr,rfl,hall⟩
  obtain ⟨z,t,rfl⟩:=hall v List.mem_cons_self
  have e:hashByValue 7 (.int z t)=pure true:=rfl
  rw [e]
  refine wpAny_bind (wpAny_pure ?_)
  simp only [Bool.not_true,Bool.false_eq_true,if_false]
  exact wpAny_pure ⟨rfl,rfl,fun u hu=>hall u (List.mem_cons_of_mem _ hu)⟩
 ·rintro ⟨r1,r2⟩ s' ⟨hr,rfl,_⟩
  simp only at hr
  subst hr
  exact wpAny_pure h
abbrev ent1 (prog:Program) (w:World) (p:Addr × List Int):Int × Value:=(hT prog w p.2,.ref p.1)
structure SetQ (prog:Program) (w:World) (h:Heap) (a:Addr) (ps:List (Addr × List Int)) (led:Bool) (o:Obj) (es:Array (Int × Value)) (ep:Nat) (t:SetTable):Prop where
 ho:h.get? a=some o
 ex:o.ExactSet
 hd:o.data=.set es ep t
 tab:Tab t es
 pm:es.toList.Perm (ps.map (ent1 prog w))
 few5:es.size * 5 < t.mask * 3
 led:t.led=led
def addP (ps:List (Addr × List Int)) (p:Addr × List Int):List (Addr × List Int):=if p.2∈ps.map (·.2) then ps else ps++[p]
theorem SetQ.size {h:Heap} {a:Addr} {ps:List (Addr × List Int)} {led:Bool} {o:Obj} {es:Array (Int × Value)} {ep:Nat} {t:SetTable} (x:SetQ prog w h a ps led o es ep t):es.size=ps.length:=by
 rw [<- Array.length_toList,x.pm.length_eq,List.length_map]
theorem SetQ.keep {h h':Heap} {a:Addr} {ps:List (Addr × List Int)} {led:Bool} {o:Obj} {es:Array (Int × Value)} {ep:Nat} {t:SetTable} (x:SetQ prog w h a ps led o es ep t) (k:∀ o,h.get? a=some o->h'.get? a=some o):SetQ prog w h' a ps led o es ep t:={ x with ho:=k _ x.ho }
theorem SetQ.elems {h:Heap} {a:Addr} {ps:List (Addr × List Int)} {led:Bool} {o:Obj} {es:Array (Int × Value)} {ep:Nat} {t:SetTable} (x:SetQ prog w h a ps led o es ep t) (ks:∀ p∈ps,KT prog w h p.2 p.1):Elems prog w h es:=fun e he=>by
 obtain ⟨p,hp,rfl⟩:=List.mem_map.mp (x.pm.mem_iff.mp he)
 exact ⟨p.1,p.2,rfl,ks p hp,rfl⟩
theorem SetQ.among {h:Heap} {a:Addr} {ps:List (Addr × List Int)} {led:Bool} {o:Obj} {es:Array (Int × Value)} {ep:Nat} {t:SetTable} (x:SetQ prog w h a ps led o es ep t) (ks:∀ p∈ps,KT prog w h p.2 p.1) {zs:List Int}:Among prog w h es zs ↔ zs∈ps.map (·.2):=by
 constructor
 ·rintro ⟨e,he,c,ec,hc⟩
  obtain ⟨p,hp,rfl⟩:=List.mem_map.mp (x.pm.mem_iff.mp he)
  cases ec
  exact List.mem_map.mpr ⟨p,hp,(ks p hp).inj hc⟩
 ·intro hz
  obtain ⟨p,hp,rfl⟩:=List.mem_map.mp hz
  exact ⟨_,x.pm.mem_iff.mpr (List.mem_map.mpr ⟨p,hp,rfl⟩),p.1,rfl,ks p hp⟩
theorem putSet_get {h:Heap} {a:Addr} {o:Obj} {es:Array (Int × Value)} {ep:Nat} {t:SetTable} (ho:h.get? a=some o) (hd:o.data=.set es ep t) (es':Array (Int × Value)) (t':SetTable):(h.update a (Obj.putSet es' t')).get? a=some { o with data:=.set es' (ep+1) t' }:=by
 have:=Heap.get?_update_self (Obj.putSet es' t') ho (by rw [putSet_of es' t' hd];rfl)
 rw [putSet_of es' t' hd] at this
 exact this
theorem SetQ.add {a b:Addr} {zs:List Int} {ps:List (Addr × List Int)} {led:Bool} {o:Obj} {es:Array (Int × Value)} {ep:Nat} {t:SetTable} {Q:Bool->Shared->Prop} (hu:A.units < cLine) (x:SetQ prog w s.heap a ps led o es ep t) (ks:∀ p∈ps,KT prog w s.heap p.2 p.1) (hk:KT prog w s.heap zs b) (room:ps.length+1<=1001)
  (k:∀ (bb:Bool) h' o' es' ep' t',Heap.SameBut a s.heap h'->SetQ prog w h' a (addP ps (b,zs)) led o' es' ep' t'->Q bb { s with heap:=h' }) :
  wpAny (model prog w) A (setAddHashed a (.ref b) (hT prog w zs)) Q E s:=by
 obtain ⟨K,hK,emp,bef⟩:=x.tab.first (hT prog w zs)
 have big:es.size+1<=1001:=by rw [x.size];exact room
 have f5:=x.few5
 have roomy:es.size+1<=t.mask:=by rcases x.tab.msk with e | e | e | e | e<;>omega
 unfold setAddHashed
 refine wpAny_holding ?_
 show wpAny _ _ (setAddHashedIn a (.ref b) (hT prog w zs) (99999+1)) _ _ _
 unfold setAddHashedIn
 refine wpAny_bind (wpAny_setState_of x.ho x.hd x.tab.fits ?_)
 dsimp only
 have bs:byScan (.ref b) es=false:=rfl
 rw [bs]
 simp only [Bool.false_eq_true,if_false]
 refine wpAny_bind ?_
 refine search_from hu x.ho x.hd x.tab (x.elems ks) hk hK emp bef (fun am=>?_) (fun nam=>?_) 100000 0 none (by have:SetTable.turns t.mask<=3000:=by { unfold SetTable.turns;rcases x.tab.msk with e | e | e | e | e<;>omega };omega) (Nat.zero_le _) rfl (fun k' i e hk'=>absurd hk' (Nat.not_lt_zero _))
 ·have e2:addP ps (b,zs)=ps:=by unfold addP;rw [if_pos ((x.among ks).mp am)]
  refine wpAny_pure ?_
  exact k false s.heap o es ep t (Heap.SameBut.refl a s.heap) (by rw [e2];exact x)
 ·have e2:addP ps (b,zs)=ps++[(b,zs)]:=by unfold addP;rw [if_neg fun q=>nam ((x.among ks).mpr q)]
  rw [e2] at k
  dsimp only
  refine wpAny_bind (wpAny_setState_of x.ho x.hd x.tab.fits ?_)
  dsimp only
  have T1:=x.tab.put (x:=.ref b) roomy hK emp bef (sl_le _ _ _)
  have em:(t.put (sl t.mask (hT prog w zs) K)).1.mask=t.mask:=rfl
  have el1:(t.put (sl t.mask (hT prog w zs) K)).1.led=t.led:=rfl
  have epl1:(t.put (sl t.mask (hT prog w zs) K)).1.plain=t.plain:=rfl
  have perm:(SetTable.insertAt es (t.put (sl t.mask (hT prog w zs) K)).2 (hT prog w zs,Value.ref b)).toList.Perm (es.toList++[(hT prog w zs,Value.ref b)]):=by
   have:=SetTable.insertAt_perm es (t.put (sl t.mask (hT prog w zs) K)).2 (hT prog w zs,Value.ref b)
   rw [Array.toList_push] at this
   exact this
  generalize (t.put (sl t.mask (hT prog w zs) K)).1=t1 at T1 em el1 epl1 ⊢
  generalize SetTable.insertAt es (t.put (sl t.mask (hT prog w zs) K)).2 (hT prog w zs,Value.ref b)=es1 at T1 perm ⊢
  have sz1:es1.size=es.size+1:=by rw [<- Array.length_toList,perm.length_eq,List.length_append,Array.length_toList];rfl
  have pm1:es1.toList.Perm ((ps++[(b,zs)]).map (ent1 prog w)):=by
   rw [List.map_append]
   exact perm.trans (x.pm.append_right _)
  have tail:∀ t2:SetTable,Tab t2 es1->t2.mask=t.mask->t2.led=led->wpAny (model prog w) A (do
    storeSet a es1 t2
    if (!false && t2.tooFull)=true then do
      setRelay a (SetTable.grown (es.size+1))
      pure true
     else pure true) Q E s:=fun t2 T2 m2 l2=>by
   refine wpAny_bind (wpAny_storeSet_of x.ho x.hd ?_ (Nat.le_trans (by omega:es1.size<=1001) (by decide)))
   have g1:=putSet_get x.ho x.hd es1 t2
   have sb1:=Heap.SameBut.update s.heap a (Obj.putSet es1 t2)
   generalize s.heap.update a (Obj.putSet es1 t2)=h1 at g1 sb1 ⊢
   by_cases tf:t2.tooFull=true
   ·rw [tf]
    simp only [Bool.not_false,Bool.true_and,if_true]
    have tf':(es.size+1+0) * 5 ≥ t.mask * 3:=by
     unfold SetTable.tooFull SetTable.fill at tf
     rw [T2.nod,T2.size,m2,sz1] at tf
     simpa using tf
    refine wpAny_bind ?_
    unfold setRelay
    refine wpAny_bind (wpAny_setState_of (s:={ s with heap:=h1 }) g1 rfl T2.fits ?_)
    dsimp only
    obtain ⟨n,m,en,hm,ab,lt,ge⟩:∃ n m,es.size+1=n/\Msk m/\SetTable.sizeAbove (SetTable.grown n) - 1=m/\n * 5 < m * 3/\¬ SetTable.sizeAbove (SetTable.grown n) > sizeLine:=by
     rcases x.tab.msk with e | e | e | e | e
     ·exact ⟨5,31,by omega,.inr (.inl rfl),by decide,by decide,by decide⟩
     ·exact ⟨19,127,by omega,.inr (.inr (.inl rfl)),by decide,by decide,by decide⟩
     ·exact ⟨77,511,by omega,.inr (.inr (.inr (.inl rfl))),by decide,by decide,by decide⟩
     ·exact ⟨307,2047,by omega,.inr (.inr (.inr (.inr rfl))),by decide,by decide,by decide⟩
     ·omega
    rw [en]
    rw [if_neg ge]
    obtain ⟨t3,order,er,m3,l3,p3,T3,pm3,sz3⟩:=laid_tab (m:=m) hm es1 (by omega) t2.finger (t2.movedTo m) t2.led t2.plain
    have er':t2.relaid (es1.map (·.1)) (SetTable.grown n)=some (t3,order):=by unfold SetTable.relaid;rw [ab];exact er
    rw [er']
    refine wpAny_bind ?_
    obtain ⟨es3,he3⟩:∃ es3,es3=order.filterMap (fun i=>es1[i]?):=⟨_,rfl⟩
    rw [<- he3] at T3 pm3 sz3
    refine wpAny_of_eq (Eq.trans (b:=if (es3.size != es1.size)=true then (unsupported "internal:set-table-lost-an-element" >>= fun (_:PUnit)=>pure (es3,t3)) else pure (es3,t3)) ?_ (if_neg (by rw [sz3];simp))) ?_
    ·rw [he3];rfl
    dsimp only
    refine wpAny_storeSet_of (s:={ s with heap:=h1 }) g1 rfl ?_ (Nat.le_trans (by omega:es3.size<=1001) (by decide))
    have g2:=putSet_get (es':=es3) (t':=t3) g1 rfl
    have sb2:=sb1.trans (Heap.SameBut.update h1 a (Obj.putSet es3 t3))
    exact wpAny_pure (k true _ _ es3 _ t3 sb2 ⟨g2,x.ex,rfl,T3,pm3.trans pm1,by rw [m3];omega,by rw [l3];exact l2⟩)
   ·have tf':t2.tooFull=false:=by simpa using tf
    rw [tf']
    simp only [Bool.and_false,Bool.false_eq_true,if_false]
    refine wpAny_pure (k true _ _ es1 _ t2 sb1 ⟨g1,x.ex,rfl,T2,pm1,?_,l2⟩)
    have q:¬ (es.size+1+0) * 5 ≥ t.mask * 3:=by
     intro q
     have:t2.tooFull=true:=by
      unfold SetTable.tooFull SetTable.fill
      rw [T2.nod,T2.size,m2,sz1]
      simpa using q
     rw [this] at tf';cases tf'
    rw [m2]
    omega
  by_cases tp:t1.plain=true
  ·rw [if_pos tp]
   refine wpAny_bind (hashVal_tup hk ?_)
   simp only [if_true]
   exact tail t1 T1 em (el1.trans x.led)
  ·rw [if_neg tp]
   refine wpAny_bind (wpAny_pure ?_)
   simp only [if_true]
   exact tail t1 T1 em (el1.trans x.led)
end
section
variable {prog:Program} {w:World}
theorem itemsI_of {zs:List Int} {us:List Value} (h:Vals (zs.map V.int) us):ItemsAre (PySem.intKind prog w) zs us:=by
 induction zs generalizing us with
 | nil=>cases h;exact .nil
 | cons z zs ih =>
  cases h with
  | cons r t =>
   obtain ⟨k,rfl⟩:=(show ∃ k,_=Value.int z k from r)
   exact .cons (by show Value.isInt z (.int z k)=true;simp [Value.isInt]) (ih t)
end
section
variable {prog:Program} {w:World} {A:Around} {I S:Addr} {fp wr:List Addr} {G:Array GenState->Array GenState->Prop} {P:Nat->Value->Prop} {St:Nat->Shared->Prop} {qs:List (Addr × List Int)} {R:Result->Shared->Prop} {led:Bool}
def TupX (prog:Program) (w:World) (h:Heap) (S:Addr) (qs:List (Addr × List Int)) (led:Bool):Prop:=∃ o es ep t,SetQ prog w h S qs led o es ep t
theorem TupX.keep {h h':Heap} (x:TupX prog w h S qs led) (k:∀ o,h.get? S=some o->h'.get? S=some o):TupX prog w h' S qs led:=let ⟨o,es,ep,t,q⟩:=x;⟨o,es,ep,t,q.keep k⟩
theorem tups_inX (hu:A.units+1 < cLine) (W:WalksS prog w A.in1 I fp wr G qs.length P St) (off:S ∉ fp) (hz:∀ i v,P i v->∃ q,qs[i]?=some q/\v=.ref q.1) (away:∀ q∈qs,q.1 ∉ fp/\q.1≠S) (un:(qs.map (·.2)).Nodup) (small:qs.length<=1000) :
  ∀ (left i:Nat) (s:Shared),i+left=qs.length->St i s->TupX prog w s.heap S (qs.take i) led->(∀ q∈qs,KT prog w s.heap q.2 q.1) ->
   (∀ s',Moved (S::wr) G s s'->TupX prog w s'.heap S qs led->R (.ok (.ret .none)) s')->codeAny (model prog w) A (.builtin "set.update.loop" ⟨[.ref S,.ref I],[]⟩) R s
 | 0,i,s,hi,st,x,kt,k=>by
  have e:qs.take i=qs:=List.take_of_length_le (by omega)
  rw [show i=qs.length by omega] at st
  refine codeAny_builtin F.entry_set_update_loop ?_
  rw [Around.under_plainId F.plain_set_update_loop _]
  apply wpAny_bind
  refine W.done s _ _ st fun s' m=>?_
  exact wpAny_pure (k s' (m.mono fun b hb=>List.mem_cons_of_mem _ hb) (by rw [e] at x;exact x.keep fun o ho=>m.heap S o (fun hs=>off (W.sub _ hs)) ho))
 | left+1,i,s,hi,st,x,kt,k=>by
  refine codeAny_builtin F.entry_set_update_loop ?_
  rw [Around.under_plainId F.plain_set_update_loop _]
  apply wpAny_bind
  refine W.item i s _ _ (by omega) st fun v s1 p st1 m=>?_
  obtain ⟨q,eq,rfl⟩:=hz i v p
  have mq:=List.mem_of_getElem? eq
  obtain ⟨o,es,ep,tb,x1⟩:=x.keep fun o ho=>m.heap S o (fun hs=>off (W.sub _ hs)) ho
  have kt1:∀ q∈qs,KT prog w s1.heap q.2 q.1:=fun q hq=>(kt q hq).keep fun o ho=>m.heap q.1 o (fun hs=>(away q hq).1 (W.sub _ hs)) ho
  have et:qs.take (i+1)=qs.take i++[q]:=by rw [List.take_add_one,eq];rfl
  have ad:addP (qs.take i) (q.1,q.2)=qs.take (i+1):=by
   unfold addP
   rw [if_neg,et]
   intro z
   have u2:((qs.take (i+1)).map (·.2)).Nodup:=by
    have:=un
    rw [<- List.take_append_drop (i+1) qs,List.map_append] at this
    exact (List.nodup_append.mp this).1
   rw [et,List.map_append] at u2
   exact (List.nodup_append.mp u2).2.2 _ z _ (List.mem_singleton.mpr rfl) rfl
  show wpAny _ A.in1 (holding [Value.ref q.1] (setAdd S (.ref q.1)) >>= _) _ _ s1
  apply wpAny_bind;apply wpAny_holding
  show wpAny _ A.in1 (holding _ _) _ _ _
  apply wpAny_holding;apply wpAny_bind
  refine wpAny_pyHash_tuple (by show A.units+1 < cLine;exact hu) (kt1 q mq) ?_
  refine SetQ.add (s:={ s1 with toks:=s1.toks+(q.2.length+1) }) (by show A.units+1 < cLine;exact hu) x1 (fun p hp=>kt1 p (List.mem_of_mem_take hp)) (kt1 q mq) (by rw [List.length_take];omega) fun _ h2 o2 es2 ep2 t2 sb x2=>?_
  refine wpAny_pure ⟨plainId_quiet F.plain_set_update_loop _,tups_inX hu W off hz away un small left (i+1) _ (by omega) ?_ ⟨o2,es2,ep2,t2,by rw [<- ad];exact x2⟩ (fun p hp=>(kt1 p hp).keep fun o ho=>(sb.2 p.1 (away p hp).2).trans ho) fun s3 m3 x3=>?_⟩
  ·exact W.frame _ s1 _ _ st1 (Nat.le_add_right _ _) fun b hb o e=>(sb.2 b fun z'=>off (z' ▸ hb)).trans e
  ·refine k s3 (Moved.trans W.gtrans ((m.mono fun b hb=>List.mem_cons_of_mem _ hb).then_heap (Nat.le_add_right _ _) fun b o hb e=>?_) m3) x3
   exact (sb.2 b fun z'=>hb (by rw [z'];exact List.mem_cons_self)).trans e
end
section
variable {prog:Program} {w:World} {A:Around} {E:Value->Shared->Prop} {s:Shared}
theorem tab_fresh (led:Bool):Tab (.fresh 0 0 led) #[]:=by
 refine ⟨fun i j hi hj ij=>by simp [SetTable.fresh] at hi,rfl,rfl,.inl rfl,fun i j q=>by simp [SetTable.fresh] at q,by simp,fun i j x q1 q2=>by simp at q2⟩
theorem setT_list {l:Addr} {qs:List (Addr × List Int)} {Q:Value->Shared->Prop} (hu:A.units+8 < cLine) (hh:A.handled=none) (hl:s.heap.IsList l (qs.map fun q=>Value.ref q.1).toArray) (kt:∀ q∈qs,KT prog w s.heap q.2 q.1) (un:(qs.map (·.2)).Nodup) (small:qs.length<=1000)
  (h:∀ (h':Heap) (tk:Nat),TupX prog w h' s.heap.objs.size qs (!byTxt w)->(∀ b o,s.heap.get? b=some o->h'.get? b=some o)->Q (.ref s.heap.objs.size) { s with heap:=h',toks:=tk }) :
  wpAny (model prog w) A (call (.type "set") [.ref l]) Q E s:=by
 refine made_by PySem.F.called_set (PySem.F.typeCall_set_1 _) (new_set (.ref l) ?_)
 generalize hh1:s.heap.push { cls:=.type "set",dict:=none,data:=.set #[] 0 (.fresh 0 0 (!byTxt w)) }=h1
 have kp:∀ b o,s.heap.get? b=some o->h1.get? b=some o:=fun b o e=>by rw [<- hh1];exact Heap.get?_push_of_some _ e
 have sz:h1.objs.size=s.heap.objs.size+1:=by rw [<- hh1];exact Heap.size_push ..
 have new:h1.get? s.heap.objs.size=some { cls:=.type "set",dict:=none,data:=.set #[] 0 (.fresh 0 0 (!byTxt w)) }:=by rw [<- hh1];exact Heap.get?_push_size _ rfl
 have ty:({ s with heap:=h1 }:Shared).TypeIs (.ref s.heap.objs.size) "set" := ⟨_,new,rfl⟩
 refine ⟨ty,codeAny_call_builtin PySem.F.called_set.init.plain PySem.F.entry_set_init (check_set_init_1 ty ?_)⟩
 have tlt:∀ q∈qs,@LT.lt Nat _ q.1 s.heap.objs.size/\q.1≠l:=fun q hq=>by
  obtain ⟨o,items,n,ho,hc,hd,_⟩:=kt q hq
  refine ⟨Heap.lt_size ho,fun e=>?_⟩
  obtain ⟨o2,ho2,hc2,n2,hd2⟩:=hl
  rw [e,ho2] at ho
  cases ho
  rw [hc2] at hc
  exact absurd hc (by decide)
 obtain ⟨⟨c,d,dt,sl⟩,ho,rfl,n,rfl⟩:=hl
 have ho1:=kp _ _ ho
 have lt:@LT.lt Nat _ l s.heap.objs.size:=Heap.lt_size ho
 have il:h1.IsList l (qs.map fun q=>Value.ref q.1).toArray:=⟨_,ho1,rfl,n,rfl⟩
 have n1:=PySem.F.sub_list_set
 have n2:=PySem.F.sub_list_frozenset
 have n3:(Value.type "list" == Value.type "dict")=false:=by decide
 unfold Builtin.«set.__init__» noKeywords Builtin.Frozenset.updateFrom
 generalize pi:pyIter=it
 wp_walk
 subst pi
 apply wpAny_pyIter_list il
 apply wpAny_bind;apply wpAny_runValue
 have W:=(Walks.list (prog:=prog) (w:=w) (A:=A.in1.in1.in1) (by simpa using hh) h1.objs.size l (by rw [sz];exact Nat.ne_of_lt (Nat.lt_succ_of_lt lt)) (qs.map fun q=>Value.ref q.1).toArray).toS
 have e0:(qs.map fun q=>Value.ref q.1).toArray.size=qs.length:=by rw [List.size_toArray,List.length_map]
 rw [e0] at W
 refine tups_inX (led:=!byTxt w) (qs:=qs) (by show A.units+1+1+1 < cLine;omega) W ?_ (fun i v p=>?_) (fun q hq=>⟨?_,?_⟩) un small qs.length 0 _ (Nat.zero_add _) ⟨⟨_,Heap.get?_push_size _ rfl,rfl,rfl⟩,il.push _⟩ ?_ (fun q hq=>(kt q hq).keep fun o e=>Heap.get?_push_of_some _ (kp _ _ e)) fun t m x=>?_
 ·rw [sz]
  intro q
  rcases List.mem_cons.mp q with q | q
  ·exact absurd q (Nat.ne_of_lt (Nat.lt_succ_self _))
  ·exact absurd (List.mem_singleton.mp q) (Nat.ne_of_gt lt)
 ·have p':(qs.map fun q=>Value.ref q.1)[i]?=some v:=by simpa using p
  rw [List.getElem?_map] at p'
  obtain ⟨q,eq,rfl⟩:=Option.map_eq_some_iff.mp p'
  exact ⟨q,eq,rfl⟩
 ·rw [sz]
  intro z
  rcases List.mem_cons.mp z with z | z
  ·exact absurd z (Nat.ne_of_lt (Nat.lt_succ_of_lt (tlt q hq).1))
  ·exact (tlt q hq).2 (List.mem_singleton.mp z)
 ·exact Nat.ne_of_lt (tlt q hq).1
 ·exact ⟨_,#[],0,_,Heap.get?_push_of_some _ new,⟨rfl,rfl,rfl⟩,rfl,tab_fresh _,by simp,(by show 0 * 5 < 7 * 3;decide),rfl⟩
 ·obtain ⟨h2,g2,d2,t2,o2⟩:=t
  cases (show g2=s.gens from m.gens)
  cases (show d2=s.drawn from m.drawn)
  cases (show o2=s.os from m.os)
  apply wpAny_pure
  refine wpAny_pure ⟨rfl,h h2 t2 x fun b o e=>m.heap b o ?_ (Heap.get?_push_of_some _ (kp b o e))⟩
  have lb:@LT.lt Nat _ b s.heap.objs.size:=Heap.lt_size e
  rw [sz]
  intro q
  rcases List.mem_cons.mp q with q | q
  ·exact absurd q (Nat.ne_of_lt lb)
  ·exact absurd (List.mem_singleton.mp q) (Nat.ne_of_lt (Nat.lt_succ_of_lt lb))
end
def TpI (P:Program) (w:World) (a:Addr) (qs:List (Addr × List Int)):HO:=.ext fun h=>TupX P w h a qs (!byTxt w)
section
variable {X:Cx}
theorem tpI_ok {H:Hp} {h:Heap} {a:Addr} {qs:List (Addr × List Int)} (x:TupX X.prog X.w h a qs (!byTxt X.w)):ObjOk X.prog X.w H h a (TpI X.prog X.w a qs):=by
 refine ⟨x,?_,fun h1 h2 q k=>q.keep fun o e=>k o e⟩
 obtain ⟨o,es,ep,t,y⟩:=x
 exact ⟨o,y.ho⟩
theorem ktI_of {pins:List (Addr × Obj)} {σ:L2.St} {H:Hp} {s:Shared} (I:Inv X pins σ H s) {c:Addr} {zs:List Int} (h:H c=some (.tup (zs.map V.int))):KT X.prog X.w s.heap zs c:=by
 obtain ⟨its,rv,⟨o,ho,hc,n,hd⟩,_⟩:=I.tuple (SqT.of (K:=X.K) h)
 exact ⟨o,its.toArray,n,ho,hc,hd,by simpa using itemsI_of rv⟩
theorem vals_refsQ:∀ (l:List (Addr × List Int)) (vs:List Value),Vals (l.map fun q=>V.ref q.1) vs->vs=l.map fun q=>Value.ref q.1
 | [],vs,h=>by cases h;rfl
 | x::l,vs,h=>by
  cases h with
  | cons r t =>
   cases r
   rw [vals_refsQ l _ t]
   rfl
theorem call_set_tpI {P:Program} {w:World} {K:PySem.W.Frag} (hc:X.calm=true) (hu:X.A.units+8 < cLine) (hP:X.prog=P:=by rfl) (hw:X.w=w:=by rfl) (hK:X.K=K:=by rfl):CallR X (.type "set") (fun xs H Q=>∃ (p:Addr) (qs:List (Addr × List Int)),xs=[.ref p]/\SqL K H p (qs.map fun q=>V.ref q.1)/\HoldI H qs/\(qs.map (·.2)).Nodup/\qs.length<=1000/\∀ l,H l=none->Q (.ref l) (upd H l (TpI P w l qs))):=by
 subst hP hw hK
 intro pins s σ H xs us Q I r h
 obtain ⟨p,qs,rfl,hp,hold,un,small,q⟩:=h
 obtain ⟨u,rfl,rx⟩:=vals1 r
 cases rx
 have fr:H s.heap.objs.size=none:=I.hok.fresh (Nat.le_refl _)
 obtain ⟨its,rv,pl,_⟩:=I.list hp
 obtain rfl:=vals_refsQ qs its rv
 exact setT_list hu (I.ok.hd hc) pl.isList (fun x hx=>ktI_of I (hold x hx)) un small fun h' tk T kp=>⟨.ref s.heap.objs.size,_,I.laid (t':=tk) kp (Nat.le_refl _) (tpI_ok T),rfl,q _ fr⟩
theorem call_sorted_tpI {P:Program} {w:World} (hc:X.calm=true) (hP:X.prog=P:=by rfl) (hw:X.w=w:=by rfl):CallR X (.builtin "sorted") (fun xs H Q=>∃ (p:Addr) (ps:List (Addr × List Int)),xs=[.ref p]/\H p=some (TpI P w p ps)/\HoldI H ps/\(∀ x∈ps,x.2≠[])/\ps.length<=1000 /\
  ∀ l (qs:List (Addr × List Int)),H l=none->qs.Perm ps->qs.Pairwise (fun a b=>ltI b.2 a.2=false)->Q (.ref l) (upd H l (.lst (qs.map fun q=>V.ref q.1)))):=by
 subst hP hw
 intro pins s σ H xs us Q I r h
 obtain ⟨p,ps,rfl,hp,hold,ne,few,q⟩:=h
 have big:1000<=sizeLine:=by decide
 obtain ⟨u,rfl,rx⟩:=vals1 r
 cases rx
 obtain ⟨⟨o,es,ep,t,x⟩,_⟩:=I.hok _ _ hp
 have sz:=x.size
 refine Calls.call_function_entry kind_sorted plain_sorted entry_sorted (args_sorted1 _) ?_
 unfold Builtin.«sorted»
 apply wpAny_bind (m:=checkCount "sorted" 1 1 _)
 apply wpAny_pure
 apply wpAny_bind
 refine collect_set (A:=X.A.in1) ⟨⟨o,x.ho,x.ex,x.hd⟩,x.tab.fits,x.led,fun _=>by cases e:t.plain with
  | false=>exact .inl rfl
  | true=>exact .inr ⟨rfl,x.tab.rise⟩⟩ (by rw [sz];omega) (by exact I.ok.hd hc) fun h1 tk dr acc keep pm=>?_
 have pm':acc.Perm (ps.map fun p=>Value.ref p.1):=pm.trans (by
  have:=x.pm.map (·.2)
  rw [List.map_map] at this
  exact this)
 have la:acc.length=ps.length:=by rw [pm'.length_eq,List.length_map]
 have tf:∀ v∈acc,TupFI h1 (keyAtI ps) v:=fun v hv=>by
  obtain ⟨pp,hpp,rfl⟩:=List.mem_map.mp (pm'.mem_iff.mp hv)
  obtain ⟨its,rv,⟨ot,ho,r1⟩,_⟩:=I.tuple (SqT.of (K:=X.K) (hold pp hpp))
  have e:=keyAtI_of hold hpp
  exact ⟨pp.1,its,rfl,⟨ot,keep _ _ ho,r1⟩,by rw [e];exact ints_of rv,by rw [e];exact ne pp hpp⟩
 apply wpAny_bind
 refine wpAny_newList ?_ (by rw [la];omega)
 apply wpAny_bind
 apply wpAny_holding
 refine wpAny_mono (sorts_tupsI (prog:=X.prog) (w:=X.w) (s:={ s with drawn:=dr }) (h:=h1) (tk:=tk) (Q:=EP X pins σ Q) tf (by rw [la];omega) fun out n h2 o1 o2 o3 o4=>?_) (fun _ _ z=>wpAny_pure ⟨_,rfl,z⟩) fun _ _ z=>z
 have no:s.heap.get? h1.objs.size=none:=by
  cases e:s.heap.get? h1.objs.size with
  | none=>rfl
  | some o=>exact absurd (Heap.lt_size (keep _ _ e)) (Nat.lt_irrefl _)
 have noH:H h1.objs.size=none:=by
  cases e:H h1.objs.size with
  | none=>rfl
  | some o =>
   obtain ⟨u,eu⟩:=(I.hok _ _ e).there
   rw [no] at eu;cases eu
 have pa:out.Perm (ps.map (·.1)):=by
  have:=(o1.trans pm').map fun v=>match v with | Value.ref a=>a | _=>0
  rw [List.map_map,List.map_map] at this
  have e1:(out.map ((fun v=>match v with | Value.ref a=>a | _=>0) ∘ Value.ref))=out:=by
   rw [show ((fun v=>match v with | Value.ref a=>a | _=>(0:Addr)) ∘ Value.ref)=id from rfl];simp
  rw [e1] at this
  exact this
 have qp:(out.map fun a=>(a,keyAtI ps a)).Perm ps:=by
  have:=pa.map fun a=>(a,keyAtI ps a)
  rw [List.map_map] at this
  have e:ps.map ((fun a=>(a,keyAtI ps a)) ∘ (·.1))=ps:=by
   have:∀ l:List (Addr × List Int),(∀ x∈l,x∈ps)->l.map ((fun a=>(a,keyAtI ps a)) ∘ (·.1))=l:=by
    intro l
    induction l with
    | nil=>intro _;rfl
    | cons y l ih =>
     intro hy
     rw [List.map_cons,ih fun z hz=>hy z (List.mem_cons_of_mem _ hz)]
     show (y.1,keyAtI ps y.1)::l=y::l
     rw [keyAtI_of hold (hy y List.mem_cons_self)]
   exact this ps fun _ h=>h
  rw [e] at this
  exact this
 have qw:(out.map fun a=>(a,keyAtI ps a)).Pairwise (fun a b=>ltI b.2 a.2=false):=List.pairwise_map.mpr o2
 have em:(out.map fun a=>(a,keyAtI ps a)).map (fun q=>V.ref q.1)=out.map V.ref:=by rw [List.map_map];rfl
 have fin:=q h1.objs.size _ noH qp qw
 rw [em] at fin
 refine ⟨.ref h1.objs.size,_,(I.drawn (dr:=dr)).laidN (t':=tk) (o:=.lst (out.map V.ref)) (fun b o e=>o3 _ _ (keep _ _ e)) no noH ?_,rfl,fin⟩
 refine ⟨by rw [List.length_map];have:=qp.length_eq;rw [List.length_map] at this;rw [this];omega,out.map Value.ref,n,?_,o4⟩
 have:∀ l:List Addr,Vals (l.map V.ref) (l.map Value.ref):=fun l=>by
  induction l with
  | nil=>exact .nil
  | cons x l ih=>exact .cons rfl ih
 exact this out
end
end L5
namespace L2
open PySem PySem.Spec PyProof.Rows
theorem call_sorted_intT {X:Cx} {K:PySem.W.Frag} (hK:X.K=K:=by rfl):CallR X (.builtin "sorted") (fun xs H Q=>∃ (p:Addr) (ns:List Int),xs=[.ref p]/\SqT K H p (ns.map V.int)/\ns.length < 64/\∀ l (ms:List Int),H l=none->ms.Perm ns->ms.Pairwise (·<=·)->Q (.ref l) (upd H l (.lst (ms.map V.int)))):=by
 subst hK
 intro pins s σ H xs us Q I r h
 obtain ⟨p,ns,rfl,hq,few,q⟩:=h
 obtain ⟨u,rfl,rx⟩:=vals1 r
 cases rx
 have big:64<=sizeLine:=by decide
 obtain ⟨its,rv,⟨o,ho,hc,n,hd⟩,hz⟩:=I.tuple hq
 have el:its.length=ns.length:=by rw [<- rv.length,List.length_map]
 refine Calls.call_function_entry kind_sorted plain_sorted entry_sorted (args_sorted1 _) ?_
 unfold Builtin.«sorted»
 apply wpAny_bind (m:=checkCount "sorted" 1 1 _)
 apply wpAny_pure
 apply wpAny_bind
 refine wpAny_collect_seq p (.inr rfl) ho hc hd (fun h1 keep=>?_) (by simp only [List.size_toArray];omega)
 apply wpAny_bind
 refine wpAny_newList ?_ (by simp only [];omega)
 apply wpAny_bind
 apply wpAny_holding
 refine wpAny_mono (sorts_newI (prog:=X.prog) (w:=X.w) (s:=s) (h:=h1) (tk:=s.toks) (Q:=EP X pins σ Q) (by simpa using intsAre_of rv) (by simp;omega) fun out ms n h2 o1 op os o2 o3=>?_) (fun _ _ z=>wpAny_pure ⟨_,rfl,z⟩) fun _ _ z=>z
 have no:s.heap.get? h1.objs.size=none:=by
  cases e:s.heap.get? h1.objs.size with
  | none=>rfl
  | some o=>exact absurd (Heap.lt_size (keep _ _ e)) (Nat.lt_irrefl _)
 have noH:H h1.objs.size=none:=by
  cases e:H h1.objs.size with
  | none=>rfl
  | some o =>
   obtain ⟨u,eu⟩:=(I.hok _ _ e).there
   rw [no] at eu;cases eu
 refine ⟨.ref h1.objs.size,_,I.laidN (t':=s.toks) (o:=.lst (ms.map V.int)) (fun b o e=>o2 _ _ (keep _ _ e)) no noH ?_,rfl,q _ ms noH op os⟩
 exact ⟨by rw [List.length_map,op.length_eq];omega,out,n,of_ints o1,o3⟩
end L2
namespace K75
open PySem PySem.Spec PyProof.Rows L2 L3
abbrev sTo:Stmt:=top 38 -- _law_told
abbrev sRi:Stmt:=top 39 -- _law_right
structure Errs (K:PySem.W.Frag) (mg:Str->Option Value) (E0 E7 A1 A2 A3:Addr):Prop where
 b0:mg "WebError" = some (.ref E0)
 x7:Ex K mg "TooMany" E7
 a1:mg "NoCut" = some (.ref A1)
 a2:mg "NoFlat" = some (.ref A2)
 a3:mg "NoRing" = some (.ref A3)
 ve:mg "ValueError" = none
 ex:PySem.W.exmOne K (.ref E7) (.ref E0)=some true
 k1:PySem.W.kitOne K (.ref E7) (.ref E7)=some true
 k2:PySem.W.kitOne K (.ref E7) (.type "ValueError")=some true
 k3:PySem.W.kitAny K (.ref E7) [.ref A1,.ref A2,.ref A3]=some false
 xc:ExcCl K E7
theorem boot_VE:bootBuiltins "ValueError" = some (.type "ValueError"):=by rfl
def rIsT (K:PySem.W.Frag):List V->Hp->VK->Prop:=fun xs H Q=>∃ (a C tp:Addr) (cs:List V) (cvs:List Value) (b:Bool),xs=[.ref a,.ref tp]/\H tp=some (.tup cs)/\(∀ us,Vals cs us->us=cvs)/\H a=some (excO a (.ref C))/\ExcCl K C/\PySem.W.kitAny K (.ref C) cvs=some b/\Q (.bl b) H
def rIsE (K:PySem.W.Frag):List V->Hp->VK->Prop:=fun xs H Q=>∃ (a C:Addr) (c:V) (cv:Value) (b:Bool),xs=[.ref a,c]/\(∀ u,RelV c u->u=cv)/\H a=some (excO a (.ref C))/\ExcCl K C/\PySem.W.kitOne K (.ref C) cv=some b/\Q (.bl b) H
theorem refs_vals:∀ {as:List Addr} {us:List Value},Vals (as.map V.ref) us->us=as.map Value.ref
 | [],_,.nil=>rfl
 | a::as,_,.cons r t=>by cases r;rw [refs_vals t];rfl
section
variable {P:Program} {w:World} {K:PySem.W.Frag} {mg:Str->Option Value} {base:Heap}
variable {C E0 E7 A1 A2 A3 fRg fIn fTo fIR:Addr} {fdRg fdIn fdTo fdIR:FuncData}
def spTo (C:Addr):Sp:=fun vs H Q _=>∃ (x:Addr) (ns:List Str) (ps:List (Str × Str)),vs=[.ref x]/\WebObj C H x ns ps/\GoodW ns ps/\(∀ H':Hp,1000 < (rgL ns ps (srt ns)).length->Same H H'->Q (.str "many") H') /\
 ∀ (l:Addr) (qs:List (Addr × List Int)) (H':Hp),(rgL ns ps (srt ns)).length<=1000->H l=none->H' l=some (.lst (qs.map fun q=>V.ref q.1))->HoldI H' qs->(qs.map (·.2)).Perm ((rgL ns ps (srt ns)).map (rI ps.length))->qs.Pairwise (fun a b=>ltI b.2 a.2=false)->Same H H'->Q (.ref l) H'
abbrev nTo:List Str:=["_law_web_here","_law_found","e"]
theorem scTo:FnScope nTo ["_law_web_here"] (defScope sTo):=⟨rfl,rfl,rfl,by decide +kernel,rfl,by decide +kernel,by decide +kernel⟩
theorem ok_to {f:Addr} {fd:FuncData} (F:Fun K "_law_told" "_law_told" sTo f fd) (X:Errs K mg E0 E7 A1 A2 A3) (DR:Df K mg "rings" sRg ["web"] fRg fdRg) (GR:FnOk P w K mg base (CXO P w) 4 fRg fdRg ["web"] (spRg C E7)) (T:Glb mg):FnOk P w K mg base CX0 5 f fd ["_law_web_here"] (spTo C):=by
 refine F.ok scTo (fun vs H Q E h=>?_) (fun cdv A outer s H vs Q E hr h=>?_)
 ·obtain ⟨x,ns,ps,rfl,_⟩:=h
  rfl
 ·obtain ⟨x,ns,ps,rfl,W,g,kX,k⟩:=h
  refine ⟨_,pss_cons (ps_set (i:=1) scTo.nd rfl (Or.inl rfl) pe_non)
   (pss_cons (ps_tryA (j:=1) rfl rfl rfl (Or.inl rfl) (pex_call GR hr rfl DR.mgf DR.fn.kp DR.b .nil (fun _=>pa_cons (pv 0) pa_nil)) rfl X.b0 scTo.nd (i:=2) rfl rfl
    (fun _=>pss_one (ps_if (PW.pt (pw_and (pt_val (pe_callB (r:=rIsE K) call_isinstE (by rfl) T.isinst boot_isinstance (pa_cons (pv 2) (pa_cons (pe_glob (v:=.ref E7) rfl X.x7.b rfl) pa_nil))) (fun _=>rfl))
     (pw_and (pt_val (pe_callB (r:=rIsE K) call_isinstE (by rfl) T.isinst boot_isinstance (pa_cons (pv 2) (pa_cons (pe_bltn (v:=.ty "ValueError") rfl X.ve boot_VE rfl) pa_nil))) (fun _=>rfl))
     (pw_and1 (pt_not (pt_val (pe_callB (r:=rIsT K) call_isinstT (by rfl) T.isinst boot_isinstance (pa_cons (pv 2) (pa_cons (pe_tup (pa_cons (pe_glob (v:=.ref A1) rfl X.a1 rfl) (pa_cons (pe_glob (v:=.ref A2) rfl X.a2 rfl) (pa_cons (pe_glob (v:=.ref A3) rfl X.a3 rfl) pa_nil)))) pa_nil))) (fun _=>rfl)))))))
     (pss_one (ps_set (i:=1) scTo.nd rfl (Or.inl rfl) pe_str)) pss_nil)))
   (pss_one (ps_ret (pv 1)))),?_⟩
  refine ⟨_,rfl,x,ns,ps,rfl,W,g,fun H1 over s1=>⟨X.ex,fun a ha=>?_⟩,fun l qs H1 le nl hl hold pm up s1=>⟨_,rfl,k l qs H1 le nl hl hold pm up s1⟩⟩
  have ha':=upd_same (H:=H1) (a:=a) (o:=excO a (.ref E7))
  have sa:=s1.trans (same_upd (o:=excO a (.ref E7)) ha)
  generalize upd H1 a (excO a (.ref E7))=H2 at ha' sa ⊢
  refine ⟨_,rfl,a,E7,_,.ref E7,true,rfl,(fun u r=>r),ha',X.xc,X.k1,_,rfl,iteT ?_⟩
  refine ⟨_,rfl,a,E7,_,.type "ValueError",true,rfl,(fun u r=>r),ha',X.xc,X.k2,_,rfl,iteT ?_⟩
  refine ⟨_,rfl,(by show 3<=sizeLine;decide),fun tp htp=>?_⟩
  have s4:=same_upd (o:=.tup [.ref A1,.ref A2,.ref A3]) htp
  have h4:=upd_same (H:=H2) (a:=tp) (o:=.tup [.ref A1,.ref A2,.ref A3])
  generalize upd H2 tp (.tup [.ref A1,.ref A2,.ref A3])=H4 at s4 h4 ⊢
  refine ⟨a,E7,tp,_,_,false,rfl,h4,fun us r=>refs_vals (as:=[A1,A2,A3]) r,s4 _ _ ha',X.xc,X.k3,_,rfl,iteT ?_⟩
  exact ⟨_,rfl,kX _ over (sa.trans s4)⟩
end
end K75
namespace L2
open PySem PySem.Spec PyProof.Rows
theorem eqVs_self:∀ {zs:List V},zs.all flatV=true->eqVs zs zs=true
 | [],_=>rfl
 | z::zs,h=>by
  rw [List.all_cons,Bool.and_eq_true] at h
  unfold eqVs
  rw [eqV_self h.1,eqVs_self h.2]
  rfl
section
variable {X:Cx}
end
end L2
namespace K75
open PySem PySem.Spec PyProof.Rows L2 L3 L5
def rLiO (K:PySem.W.Frag):List V->Hp->VK->Prop:=fun xs H Q=>∃ p ys,xs=[.ref p]/\(SqL K H p ys\/SqT K H p ys)/\∀ l,H l=none->Q (.ref l) (upd H l (.lst ys))
def rSoT (K:PySem.W.Frag):List V->Hp->VK->Prop:=fun xs H Q=>∃ (p:Addr) (ns:List Int),xs=[.ref p]/\SqT K H p (ns.map V.int)/\ns.length < 64/\∀ l (ms:List Int),H l=none->ms.Perm ns->ms.Pairwise (·<=·)->Q (.ref l) (upd H l (.lst (ms.map V.int)))
theorem nI_inj {c d:List Nat} (e:nI c=nI d):c=d:=by
 unfold nI at e
 have:∀ (c d:List Nat),c.map (fun k:Nat=>(k:Int))=d.map (fun k:Nat=>(k:Int))->c=d:=by
  intro c
  induction c with
  | nil=>intro d e;cases d with
   | nil=>rfl
   | cons _ _=>cases e
  | cons x c ih=>intro d e;cases d with
   | nil=>cases e
   | cons y d =>
    injection e with e1 e2
    rw [Int.ofNat.inj e1,ih d e2]
 exact this c d e
section
variable {P:Program} {w:World} {K:PySem.W.Frag} {mg:Str->Option Value} {base:Heap}
variable {C fIn fTo fIR:Addr} {fdIn fdTo fdIR:FuncData}
theorem made {x dx a b:Addr} {H:Hp} {ns:List Str} {ps:List (Str × Str)} {ts:List Addr} {Q:Hp->Prop} {R:XK} (nx:H x=none) (ndx:H dx=none) (L:Lists H a b ns ps ts) (k:∀ H',WebObj C H' x ns ps->Same H H'->Q H') :
  spInit C [.ref x,.ref a,.ref b] (upd (upd H dx (.own x)) x (.ins C dx [])) (fun v H2=>v=.non/\Q H2) R:=by
 have sx:Same H (upd (upd H dx (.own x)) x (.ins C dx [])):=Same.upd_new (same_upd ndx) nx
 exact ⟨x,a,b,ns,ps,ts,rfl,⟨dx,upd_same⟩,L.same sx,fun H7 W7 b7=>⟨rfl,k H7 W7 (Same.but sx b7 nx)⟩⟩
abbrev aRi:List Str:=["_law_names_here","_law_ties","_law_due"]
def spRi:Sp:=fun vs H Q _=>∃ (n b:Addr) (ns:List Str) (ps:List (Str × Str)) (ts:List Addr) (d:Nat),vs=[.ref n,.ref b,.int (d:Int)]/\Lists H n b ns ps ts/\Cnt ps d/\∀ H',Same H H'->Q (.bl true) H'
abbrev nRi:List Str:=["_law_names_here","_law_ties","_law_due","_law_found"]
theorem scRi:FnScope nRi aRi (defScope sRi):=⟨rfl,rfl,rfl,by decide +kernel,rfl,by decide +kernel,by decide +kernel⟩
theorem ok_ri {f:Addr} {fd:FuncData} (F:Fun K "_law_right" "_law_right" sRi f fd) (W:WC K mg C) (MkW:Mk K C fIn) (bI:Binds K fdIn ["self","places","ties"] []) (GI:FnOk P w K mg base CX0 4 fIn fdIn ["self","places","ties"] (spInit C)) (DT:Df K mg "_law_told" sTo ["_law_web_here"] fTo fdTo) (GT:FnOk P w K mg base CX0 5 fTo fdTo ["_law_web_here"] (spTo C)) (DI:Df K mg "_law_is_ring" sIR aIR fIR fdIR) (T:Glb mg):FnOk P w K mg base CX0 6 f fd aRi spRi:=by
 have GIR:FnOk P w K mg base CX0 1 fIR fdIR aIR spIR:=ok_ir DI.fn T
 refine F.ok scRi (fun vs H Q E h=>?_) (fun cdv A outer s H vs Q E hr h=>?_)
 ·obtain ⟨n,b,ns,ps,ts,d,rfl,_⟩:=h
  rfl
 ·obtain ⟨n,b,ns,ps,ts,d,rfl,L,cnt,k⟩:=h
  have h1:=hr.mono (j:=1) (by decide)
  refine ⟨_,pss_cons (ps_set (i:=3) scRi.nd rfl (Or.inl rfl) (pe_call GT hr rfl DT.mgf DT.fn.kp DT.b .nil pass0 (pa_cons (pe_make MkW GI hr rfl W.mgC bI .nil pass0 (pa_cons (pv 0) (pa_cons (pv 1) pa_nil))) pa_nil)))
   (pss_cons (ps_if (pt_cmpR op_gt (pv 2) pe_int (nomark _)) (pss_one (ps_ret (pe_cmpR op_eq (pv 3) pe_str (nomark _)))) pss_nil)
   (pss_cons (ps_if (PW.pt (pw_or (pt_not (pt_val (pe_callB (call_isinst (T:="list")) (by rfl) T.isinst boot_isinstance (pa_cons (pv 3) (pa_cons (pe_bltn (v:=.ty "list") rfl T.list PyProof.Rows.boot_list rfl) pa_nil))) (fun _=>rfl)))
     (pw_or (pt_cmpR op_ne (pe_callB call_len_seq (by rfl) T.len PySem.boot_len (pa_cons (pv 3) pa_nil)) (pv 2) (nomark _))
     (pw_or1 (pt_cmpR (op_ne_al 1 (low 1 hr)) (pv 3) (pe_callB (call_sorted_tpI (P:=P) (w:=w) rfl) (by rfl) T.sorted boot_sorted (pa_cons (pe_callTy (call_set_tpI (P:=P) (w:=w) (K:=K) rfl (low 7 hr)) (by rfl) T.set PyProof.Rows.boot_set (pa_cons (pv 3) pa_nil)) pa_nil)) (nomark _)))))) (pss_one (ps_ret pe_bl)) pss_nil)
   (pss_one (ps_ret (pe_callB (call_all rfl) (by rfl) T.all boot_all (pa_cons (pe_lc ["_law_some"] [1] rfl (compSc (osc:=(defScope sRi).names) (N:=nRi) rfl rfl (by decide +kernel)) (gk_name (by decide)) (pi_list (pv 3))
     (fun _ _ _=>pg_name (i:=0) (show (["_law_some","_law_ties"]:List Str).Nodup by decide +kernel) rfl (Or.inl rfl)) (fun _ _ _=>pifs_nil)
     (fun _ _ _=>pe_and (pe_cmpR (r:=rEqF K false) (op_eq_flat (low 0 hr)) (pe_callTy (r:=rLiO K) call_list_of (by rfl) T.list PyProof.Rows.boot_list (pa_cons (pv 0) pa_nil)) (pe_callB (r:=rSoT K) call_sorted_intT (by rfl) T.sorted boot_sorted (pa_cons (pv 0) pa_nil)) (nomark _))
      (pe_one (pe_call GIR h1 rfl DI.mgf DI.fn.kp DI.b .nil pass0 (pa_cons (pv 1) (pa_cons (pv 0) pa_nil)))))) pa_nil)))))),?_⟩
  have gW:GoodW ns ps:=⟨L.good,L.ins,L.few⟩
  have nd:=srt_nd L.good.nd
  have LB:∀ st∈srt ns,Lbk (aT ps) (bT ps) ps.length ltT st (lbk ns ps st) (srt ns):=fun st _=>lbk_ok L.ins st
  have hin:∀ k,k < ps.length->aT ps k∈srt ns:=fun k hk=>(srt_perm ns).mem_iff.mpr (L.ins _ (aT_mem hk)).1
  have ln:(rgL ns ps (srt ns)).length=d:=by
   obtain ⟨P',D',W2,e⟩:=cnt
   exact (two_count W2 ordS LB nd hin).trans e
  have rnd:=rgs_nodup ordS LB nd
  refine ⟨_,rfl,_,rfl,?_⟩
  intro x dx nx ndx _
  refine made nx ndx L fun H1 W1 s1=>?_
  have L1:=L.same s1
  refine ⟨x,ns,ps,rfl,W1,gW,fun H2 over s2=>?_,fun l qs H2 le nl hl hold pm up s2=>?_⟩
  ·rw [ln] at over
   refine ⟨_,rfl,_,_,rfl,rfl,_,rfl,?_⟩
   rw [decide_eq_true (show (1000:Int) < (d:Int) by omega)]
   refine iteT ⟨_,rfl,rfl,?_⟩
   rw [decide_eq_true rfl]
   exact k _ (s1.trans s2)
  ·rw [ln] at le
   have lq:qs.length=d:=by
    have:=pm.length_eq
    rw [List.length_map,List.length_map,ln] at this
    exact this
   refine ⟨_,rfl,_,_,rfl,rfl,_,rfl,?_⟩
   rw [decide_eq_false (show ¬ (1000:Int) < (d:Int) by omega)]
   refine iteF ?_
   refine ⟨_,rfl,_,_,true,rfl,.lst hl,rfl,_,rfl,iteF ?_⟩
   refine ⟨_,rfl,l,_,rfl,.inl (SqL.of hl),_,rfl,rfl,_,rfl,?_⟩
   have el:decide (V.int (((qs.map fun q=>V.ref q.1).length:Nat):Int)=V.int (d:Int))=true:=decide_eq_true (by rw [List.length_map,lq])
   rw [el]
   refine iteF ?_
   have un:(qs.map (·.2)).Nodup:=by
    rw [pm.nodup_iff]
    have e:(rgL ns ps (srt ns)).map (rI ps.length)=((rgL ns ps (srt ns)).map (rise ps.length)).map nI:=by rw [List.map_map];rfl
    rw [e]
    exact nodup_map_inj (fun x y e=>nI_inj e) rnd
   have of_:∀ u∈qs,∃ (s:List Nat) (c:List Nat) (st:Str),u.2=nI s/\s=rise ps.length c/\CycAt (aT ps) (bT ps) ps.length ltT st c:=fun u hu=>by
    obtain ⟨c,hc,e⟩:=List.mem_map.mp (pm.mem_iff.mp (List.mem_map.mpr ⟨u,hu,rfl⟩))
    obtain ⟨st,_,g⟩:=(rgs_mem LB).mp hc
    exact ⟨_,c,st,e.symm,rfl,g⟩
   have ne:∀ u∈qs,u.2≠[]:=fun u hu=>by
    obtain ⟨s,c,st,e1,e2,g⟩:=of_ u hu
    rw [e1,e2]
    exact rI_ne g.kn g.cyc.ne
   refine ⟨_,rfl,_,rfl,l,qs,rfl,SqL.of hl,hold,un,by omega,fun sa nsa=>?_⟩
   have ss:=same_upd (o:=TpI P w sa qs) nsa
   have hsa:=upd_same (H:=H2) (a:=sa) (o:=TpI P w sa qs)
   have hold3:HoldI (upd H2 sa (TpI P w sa qs)) qs:=fun q hq=>ss _ _ (hold q hq)
   generalize upd H2 sa (TpI P w sa qs)=H3 at ss hsa hold3 ⊢
   refine ⟨sa,qs,rfl,hsa,hold3,ne,by omega,fun l2 qs2 nl2 pm2 up2=>?_⟩
   have eq2:qs2=qs:=by
    refine List.Perm.eq_of_pairwise (le:=fun a b=>ltI b.2 a.2=false) (fun a b ha hb h1 h2=>?_) up2 up pm2
    have e:=ltI_total a.2 b.2 h2 h1
    have ma:=pm2.mem_iff.mp ha
    have inj:∀ (l:List (Addr × List Int)),(l.map (·.2)).Nodup->a∈l->b∈l->a=b:=by
     intro l
     induction l with
     | nil=>intro _ h;cases h
     | cons z l ih =>
      intro h ha hb
      rw [List.map_cons,List.nodup_cons] at h
      rcases List.mem_cons.mp ha with rfl | ha
      ·rcases List.mem_cons.mp hb with hb | hb
       ·exact hb.symm
       ·exact absurd (List.mem_map.mpr ⟨b,hb,e.symm⟩) h.1
      ·rcases List.mem_cons.mp hb with hb | hb
       ·rw [hb] at e
        exact absurd (List.mem_map.mpr ⟨a,ha,e⟩) h.1
       ·exact ih h.2 ha hb
    exact inj qs un ma hb
   subst eq2
   have s4:=same_upd (o:=.lst (qs2.map fun q=>V.ref q.1)) nl2
   have hl2:=upd_same (H:=H3) (a:=l2) (o:=.lst (qs2.map fun q=>V.ref q.1))
   have hl4:=s4 _ _ (ss _ _ hl)
   have hold4:HoldI (upd H3 l2 (.lst (qs2.map fun q=>V.ref q.1))) qs2:=fun q hq=>s4 _ _ (hold3 q hq)
   have S24:=ss.trans s4
   generalize upd H3 l2 (.lst (qs2.map fun q=>V.ref q.1))=H4 at s4 hl2 hl4 hold4 S24 ⊢
   have al:AlS K H4 1 (.ref l) (.ref l2):=⟨l,l2,_,_,rfl,rfl,.inl ⟨SqL.of hl4,SqL.of hl2⟩,rfl,fun i a b ea eb=>by
    rw [ea] at eb
    cases eb
    rw [List.getElem?_map] at ea
    obtain ⟨q,eq,rfl⟩:=Option.map_eq_some_iff.mp ea
    refine .inr ⟨q.1,q.1,_,_,rfl,rfl,.inr ⟨SqT.of (hold4 q (List.mem_of_getElem? eq)),SqT.of (hold4 q (List.mem_of_getElem? eq))⟩,rfl,fun j x y ex ey=>?_⟩
    rw [ex] at ey
    cases ey
    obtain ⟨z,_,rfl⟩:=List.mem_map.mp (List.mem_of_getElem? ex)
    exact ⟨rfl,rfl⟩⟩
   refine ⟨al,_,rfl,iteF ?_⟩
   have S04:=s1.trans (s2.trans S24)
   have hb4:=S04 _ _ L.hb
   have hT4:=L.hT.same S04
   refine ⟨_,rfl,l,rfl,⟨_,SqL.of hl4⟩,lc_list (K:=K) (xs:=qs2.map fun q=>V.ref q.1) (fun j ys H5=>Same H4 H5/\ys=(List.replicate j true).map V.bl) ⟨Same.refl _,rfl⟩ ?_ ?_ ?_ ?_⟩
   ·rintro j ys H5 hj ⟨_,rfl⟩
    rw [List.length_map,List.length_replicate]
    rw [List.length_map] at hj
    exact Nat.le_trans (show j<=1000 by omega) (by decide)
   ·rintro j ys H5 _ ⟨s5,_⟩
    exact SqL.of (s5 _ _ hl4)
   ·rintro j v ys H5 R hv ⟨s5,rfl⟩ kR
    rw [List.getElem?_map] at hv
    obtain ⟨u,eu,rfl⟩:=Option.map_eq_some_iff.mp hv
    have mu:=List.mem_of_getElem? eu
    obtain ⟨s,c,st,e1,e2,g⟩:=of_ u mu
    have hu5:=s5 _ _ (hold4 u mu)
    rw [e1] at hu5
    have cnd:=nodup_of_map g.cyc.nd
    have rp:=rise_perm g.kn cnd
    rw [<- e2] at rp
    have cl:c.length<=12:=by
     have h:=g.cyc.nd.length_le_of_subset (l₂:=srt ns) fun z hz=>by
      obtain ⟨k',hk',rfl⟩:=List.mem_map.mp hz
      exact hin _ (g.kn _ hk')
     rw [List.length_map,(srt_perm ns).length_eq] at h
     have:=L.good.few
     omega
    have sl:s.length<=12:=by rw [rp.length_eq];exact cl
    have nls:(nI s).length=s.length:=List.length_map _
    simp only [tYes,gName,if_true]
    refine ⟨_,rfl,u.1,_,rfl,.inr (SqT.of hu5),fun l5 n5=>?_⟩
    have s6:=same_upd (o:=.lst ((nI s).map V.int)) n5
    have hl5:=upd_same (H:=H5) (a:=l5) (o:=.lst ((nI s).map V.int))
    have hu6:=s6 _ _ hu5
    generalize upd H5 l5 (.lst ((nI s).map V.int))=H6 at s6 hl5 hu6 ⊢
    refine ⟨_,rfl,u.1,nI s,rfl,SqT.of hu6,by rw [nls];omega,fun l6 ms n6 pm6 so6=>?_⟩
    have ems:ms=nI s:=by
     refine List.Perm.eq_of_pairwise (le:=(·<=·)) (fun x y _ _ h1 h2=>Int.le_antisymm h1 h2) so6 ?_ pm6
     unfold nI
     rw [List.pairwise_map,e2]
     exact (rise_lt _ c).imp fun h=>by omega
    subst ems
    have s7:=same_upd (o:=.lst ((nI s).map V.int)) n6
    have hl6:=upd_same (H:=H6) (a:=l6) (o:=.lst ((nI s).map V.int))
    have hl5':=s7 _ _ hl5
    have hu7:=s7 _ _ hu6
    generalize upd H6 l6 (.lst ((nI s).map V.int))=H7 at s7 hl6 hl5' hu7 ⊢
    have fl:((nI s).map V.int).all flatV=true:=by simp [flatV]
    refine ⟨l5,l6,_,_,rfl,rfl,.inl ⟨SqL.of hl5',SqL.of hl6⟩,fl,fl,_,rfl,?_⟩
    simp only [Bool.false_eq_true,if_false]
    rw [eqVs_self fl]
    have s47:=s5.trans (s6.trans s7)
    have hu8:H7 u.1=some (.tup (s.map fun (k:Nat)=>V.int (k:Int))):=by rw [hu7];unfold nI;rw [List.map_map];rfl
    have sne:s≠[]:=fun z=>by rw [z] at rp;exact g.cyc.ne (List.nil_perm.mp rp)
    have slt:∀ k∈s,k < ps.length:=fun k hk=>g.kn k (rp.mem_iff.mp hk)
    have isr:isR (aT ps) (bT ps) s=true:=(isR_iff (by rw [e2];exact rise_nodup _ c)).mpr ⟨st,c,g.cyc,rp.symm⟩
    refine iteT ⟨_,rfl,_,rfl,b,u.1,ts,ps,s,rfl,s47 _ _ hb4,hT4.same s47,hu8,sne,sl,slt,fun H8 s8=>?_⟩
    rw [isr]
    exact kR _ _ ⟨s47.trans s8,by rw [List.replicate_succ',List.map_append];rfl⟩
   ·rintro ys H5 ⟨s5,rfl⟩ D nD
    have sD:=same_upd (o:=.lst ((List.replicate (qs2.map fun q=>V.ref q.1).length true).map V.bl)) nD
    have hD:=upd_same (H:=H5) (a:=D) (o:=.lst ((List.replicate (qs2.map fun q=>V.ref q.1).length true).map V.bl))
    generalize upd H5 D (.lst ((List.replicate (qs2.map fun q=>V.ref q.1).length true).map V.bl))=H6 at sD hD ⊢
    refine ⟨D,_,rfl,SqL.of hD,?_⟩
    have ea:∀ n,(List.replicate n true).all id=true:=fun n=>by simp
    rw [ea]
    exact k _ (S04.trans (s5.trans sD))
end
open PySem PySem.Spec PyProof.Rows L2 L3
abbrev sLaw75:Stmt:=top 40 -- law
theorem exm_mk {K:PySem.W.Frag} {t c:Value} (h1:PySem.W.subIn K c (.type "BaseException")=some true) (h2:PySem.W.kitOne K t c=some true) (h3:(t == c)=false):PySem.W.exmOne K t c=some true:=by
 unfold PySem.W.exmOne
 unfold PySem.W.kitOne at h2
 rw [h3,if_neg Bool.false_ne_true] at h2
 rw [if_pos (by rw [h1];rfl),h2]
section
variable {P:Program} {w:World} {K:PySem.W.Frag} {mg:Str->Option Value} {base:Heap}
variable {C E0 E7 A1 A2 A3 fP fS fIn fN fA fTi f1 f2 fL fSp fLB fAR fRg fPo fTk fNa fRO fCo fWb fGr fMx fTo fRi fIR f:Addr} {fdP fdS fdIn fdN fdA fdTi fd1 fd2 fdL fdSp fdLB fdAR fdRg fdPo fdTk fdNa fdRO fdCo fdWb fdGr fdMx fdTo fdRi fdIR fd:FuncData}
def spLaw (K:PySem.W.Frag):Sp:=fun vs H Q _=>∃ (a:Addr) (ns:List Int),vs=[.ref a]/\SqL K H a (ns.map V.int)/\ns.length<=63/\∀ H',Q (.bl true) H'
abbrev nL:List Str:=["_law_script","_law_k","_law_pot_here","_law_names_here","_law_ties","_law_due"]
theorem scL:FnScope nL ["_law_script"] (defScope sLaw75):=⟨rfl,rfl,rfl,by decide +kernel,rfl,by decide +kernel,by decide +kernel⟩
theorem ok_law (F:Fun K "law" "law" sLaw75 f fd) (DPo:Df K mg "_law_pot" sPot ["_law_script","_law_k"] fPo fdPo) (DTk:Df K mg "_law_take" sTake ["_law_pot_here","_law_many"] fTk fdTk) (DNa:Df K mg "_law_names" sNames ["_law_pot_here","_law_many"] fNa fdNa) (DWb:Df K mg "_law_web" sWb aWb fWb fdWb) (GWb:FnOk P w K mg base CX0 3 fWb fdWb aWb spWb)
  (DMx:Df K mg "_law_mixed" sMx aMx fMx fdMx) (DGr:Df K mg "_law_great" sGr aGr fGr fdGr) (GGr:FnOk P w K mg base CX0 3 fGr fdGr aGr spGr) (DRi:Df K mg "_law_right" sRi aRi fRi fdRi) (GRi:FnOk P w K mg base CX0 6 fRi fdRi aRi spRi) (ab:mg "abs" = none) (T:Glb mg):FnOk P w K mg base CX0 7 f fd ["_law_script"] (spLaw K):=by
 have GPo:FnOk P w K mg base CX0 1 fPo fdPo ["_law_script","_law_k"] (spPot (K:=K)):=ok_pot DPo.fn T ab
 have GTk:FnOk P w K mg base CX0 1 fTk fdTk ["_law_pot_here","_law_many"] spDraw:=ok_take DTk.fn T
 have GNa:FnOk P w K mg base CX0 2 fNa fdNa ["_law_pot_here","_law_many"] spNames:=ok_names DNa.fn DTk T
 have GMx:FnOk P w K mg base CX0 2 fMx fdMx aMx spMx:=ok_mx DMx.fn DTk T
 refine F.ok scL (fun vs H Q E h=>?_) (fun cdv A outer s H vs Q E hr h=>?_)
 ·obtain ⟨a,ns,rfl,_⟩:=h
  rfl
 ·obtain ⟨a,ns,rfl,hS,hlen,k⟩:=h
  have h1:=hr.mono (j:=1) (by decide)
  have h2:=hr.mono (j:=2) (by decide)
  have h3:=hr.mono (j:=3) (by decide)
  refine ⟨_,pss_cons (ps_for PassesOwn.never rfl (pi_range1 rfl T.range (pa_cons (pe_callB (call_max2 rfl) (by rfl) T.max boot_max (pa_cons pe_int (pa_cons (pe_callB (call_min2 rfl) (by rfl) T.min boot_min (pa_cons (pe_callB call_len_seq (by rfl) T.len PySem.boot_len (pa_cons (pv 0) pa_nil)) (pa_cons pe_int pa_nil))) pa_nil))) pa_nil)) (pg_name (i:=1) scL.nd rfl (Or.inl rfl))
    (pss_cons (ps_set (i:=2) scL.nd rfl (Or.inl rfl) (pe_call GPo h1 rfl DPo.mgf DPo.fn.kp DPo.b .nil pass0 (pa_cons (pv 0) (pa_cons (pv 1) pa_nil))))
    (pss_cons (ps_set (i:=3) scL.nd rfl (Or.inl rfl) (pe_call GNa h2 rfl DNa.mgf DNa.fn.kp DNa.b .nil pass0 (pa_cons (pv 2) (pa_cons (pe_op op_add pe_int (pe_call GTk h1 rfl DTk.mgf DTk.fn.kp DTk.b .nil pass0 (pa_cons (pv 2) (pa_cons pe_int pa_nil)))) pa_nil))))
    (pss_cons (ps_asg (pe_call GWb h3 rfl DWb.mgf DWb.fn.kp DWb.b .nil pass0 (pa_cons (pv 2) (pa_cons (pv 3) pa_nil))) (pg_tup rfl (pgs_cons (pg_name (i:=4) scL.nd rfl (Or.inl rfl)) (pgs_cons (pg_name (i:=5) scL.nd rfl (Or.inl rfl)) pgs_nil))))
    (pss_one (ps_if (pt_not (pt_val (pe_call GRi hr rfl DRi.mgf DRi.fn.kp DRi.b .nil pass0 (pa_cons (pv 3) (pa_cons (pe_call GMx h2 rfl DMx.mgf DMx.fn.kp DMx.b .nil pass0 (pa_cons (pv 2) (pa_cons (pv 4) pa_nil))) (pa_cons (pv 5) pa_nil)))) (fun _=>rfl))) (pss_one (ps_ret pe_bl)) pss_nil))))))
   (pss_cons (ps_set (i:=2) scL.nd rfl (Or.inl rfl) (pe_call GPo h1 rfl DPo.mgf DPo.fn.kp DPo.b .nil pass0 (pa_cons (pv 0) (pa_cons pe_int pa_nil))))
   (pss_cons (ps_asg (pe_call GGr h3 rfl DGr.mgf DGr.fn.kp DGr.b .nil pass0 (pa_cons (pv 2) (pa_cons (pe_op op_add pe_int (pe_call GTk h1 rfl DTk.mgf DTk.fn.kp DTk.b .nil pass0 (pa_cons (pv 2) (pa_cons pe_int pa_nil)))) pa_nil))) (pg_tup rfl (pgs_cons (pg_name (i:=3) scL.nd rfl (Or.inl rfl)) (pgs_cons (pg_name (i:=4) scL.nd rfl (Or.inl rfl)) (pgs_cons (pg_name (i:=5) scL.nd rfl (Or.inl rfl)) pgs_nil)))))
   (pss_one (ps_ret (pe_call GRi hr rfl DRi.mgf DRi.fn.kp DRi.b .nil pass0 (pa_cons (pv 3) (pa_cons (pv 4) (pa_cons (pv 5) pa_nil)))))))),?_⟩
  refine ⟨_,rfl,a,_,rfl,.inl hS,_,_,rfl,_,_,rfl,_,rfl,?_,?_,?_⟩
  ·rw [List.length_map];split<;>(try split)<;>omega
  ·rw [List.length_map];split<;>(try split)<;>omega
  refine for_range (fun i σ H1=>(∃ v1 v2 v3 v4 v5,σ=[some (V.ref a),v1,v2,v3,v4,v5])/\Same H H1) ⟨⟨_,_,_,_,_,rfl⟩,Same.refl _⟩ ?_ ?_
  ·rintro i σ H1 hi ⟨⟨v1,v2,v3,v4,v5,rfl⟩,s1⟩
   refine ⟨_,rfl,_,rfl,a,ns,0+i,by simp,s1.seq hS,hlen,fun p H2 np row2 s12=>?_⟩
   have Hp0:H p=none:=s1.free np
   refine ⟨_,rfl,_,rfl,p,11,rfl,row2,by decide,by decide,fun d H3 d0 d1 row3 b3=>?_⟩
   refine ⟨_,_,rfl,rfl,p,_,rfl,by omega,by omega,row3,fun q zs H4 gp ln nq hq row4 b4=>?_⟩
   have nqp:q≠p:=fun e=>by rw [e] at nq;obtain ⟨x,y,z⟩:=row3;rw [z] at nq;cases nq
   have s4:Same H H4:=Same.but (Same.but (s1.trans s12) b3 Hp0) b4 Hp0
   refine ⟨_,rfl,_,rfl,p,q,zs,rfl,row4,nqp,hq,gp,by omega,fun t lt ts ps dd H5 nlt ht hlt hT hI l30 due row5 b5=>?_⟩
   refine ⟨t,_,rfl,SqT.of ht,rfl,_,_,rfl,_,_,rfl,rfl,?_⟩
   have s5:Same H H5:=Same.but s4 b5 Hp0
   have hq5:=b5 _ _ hq nqp
   have nltp:lt≠p:=fun e=>by rw [e] at nlt;obtain ⟨x,y,z⟩:=row4;rw [z] at nlt;cases nlt
   refine ⟨_,rfl,_,rfl,_,rfl,p,lt,ts,ps,rfl,row5,nltp,hlt,hT,l30,fun c us qs H6 nc hc hU pm row6 b6=>?_⟩
   have hq6:=b6 _ _ hq5 nqp
   have s6:Same H H6:=Same.but s5 b6 Hp0
   refine ⟨_,rfl,q,c,zs,qs,us,dd,rfl,⟨hq6,hc,hU,gp,fun r hr=>hI r (pm.mem_iff.mp hr),by rw [pm.length_eq];exact l30⟩,due qs pm,fun H7 s7=>⟨_,rfl,iteF ?_⟩⟩
   exact ⟨⟨_,_,_,_,_,rfl⟩,s6.trans s7⟩
  ·rintro σ H1 ⟨⟨v1,v2,v3,v4,v5,rfl⟩,s1⟩
   refine ⟨_,rfl,a,ns,0,rfl,s1.seq hS,hlen,fun p H2 np row2 s12=>?_⟩
   refine ⟨_,rfl,_,rfl,p,2,rfl,row2,by decide,by decide,fun d H3 d0 d1 row3 b3=>?_⟩
   obtain ⟨dn,rfl⟩:=Int.eq_ofNat_of_zero_le d0
   refine ⟨_,_,rfl,rfl,p,1+dn,?_,row3,by omega,fun t n c zs us qs dd H4 ht L cnt=>?_⟩
   ·have e:(1:Int)+(dn:Int)=((1+dn:Nat):Int):=by omega
    dsimp only
    rw [e]
    rfl
   refine ⟨t,_,rfl,SqT.of ht,rfl,_,_,rfl,_,_,rfl,_,_,rfl,rfl,?_⟩
   exact ⟨_,rfl,_,rfl,_,rfl,n,c,zs,qs,us,dd,rfl,L,cnt,fun H5 _=>k H5⟩
theorem law_all (F:Fun K "law" "law" sLaw75 f fd) (FI:Fun K "__init__" "Web.__init__" sInit fIn fdIn) (MkW:Mk K C fIn) (bI:Binds K fdIn ["self","places","ties"] []) (DN:Df K mg "is_name" sName ["thing"] fN fdN) (DA:Df K mg "is_among" sAmong ["places","thing"] fA fdA) (DTi:Df K mg "is_tie" sTie ["places","thing"] fTi fdTi) (D1:Df K mg "check_places" sChkP ["places"] f1 fd1) (D2:Df K mg "check_ties" sChkT ["places","ties"] f2 fd2)
  (M:Mt K mg C fP fS fdP fdS) (X:Errs K mg E0 E7 A1 A2 A3) (DL:Df K mg "leads" sLeads ["places","ties"] fL fdL) (DSp:Df K mg "spread" sSpread ["steps","start"] fSp fdSp) (DB:Df K mg "leads_back" sLB aLB fLB fdLB) (DAR:Df K mg "add_rings_from" sAR aAR fAR fdAR) (DR:Df K mg "rings" sRg ["web"] fRg fdRg)
  (DPo:Df K mg "_law_pot" sPot ["_law_script","_law_k"] fPo fdPo) (DTk:Df K mg "_law_take" sTake ["_law_pot_here","_law_many"] fTk fdTk) (DNa:Df K mg "_law_names" sNames ["_law_pot_here","_law_many"] fNa fdNa) (DIR:Df K mg "_law_is_ring" sIR aIR fIR fdIR) (DRO:Df K mg "_law_ring_of" sRO aRO fRO fdRO) (DCo:Df K mg "_law_counts" sCo aCo fCo fdCo) (DWb:Df K mg "_law_web" sWb aWb fWb fdWb) (DGr:Df K mg "_law_great" sGr aGr fGr fdGr) (DMx:Df K mg "_law_mixed" sMx aMx fMx fdMx) (DTo:Df K mg "_law_told" sTo ["_law_web_here"] fTo fdTo) (DRi:Df K mg "_law_right" sRi aRi fRi fdRi)
  (ab:mg "abs" = none) (en:mg "enumerate" = none) (hm:∃ t,mg "MOST_RINGS" = some (.int 1000 t)) (T:Glb mg):FnOk P w K mg base CX0 7 f fd ["_law_script"] (spLaw K):=by
 obtain ⟨t,hm⟩:=hm
 have GI:FnOk P w K mg base CX0 4 fIn fdIn ["self","places","ties"] (spInit C):=ok_init FI M.wc DN DA DTi D1 D2 T
 have GR:FnOk P w K mg base (CXO P w) 4 fRg fdRg ["web"] (spRg C E7):=ok_rg DR.fn M DL DSp DB DAR en hm X.x7 T
 have GTo:FnOk P w K mg base CX0 5 fTo fdTo ["_law_web_here"] (spTo C):=ok_to DTo.fn X DR GR T
 have GRi:FnOk P w K mg base CX0 6 fRi fdRi aRi spRi:=ok_ri DRi.fn M.wc MkW bI GI DTo GTo DIR T
 exact ok_law F DPo DTk DNa DWb (ok_wb DWb.fn DTk DCo DRO en T) DMx DGr (ok_gr DGr.fn DTk DNa DRO DMx en T) DRi GRi ab T
end
open PySem PySem.Spec PyProof.Rows L2
theorem all_mk {l:PySem.W.OpenLaw} {w:World} {K:PySem.W.Frag} {h:Heap} {mg:Str->Option Value} {fa:Addr} {C:Addr} {f1:Addr} {od1 an1:Option Addr} {sl1:Array (Option Value)} {oc1 kV1 dc1 pm1 cd1 ct1:Value} {f2:Addr} {od2 an2:Option Addr} {sl2:Array (Option Value)} {oc2 kV2 dc2 pm2 cd2 ct2:Value} {f3:Addr} {od3 an3:Option Addr} {sl3:Array (Option Value)} {oc3 kV3 dc3 pm3 cd3 ct3:Value} {f4:Addr} {od4 an4:Option Addr} {sl4:Array (Option Value)} {oc4 kV4 dc4 pm4 cd4 ct4:Value} {f5:Addr} {od5 an5:Option Addr} {sl5:Array (Option Value)} {oc5 kV5 dc5 pm5 cd5 ct5:Value} {f6:Addr} {od6 an6:Option Addr} {sl6:Array (Option Value)} {oc6 kV6 dc6 pm6 cd6 ct6:Value} {f7:Addr} {od7 an7:Option Addr} {sl7:Array (Option Value)} {oc7 kV7 dc7 pm7 cd7 ct7:Value} {f8:Addr} {od8 an8:Option Addr} {sl8:Array (Option Value)} {oc8 kV8 dc8 pm8 cd8 ct8:Value} {f9:Addr} {od9 an9:Option Addr} {sl9:Array (Option Value)} {oc9 kV9 dc9 pm9 cd9 ct9:Value} {f10:Addr} {od10 an10:Option Addr} {sl10:Array (Option Value)} {oc10 kV10 dc10 pm10 cd10 ct10:Value} {f11:Addr} {od11 an11:Option Addr} {sl11:Array (Option Value)} {oc11 kV11 dc11 pm11 cd11 ct11:Value} {f12:Addr} {od12 an12:Option Addr} {sl12:Array (Option Value)} {oc12 kV12 dc12 pm12 cd12 ct12:Value} {f13:Addr} {od13 an13:Option Addr} {sl13:Array (Option Value)} {oc13 kV13 dc13 pm13 cd13 ct13:Value} {f14:Addr} {od14 an14:Option Addr} {sl14:Array (Option Value)} {oc14 kV14 dc14 pm14 cd14 ct14:Value} {f15:Addr} {od15 an15:Option Addr} {sl15:Array (Option Value)} {oc15 kV15 dc15 pm15 cd15 ct15:Value} {f16:Addr} {od16 an16:Option Addr} {sl16:Array (Option Value)} {oc16 kV16 dc16 pm16 cd16 ct16:Value} {f17:Addr} {od17 an17:Option Addr} {sl17:Array (Option Value)} {oc17 kV17 dc17 pm17 cd17 ct17:Value} {f18:Addr} {od18 an18:Option Addr} {sl18:Array (Option Value)} {oc18 kV18 dc18 pm18 cd18 ct18:Value} {f19:Addr} {od19 an19:Option Addr} {sl19:Array (Option Value)} {oc19 kV19 dc19 pm19 cd19 ct19:Value} {f20:Addr} {od20 an20:Option Addr} {sl20:Array (Option Value)} {oc20 kV20 dc20 pm20 cd20 ct20:Value} {f21:Addr} {od21 an21:Option Addr} {sl21:Array (Option Value)} {oc21 kV21 dc21 pm21 cd21 ct21:Value} {f22:Addr} {od22 an22:Option Addr} {sl22:Array (Option Value)} {oc22 kV22 dc22 pm22 cd22 ct22:Value} {f23:Addr} {od23 an23:Option Addr} {sl23:Array (Option Value)} {oc23 kV23 dc23 pm23 cd23 ct23:Value} {f24:Addr} {od24 an24:Option Addr} {sl24:Array (Option Value)} {oc24 kV24 dc24 pm24 cd24 ct24:Value} {f25:Addr} {od25 an25:Option Addr} {sl25:Array (Option Value)} {oc25 kV25 dc25 pm25 cd25 ct25:Value} {E0:Addr} {E7:Addr} {A1:Addr} {A2:Addr} {A3:Addr} {t_LONGEST:Tok} {t_MOST_PLACES:Tok} {t_MOST_TIES:Tok} {t_MOST_RINGS:Tok} (X:K.In h) (G:h.Ns mainGlobals mg) (hfa:mg "law" = some (.ref fa))
  (aC:W.nsIn K mainGlobals "Web" = some (some (.ref C)))
  (a1:W.findIn K (.ref C) "__init__" = some (some (.ref f1)))
  (i1:W.isFn K (.ref f1)=true)
  (l1:K.lookup f1=some ⟨oc1,od1,.func (PySem.W.fnOf "__init__" "Web.__init__" (defArgs sInit) (defBody sInit) (defScope sInit) .none kV1 dc1 pm1 an1 cd1 ct1),sl1⟩)
  (c1:W.codeIn K cd1 "Web.__init__" = true)
  (k1:W.keepIn K (.ref f1)=true)
  (a2:W.findIn K (.ref C) "places" = some (some (.ref f2)))
  (i2:W.isFn K (.ref f2)=true)
  (l2:K.lookup f2=some ⟨oc2,od2,.func (PySem.W.fnOf "places" "Web.places" (defArgs sPlaces) (defBody sPlaces) (defScope sPlaces) .none kV2 dc2 pm2 an2 cd2 ct2),sl2⟩)
  (c2:W.codeIn K cd2 "Web.places" = true)
  (k2:W.keepIn K (.ref f2)=true)
  (a3:W.findIn K (.ref C) "ties" = some (some (.ref f3)))
  (i3:W.isFn K (.ref f3)=true)
  (l3:K.lookup f3=some ⟨oc3,od3,.func (PySem.W.fnOf "ties" "Web.ties" (defArgs sTies) (defBody sTies) (defScope sTies) .none kV3 dc3 pm3 an3 cd3 ct3),sl3⟩)
  (c3:W.codeIn K cd3 "Web.ties" = true)
  (k3:W.keepIn K (.ref f3)=true)
  (pg:W.plainGet K C Str.empty=true)
  (hd:W.hasDictIn K C=true)
  (po:W.plainOver K C=true)
  (sa:W.findIn K (.ref C) "__setattr__" = some (some (.builtin "object.__setattr__")))
  (mk:W.makesIn K C=true)
  (kc:W.keepIn K (.ref C)=true)
  (nA0:W.findIn K (.ref C) "kept_places" = some none)
  (nA1:W.findIn K (.ref C) "kept_ties" = some none)
  (a4:W.nsIn K mainGlobals "is_name" = some (some (.ref f4)))
  (l4:K.lookup f4=some ⟨oc4,od4,.func (PySem.W.fnOf "is_name" "is_name" (defArgs sName) (defBody sName) (defScope sName) .none kV4 dc4 pm4 an4 cd4 ct4),sl4⟩)
  (c4:W.codeIn K cd4 "is_name" = true)
  (k4:W.keepIn K (.ref f4)=true)
  (a5:W.nsIn K mainGlobals "check_places" = some (some (.ref f5)))
  (l5:K.lookup f5=some ⟨oc5,od5,.func (PySem.W.fnOf "check_places" "check_places" (defArgs sChkP) (defBody sChkP) (defScope sChkP) .none kV5 dc5 pm5 an5 cd5 ct5),sl5⟩)
  (c5:W.codeIn K cd5 "check_places" = true)
  (k5:W.keepIn K (.ref f5)=true)
  (a6:W.nsIn K mainGlobals "is_among" = some (some (.ref f6)))
  (l6:K.lookup f6=some ⟨oc6,od6,.func (PySem.W.fnOf "is_among" "is_among" (defArgs sAmong) (defBody sAmong) (defScope sAmong) .none kV6 dc6 pm6 an6 cd6 ct6),sl6⟩)
  (c6:W.codeIn K cd6 "is_among" = true)
  (k6:W.keepIn K (.ref f6)=true)
  (a7:W.nsIn K mainGlobals "is_tie" = some (some (.ref f7)))
  (l7:K.lookup f7=some ⟨oc7,od7,.func (PySem.W.fnOf "is_tie" "is_tie" (defArgs sTie) (defBody sTie) (defScope sTie) .none kV7 dc7 pm7 an7 cd7 ct7),sl7⟩)
  (c7:W.codeIn K cd7 "is_tie" = true)
  (k7:W.keepIn K (.ref f7)=true)
  (a8:W.nsIn K mainGlobals "check_ties" = some (some (.ref f8)))
  (l8:K.lookup f8=some ⟨oc8,od8,.func (PySem.W.fnOf "check_ties" "check_ties" (defArgs sChkT) (defBody sChkT) (defScope sChkT) .none kV8 dc8 pm8 an8 cd8 ct8),sl8⟩)
  (c8:W.codeIn K cd8 "check_ties" = true)
  (k8:W.keepIn K (.ref f8)=true)
  (a9:W.nsIn K mainGlobals "leads" = some (some (.ref f9)))
  (l9:K.lookup f9=some ⟨oc9,od9,.func (PySem.W.fnOf "leads" "leads" (defArgs sLeads) (defBody sLeads) (defScope sLeads) .none kV9 dc9 pm9 an9 cd9 ct9),sl9⟩)
  (c9:W.codeIn K cd9 "leads" = true)
  (k9:W.keepIn K (.ref f9)=true)
  (a10:W.nsIn K mainGlobals "spread" = some (some (.ref f10)))
  (l10:K.lookup f10=some ⟨oc10,od10,.func (PySem.W.fnOf "spread" "spread" (defArgs sSpread) (defBody sSpread) (defScope sSpread) .none kV10 dc10 pm10 an10 cd10 ct10),sl10⟩)
  (c10:W.codeIn K cd10 "spread" = true)
  (k10:W.keepIn K (.ref f10)=true)
  (a11:W.nsIn K mainGlobals "leads_back" = some (some (.ref f11)))
  (l11:K.lookup f11=some ⟨oc11,od11,.func (PySem.W.fnOf "leads_back" "leads_back" (defArgs sLB) (defBody sLB) (defScope sLB) .none kV11 dc11 pm11 an11 cd11 ct11),sl11⟩)
  (c11:W.codeIn K cd11 "leads_back" = true)
  (k11:W.keepIn K (.ref f11)=true)
  (a12:W.nsIn K mainGlobals "add_rings_from" = some (some (.ref f12)))
  (l12:K.lookup f12=some ⟨oc12,od12,.func (PySem.W.fnOf "add_rings_from" "add_rings_from" (defArgs sAR) (defBody sAR) (defScope sAR) .none kV12 dc12 pm12 an12 cd12 ct12),sl12⟩)
  (c12:W.codeIn K cd12 "add_rings_from" = true)
  (k12:W.keepIn K (.ref f12)=true)
  (a13:W.nsIn K mainGlobals "rings" = some (some (.ref f13)))
  (l13:K.lookup f13=some ⟨oc13,od13,.func (PySem.W.fnOf "rings" "rings" (defArgs sRg) (defBody sRg) (defScope sRg) .none kV13 dc13 pm13 an13 cd13 ct13),sl13⟩)
  (c13:W.codeIn K cd13 "rings" = true)
  (k13:W.keepIn K (.ref f13)=true)
  (a14:W.nsIn K mainGlobals "_law_pot" = some (some (.ref f14)))
  (l14:K.lookup f14=some ⟨oc14,od14,.func (PySem.W.fnOf "_law_pot" "_law_pot" (defArgs sPot) (defBody sPot) (defScope sPot) .none kV14 dc14 pm14 an14 cd14 ct14),sl14⟩)
  (c14:W.codeIn K cd14 "_law_pot" = true)
  (k14:W.keepIn K (.ref f14)=true)
  (a15:W.nsIn K mainGlobals "_law_take" = some (some (.ref f15)))
  (l15:K.lookup f15=some ⟨oc15,od15,.func (PySem.W.fnOf "_law_take" "_law_take" (defArgs sTake) (defBody sTake) (defScope sTake) .none kV15 dc15 pm15 an15 cd15 ct15),sl15⟩)
  (c15:W.codeIn K cd15 "_law_take" = true)
  (k15:W.keepIn K (.ref f15)=true)
  (a16:W.nsIn K mainGlobals "_law_names" = some (some (.ref f16)))
  (l16:K.lookup f16=some ⟨oc16,od16,.func (PySem.W.fnOf "_law_names" "_law_names" (defArgs sNames) (defBody sNames) (defScope sNames) .none kV16 dc16 pm16 an16 cd16 ct16),sl16⟩)
  (c16:W.codeIn K cd16 "_law_names" = true)
  (k16:W.keepIn K (.ref f16)=true)
  (a17:W.nsIn K mainGlobals "_law_is_ring" = some (some (.ref f17)))
  (l17:K.lookup f17=some ⟨oc17,od17,.func (PySem.W.fnOf "_law_is_ring" "_law_is_ring" (defArgs sIR) (defBody sIR) (defScope sIR) .none kV17 dc17 pm17 an17 cd17 ct17),sl17⟩)
  (c17:W.codeIn K cd17 "_law_is_ring" = true)
  (k17:W.keepIn K (.ref f17)=true)
  (a18:W.nsIn K mainGlobals "_law_ring_of" = some (some (.ref f18)))
  (l18:K.lookup f18=some ⟨oc18,od18,.func (PySem.W.fnOf "_law_ring_of" "_law_ring_of" (defArgs sRO) (defBody sRO) (defScope sRO) .none kV18 dc18 pm18 an18 cd18 ct18),sl18⟩)
  (c18:W.codeIn K cd18 "_law_ring_of" = true)
  (k18:W.keepIn K (.ref f18)=true)
  (a19:W.nsIn K mainGlobals "_law_counts" = some (some (.ref f19)))
  (l19:K.lookup f19=some ⟨oc19,od19,.func (PySem.W.fnOf "_law_counts" "_law_counts" (defArgs sCo) (defBody sCo) (defScope sCo) .none kV19 dc19 pm19 an19 cd19 ct19),sl19⟩)
  (c19:W.codeIn K cd19 "_law_counts" = true)
  (k19:W.keepIn K (.ref f19)=true)
  (a20:W.nsIn K mainGlobals "_law_web" = some (some (.ref f20)))
  (l20:K.lookup f20=some ⟨oc20,od20,.func (PySem.W.fnOf "_law_web" "_law_web" (defArgs sWb) (defBody sWb) (defScope sWb) .none kV20 dc20 pm20 an20 cd20 ct20),sl20⟩)
  (c20:W.codeIn K cd20 "_law_web" = true)
  (k20:W.keepIn K (.ref f20)=true)
  (a21:W.nsIn K mainGlobals "_law_great" = some (some (.ref f21)))
  (l21:K.lookup f21=some ⟨oc21,od21,.func (PySem.W.fnOf "_law_great" "_law_great" (defArgs sGr) (defBody sGr) (defScope sGr) .none kV21 dc21 pm21 an21 cd21 ct21),sl21⟩)
  (c21:W.codeIn K cd21 "_law_great" = true)
  (k21:W.keepIn K (.ref f21)=true)
  (a22:W.nsIn K mainGlobals "_law_mixed" = some (some (.ref f22)))
  (l22:K.lookup f22=some ⟨oc22,od22,.func (PySem.W.fnOf "_law_mixed" "_law_mixed" (defArgs sMx) (defBody sMx) (defScope sMx) .none kV22 dc22 pm22 an22 cd22 ct22),sl22⟩)
  (c22:W.codeIn K cd22 "_law_mixed" = true)
  (k22:W.keepIn K (.ref f22)=true)
  (a23:W.nsIn K mainGlobals "_law_told" = some (some (.ref f23)))
  (l23:K.lookup f23=some ⟨oc23,od23,.func (PySem.W.fnOf "_law_told" "_law_told" (defArgs sTo) (defBody sTo) (defScope sTo) .none kV23 dc23 pm23 an23 cd23 ct23),sl23⟩)
  (c23:W.codeIn K cd23 "_law_told" = true)
  (k23:W.keepIn K (.ref f23)=true)
  (a24:W.nsIn K mainGlobals "_law_right" = some (some (.ref f24)))
  (l24:K.lookup f24=some ⟨oc24,od24,.func (PySem.W.fnOf "_law_right" "_law_right" (defArgs sRi) (defBody sRi) (defScope sRi) .none kV24 dc24 pm24 an24 cd24 ct24),sl24⟩)
  (c24:W.codeIn K cd24 "_law_right" = true)
  (k24:W.keepIn K (.ref f24)=true)
  (a25:W.nsIn K mainGlobals "law" = some (some (.ref f25)))
  (l25:K.lookup f25=some ⟨oc25,od25,.func (PySem.W.fnOf "law" "law" (defArgs sLaw75) (defBody sLaw75) (defScope sLaw75) .none kV25 dc25 pm25 an25 cd25 ct25),sl25⟩)
  (c25:W.codeIn K cd25 "law" = true)
  (k25:W.keepIn K (.ref f25)=true)
  (xE0:W.nsIn K mainGlobals "WebError" = some (some (.ref E0)))
  (xE7:W.nsIn K mainGlobals "TooMany" = some (some (.ref E7)))
  (yE7:W.excIn K E7 [.type "ValueError",.type "Exception",.type "BaseException",.type "object"] "ValueError.__new__" = true)
  (zE7_0:W.isClsIn K E7=true)
  (zE7_1:W.mroIn K E7 (.type "object")=some true)
  (zE7_2:W.mroIn K E7 (.type "BaseException")=some true)
  (zE7_3:W.findIn K (.ref E7) "__getattribute__" = some (some (.builtin "BaseException.__getattribute__")))
  (zE7_4:W.findIn K (.ref E7) "__getattr__" = some none)
  (zE7_5:W.findIn K (.ref E7) "__class__" = some (some (.builtin "object.__class__")))
  (xA1:W.nsIn K mainGlobals "NoCut" = some (some (.ref A1)))
  (xA2:W.nsIn K mainGlobals "NoFlat" = some (some (.ref A2)))
  (xA3:W.nsIn K mainGlobals "NoRing" = some (some (.ref A3)))
  (g_divmod:W.nsIn K mainGlobals "divmod" = some none)
  (g_len:W.nsIn K mainGlobals "len" = some none)
  (g_all:W.nsIn K mainGlobals "all" = some none)
  (g_isinstance:W.nsIn K mainGlobals "isinstance" = some none)
  (g_str:W.nsIn K mainGlobals "str" = some none)
  (g_range:W.nsIn K mainGlobals "range" = some none)
  (g_max:W.nsIn K mainGlobals "max" = some none)
  (g_min:W.nsIn K mainGlobals "min" = some none)
  (g_bool:W.nsIn K mainGlobals "bool" = some none)
  (g_list:W.nsIn K mainGlobals "list" = some none)
  (g_int:W.nsIn K mainGlobals "int" = some none)
  (g_tuple:W.nsIn K mainGlobals "tuple" = some none)
  (g_set:W.nsIn K mainGlobals "set" = some none)
  (g_sorted:W.nsIn K mainGlobals "sorted" = some none)
  (g_abs:W.nsIn K mainGlobals "abs" = some none)
  (g_enumerate:W.nsIn K mainGlobals "enumerate" = some none)
  (g_ValueError:W.nsIn K mainGlobals "ValueError" = some none)
  (g_LONGEST:W.nsIn K mainGlobals "LONGEST" = some (some (.int 8 t_LONGEST)))
  (g_MOST_PLACES:W.nsIn K mainGlobals "MOST_PLACES" = some (some (.int 12 t_MOST_PLACES)))
  (g_MOST_TIES:W.nsIn K mainGlobals "MOST_TIES" = some (some (.int 30 t_MOST_TIES)))
  (g_MOST_RINGS:W.nsIn K mainGlobals "MOST_RINGS" = some (some (.int 1000 t_MOST_RINGS)))
  (q1a:W.subIn K (.ref E0) (.type "BaseException")=some true)
  (q1b:W.kitOne K (.ref E7) (.ref E0)=some true)
  (q1c:(Value.ref E7 == Value.ref E0)=false)
  (q2:W.kitOne K (.ref E7) (.ref E7)=some true)
  (q3:W.kitOne K (.ref E7) (.type "ValueError")=some true)
  (q4:W.kitAny K (.ref E7) [.ref A1,.ref A2,.ref A3]=some false)
  : ∃ fd:FuncData,(∀ (s:Shared) (v:Value),BindsTo s fd ⟨[v],[]⟩ [("_law_script",v)])/\∀ base:Heap,K.In base->base.Ns mainGlobals mg->FnOk l.prog w K mg base CX0 7 fa fd ["_law_script"] (spLaw K):=by
 have e:=hfa.symm.trans (PySem.W.mg_of X G a25)
 cases e
 have F_init:=fun_mk (st:=sInit) l1 c1 k1
 have B_init:=F_init.binds (ps:=["self","places","ties"]) fun _ _ _ _ _ _ us hl=>match us,hl with | [_,_,_],_=>rfl
 have Mm_init:Meth K C "__init__" f1:=⟨a1,i1,k1⟩
 have F_places:=fun_mk (st:=sPlaces) l2 c2 k2
 have B_places:=F_places.binds (ps:=["self"]) fun _ _ _ _ _ _ us hl=>match us,hl with | [_],_=>rfl
 have Mm_places:Meth K C "places" f2:=⟨a2,i2,k2⟩
 have F_ties:=fun_mk (st:=sTies) l3 c3 k3
 have B_ties:=F_ties.binds (ps:=["self"]) fun _ _ _ _ _ _ us hl=>match us,hl with | [_],_=>rfl
 have Mm_ties:Meth K C "ties" f3:=⟨a3,i3,k3⟩
 have W:WC K mg C:=⟨⟨pg,hd,po,sa⟩,nA0,nA1,PySem.W.mg_of X G aC⟩
 have MkC:Mk K C f1:=⟨mk,a1,i1,kc⟩
 have F_name:=fun_mk (st:=sName) l4 c4 k4
 have B_name:=F_name.binds (ps:=["thing"]) fun _ _ _ _ _ _ us hl=>match us,hl with | [_],_=>rfl
 have D_name:Df K mg "is_name" sName ["thing"] f4 _:=⟨F_name,PySem.W.mg_of X G a4,B_name⟩
 have F_chkP:=fun_mk (st:=sChkP) l5 c5 k5
 have B_chkP:=F_chkP.binds (ps:=["places"]) fun _ _ _ _ _ _ us hl=>match us,hl with | [_],_=>rfl
 have D_chkP:Df K mg "check_places" sChkP ["places"] f5 _:=⟨F_chkP,PySem.W.mg_of X G a5,B_chkP⟩
 have F_among:=fun_mk (st:=sAmong) l6 c6 k6
 have B_among:=F_among.binds (ps:=["places","thing"]) fun _ _ _ _ _ _ us hl=>match us,hl with | [_,_],_=>rfl
 have D_among:Df K mg "is_among" sAmong ["places","thing"] f6 _:=⟨F_among,PySem.W.mg_of X G a6,B_among⟩
 have F_tie:=fun_mk (st:=sTie) l7 c7 k7
 have B_tie:=F_tie.binds (ps:=["places","thing"]) fun _ _ _ _ _ _ us hl=>match us,hl with | [_,_],_=>rfl
 have D_tie:Df K mg "is_tie" sTie ["places","thing"] f7 _:=⟨F_tie,PySem.W.mg_of X G a7,B_tie⟩
 have F_chkT:=fun_mk (st:=sChkT) l8 c8 k8
 have B_chkT:=F_chkT.binds (ps:=["places","ties"]) fun _ _ _ _ _ _ us hl=>match us,hl with | [_,_],_=>rfl
 have D_chkT:Df K mg "check_ties" sChkT ["places","ties"] f8 _:=⟨F_chkT,PySem.W.mg_of X G a8,B_chkT⟩
 have F_leads:=fun_mk (st:=sLeads) l9 c9 k9
 have B_leads:=F_leads.binds (ps:=["places","ties"]) fun _ _ _ _ _ _ us hl=>match us,hl with | [_,_],_=>rfl
 have D_leads:Df K mg "leads" sLeads ["places","ties"] f9 _:=⟨F_leads,PySem.W.mg_of X G a9,B_leads⟩
 have F_spread:=fun_mk (st:=sSpread) l10 c10 k10
 have B_spread:=F_spread.binds (ps:=["steps","start"]) fun _ _ _ _ _ _ us hl=>match us,hl with | [_,_],_=>rfl
 have D_spread:Df K mg "spread" sSpread ["steps","start"] f10 _:=⟨F_spread,PySem.W.mg_of X G a10,B_spread⟩
 have F_lb:=fun_mk (st:=sLB) l11 c11 k11
 have B_lb:=F_lb.binds (ps:=["web","start","been","place"]) fun _ _ _ _ _ _ us hl=>match us,hl with | [_,_,_,_],_=>rfl
 have D_lb:Df K mg "leads_back" sLB ["web","start","been","place"] f11 _:=⟨F_lb,PySem.W.mg_of X G a11,B_lb⟩
 have F_ar:=fun_mk (st:=sAR) l12 c12 k12
 have B_ar:=F_ar.binds (ps:=["web","start","found"]) fun _ _ _ _ _ _ us hl=>match us,hl with | [_,_,_],_=>rfl
 have D_ar:Df K mg "add_rings_from" sAR ["web","start","found"] f12 _:=⟨F_ar,PySem.W.mg_of X G a12,B_ar⟩
 have F_rg:=fun_mk (st:=sRg) l13 c13 k13
 have B_rg:=F_rg.binds (ps:=["web"]) fun _ _ _ _ _ _ us hl=>match us,hl with | [_],_=>rfl
 have D_rg:Df K mg "rings" sRg ["web"] f13 _:=⟨F_rg,PySem.W.mg_of X G a13,B_rg⟩
 have F_pot:=fun_mk (st:=sPot) l14 c14 k14
 have B_pot:=F_pot.binds (ps:=["_law_script","_law_k"]) fun _ _ _ _ _ _ us hl=>match us,hl with | [_,_],_=>rfl
 have D_pot:Df K mg "_law_pot" sPot ["_law_script","_law_k"] f14 _:=⟨F_pot,PySem.W.mg_of X G a14,B_pot⟩
 have F_take:=fun_mk (st:=sTake) l15 c15 k15
 have B_take:=F_take.binds (ps:=["_law_pot_here","_law_many"]) fun _ _ _ _ _ _ us hl=>match us,hl with | [_,_],_=>rfl
 have D_take:Df K mg "_law_take" sTake ["_law_pot_here","_law_many"] f15 _:=⟨F_take,PySem.W.mg_of X G a15,B_take⟩
 have F_names:=fun_mk (st:=sNames) l16 c16 k16
 have B_names:=F_names.binds (ps:=["_law_pot_here","_law_many"]) fun _ _ _ _ _ _ us hl=>match us,hl with | [_,_],_=>rfl
 have D_names:Df K mg "_law_names" sNames ["_law_pot_here","_law_many"] f16 _:=⟨F_names,PySem.W.mg_of X G a16,B_names⟩
 have F_ir:=fun_mk (st:=sIR) l17 c17 k17
 have B_ir:=F_ir.binds (ps:=["_law_ties","_law_some"]) fun _ _ _ _ _ _ us hl=>match us,hl with | [_,_],_=>rfl
 have D_ir:Df K mg "_law_is_ring" sIR ["_law_ties","_law_some"] f17 _:=⟨F_ir,PySem.W.mg_of X G a17,B_ir⟩
 have F_ro:=fun_mk (st:=sRO) l18 c18 k18
 have B_ro:=F_ro.binds (ps:=["_law_names_here","_law_counts_here"]) fun _ _ _ _ _ _ us hl=>match us,hl with | [_,_],_=>rfl
 have D_ro:Df K mg "_law_ring_of" sRO ["_law_names_here","_law_counts_here"] f18 _:=⟨F_ro,PySem.W.mg_of X G a18,B_ro⟩
 have F_co:=fun_mk (st:=sCo) l19 c19 k19
 have B_co:=F_co.binds (ps:=["_law_pot_here","_law_many","_law_room"]) fun _ _ _ _ _ _ us hl=>match us,hl with | [_,_,_],_=>rfl
 have D_co:Df K mg "_law_counts" sCo ["_law_pot_here","_law_many","_law_room"] f19 _:=⟨F_co,PySem.W.mg_of X G a19,B_co⟩
 have F_wb:=fun_mk (st:=sWb) l20 c20 k20
 have B_wb:=F_wb.binds (ps:=["_law_pot_here","_law_names_here"]) fun _ _ _ _ _ _ us hl=>match us,hl with | [_,_],_=>rfl
 have D_wb:Df K mg "_law_web" sWb ["_law_pot_here","_law_names_here"] f20 _:=⟨F_wb,PySem.W.mg_of X G a20,B_wb⟩
 have F_gr:=fun_mk (st:=sGr) l21 c21 k21
 have B_gr:=F_gr.binds (ps:=["_law_pot_here","_law_loops"]) fun _ _ _ _ _ _ us hl=>match us,hl with | [_,_],_=>rfl
 have D_gr:Df K mg "_law_great" sGr ["_law_pot_here","_law_loops"] f21 _:=⟨F_gr,PySem.W.mg_of X G a21,B_gr⟩
 have F_mx:=fun_mk (st:=sMx) l22 c22 k22
 have B_mx:=F_mx.binds (ps:=["_law_pot_here","_law_ties"]) fun _ _ _ _ _ _ us hl=>match us,hl with | [_,_],_=>rfl
 have D_mx:Df K mg "_law_mixed" sMx ["_law_pot_here","_law_ties"] f22 _:=⟨F_mx,PySem.W.mg_of X G a22,B_mx⟩
 have F_to:=fun_mk (st:=sTo) l23 c23 k23
 have B_to:=F_to.binds (ps:=["_law_web_here"]) fun _ _ _ _ _ _ us hl=>match us,hl with | [_],_=>rfl
 have D_to:Df K mg "_law_told" sTo ["_law_web_here"] f23 _:=⟨F_to,PySem.W.mg_of X G a23,B_to⟩
 have F_ri:=fun_mk (st:=sRi) l24 c24 k24
 have B_ri:=F_ri.binds (ps:=["_law_names_here","_law_ties","_law_due"]) fun _ _ _ _ _ _ us hl=>match us,hl with | [_,_,_],_=>rfl
 have D_ri:Df K mg "_law_right" sRi ["_law_names_here","_law_ties","_law_due"] f24 _:=⟨F_ri,PySem.W.mg_of X G a24,B_ri⟩
 have F_law:=fun_mk (st:=sLaw75) l25 c25 k25
 have mg_E0:=PySem.W.mg_of X G xE0
 have mg_E7:=PySem.W.mg_of X G xE7
 have Ex_E7:Ex K mg "TooMany" E7:=⟨mg_E7,_,_,_,_,yE7,PySem.F.excBase_ValueError⟩
 have Xc_E7:ExcCl K E7:=⟨zE7_0,zE7_1,zE7_2,zE7_3,zE7_4,zE7_5⟩
 have mg_A1:=PySem.W.mg_of X G xA1
 have mg_A2:=PySem.W.mg_of X G xA2
 have mg_A3:=PySem.W.mg_of X G xA3
 have m_divmod:=PySem.W.mg_none_of X G g_divmod
 have m_len:=PySem.W.mg_none_of X G g_len
 have m_all:=PySem.W.mg_none_of X G g_all
 have m_isinstance:=PySem.W.mg_none_of X G g_isinstance
 have m_str:=PySem.W.mg_none_of X G g_str
 have m_range:=PySem.W.mg_none_of X G g_range
 have m_max:=PySem.W.mg_none_of X G g_max
 have m_min:=PySem.W.mg_none_of X G g_min
 have m_bool:=PySem.W.mg_none_of X G g_bool
 have m_list:=PySem.W.mg_none_of X G g_list
 have m_int:=PySem.W.mg_none_of X G g_int
 have m_tuple:=PySem.W.mg_none_of X G g_tuple
 have m_set:=PySem.W.mg_none_of X G g_set
 have m_sorted:=PySem.W.mg_none_of X G g_sorted
 have m_abs:=PySem.W.mg_none_of X G g_abs
 have m_enumerate:=PySem.W.mg_none_of X G g_enumerate
 have m_ValueError:=PySem.W.mg_none_of X G g_ValueError
 have m_LONGEST:=PySem.W.mg_of X G g_LONGEST
 have m_MOST_PLACES:=PySem.W.mg_of X G g_MOST_PLACES
 have m_MOST_TIES:=PySem.W.mg_of X G g_MOST_TIES
 have m_MOST_RINGS:=PySem.W.mg_of X G g_MOST_RINGS
 have T:Glb mg:=⟨m_divmod,m_len,m_all,m_isinstance,m_str,m_range,m_max,m_min,m_bool,m_list,m_int,m_tuple,m_set,m_sorted,⟨_,m_LONGEST⟩,⟨_,m_MOST_PLACES⟩,⟨_,m_MOST_TIES⟩⟩
 have M:=Mt.mk W F_places Mm_places B_places F_ties Mm_ties B_ties
 have XX:Errs K mg E0 E7 A1 A2 A3:=⟨mg_E0,Ex_E7,mg_A1,mg_A2,mg_A3,m_ValueError,exm_mk q1a q1b q1c,q2,q3,q4,Xc_E7⟩
 exact ⟨PySem.W.fnOf "law" "law" (defArgs sLaw) (defBody sLaw) (defScope sLaw) .none kV25 dc25 pm25 an25 cd25 ct25,fun s v=>.of_eq rfl,fun base _ _=>law_all F_law F_init MkC B_init D_name D_among D_tie D_chkP D_chkT M XX D_leads D_spread D_lb D_ar D_rg D_pot D_take D_names D_ir D_ro D_co D_wb D_gr D_mx D_to D_ri m_abs m_enumerate ⟨_,m_MOST_RINGS⟩ T⟩
theorem walk {l:PySem.W.OpenLaw} {q:Program} {loose:List Str} {XP:(Str->Option Value)->Heap->Prop} {YP:World->Heap->Prop} {d:DefRec} {K:Params->PySem.W.Frag} (hn:l.most=some 63) (hdf:d.params.defaults=[])
  (hY:∀ (w:World) (h:Heap),YP w h->(K w.params).In h)
  (F:∀ (w:World) (mg:Str->Option Value) (fa:Addr) (h:Heap),(K w.params).In h->h.Ns mainGlobals mg->mg d.name=some (.ref fa) ->
   ∃ fd:FuncData,(∀ (s:Shared) (u:Value),BindsTo s fd ⟨[u],[]⟩ [("_law_script",u)])/\∀ base:Heap,(K w.params).In base->base.Ns mainGlobals mg->FnOk l.prog w (K w.params) mg base CX0 7 fa fd ["_law_script"] (spLaw (K w.params))) :
  PySem.W.WalkO q loose XP YP l.row.toRowW d [] (fun f vs=>PySem.call f vs) :=
 L2.walk_of (n:=63) (k:=7) (x:="_law_script") (CX:=fun _=>CX0) (sp:=fun w=>spLaw (K w.params)) hn (by decide) hdf ⟨rfl,by decide,by decide,rfl⟩ hY F (fun _ _ a ns hl _ hS=>⟨a,ns,rfl,hS,hl,fun _=>rfl⟩) fun _ _ _ _ _ z=>z
end K75
def PySem.W.Fast.tw12254334878983108858:Unit:=()
def PySem.W.Fast.tw7885490358368223544:Unit:=()
def PySem.W.Fast.tw6782303332478339135:Unit:=()
def PySem.W.Fast.tw9236748158830443293:Unit:=()
def PySem.W.Fast.tw1578632745022732340:Unit:=()
def PySem.W.Fast.tw3720476681842793911:Unit:=()
def PySem.W.Fast.tw1698784219030973955:Unit:=()
def PySem.W.Fast.tw2679055120977502343:Unit:=()
def PySem.W.Fast.tw1254012399361824994:Unit:=()
def PySem.W.Fast.tw6814179214396524756:Unit:=()
def PySem.W.Fast.tw5394130041878185414:Unit:=()
def PySem.W.Fast.tw18175779089503626797:Unit:=()
def PySem.W.Fast.tw11638328963294176888:Unit:=()
def PySem.W.Fast.tw1781117888977821741:Unit:=()
def PySem.W.Fast.tw64776991346676148:Unit:=()
def PySem.W.Fast.tw10724204098058673667:Unit:=()
def PySem.W.Fast.tw8956268671341600603:Unit:=()
def PySem.W.Fast.tw7133663937701402557:Unit:=()
def PySem.W.Fast.tw12845373677119400896:Unit:=()
def PySem.W.Fast.tw17240249841517574098:Unit:=()
def PySem.W.Fast.tw13697877901582205214:Unit:=()
def PySem.W.Fast.tw1256683237071946636:Unit:=()
def PySem.W.Fast.tw9197811691266464522:Unit:=()
def PySem.W.Fast.tw5700973916309904252:Unit:=()
def PySem.W.Fast.tw2122843985093669217:Unit:=()
def PySem.W.Fast.tw16335490028628307334:Unit:=()
def PySem.W.Fast.tw9517988526976315615:Unit:=()
def PySem.W.Fast.tw9552299700036709403:Unit:=()
def PySem.W.Fast.tw5455055917269959220:Unit:=()
def PySem.W.Fast.tw14934893119012477053:Unit:=()
def PySem.W.Fast.tw15007428819346472641:Unit:=()
def PySem.W.Fast.tw4166336547835728749:Unit:=()
def PySem.W.Fast.tw6048908131837646106:Unit:=()
def PySem.W.Fast.tw16545215640554888028:Unit:=()
def PySem.W.Fast.tw10822119121174493708:Unit:=()
def PySem.W.Fast.tw9044717936165353394:Unit:=()
def PySem.W.Fast.tw6727376798758993705:Unit:=()
def PySem.W.Fast.tw17458509269530327457:Unit:=()
def PySem.W.Fast.tw4018463859868754633:Unit:=()
def PySem.W.Fast.tw17884241485162282614:Unit:=()
def PySem.W.Fast.tw7187813741085921505:Unit:=()
def PySem.W.Fast.tw4136998020416394327:Unit:=()
def PySem.W.Fast.tw17635715520615462251:Unit:=()
def PySem.W.Fast.tw3603090335120766433:Unit:=()
def PySem.W.Fast.tw6330380293129205973:Unit:=()
def PySem.W.Fast.tw5653217488873410350:Unit:=()
def PySem.W.Fast.tw4333182005378969800:Unit:=()
def PySem.W.Fast.tw681070952733089383:Unit:=()
def PySem.W.Fast.tw6373443570946397258:Unit:=()
def PySem.W.Fast.tw10087106903190338750:Unit:=()
def PySem.W.Fast.tw7499241627623213478:Unit:=()
def PySem.W.Fast.tw10170566319249737079:Unit:=()
def PySem.W.Fast.tw3854909941889078366:Unit:=()
def PySem.W.Fast.tw10281861015463068109:Unit:=()
def PySem.W.Fast.tw11885516887148618709:Unit:=()
def PySem.W.Fast.tw7441129805565153108:Unit:=()
def PySem.W.Fast.tw10594145118049767167:Unit:=()
def PySem.W.Fast.tw6110615874906009807:Unit:=()
def PySem.W.Fast.tw15965101959415111020:Unit:=()
def PySem.W.Fast.tw11475095492729258405:Unit:=()
def PySem.W.Fast.tw16166849796793196805:Unit:=()
def PySem.W.Fast.tw17522889719268325288:Unit:=()
def PySem.W.Fast.tw12096033549376356439:Unit:=()
def PySem.W.Fast.tw9650844950571684795:Unit:=()
def PySem.W.Fast.tw1027134189605579125:Unit:=()
def PySem.W.Fast.tw9682292968189198255:Unit:=()
def PySem.W.Fast.tw8704516089125948731:Unit:=()
def PySem.W.Fast.tw9709990003234835242:Unit:=()
def PySem.W.Fast.tw5329938145566030804:Unit:=()
def PySem.W.Fast.tw16855139502321317464:Unit:=()
def PySem.W.Fast.tw6935932505151021879:Unit:=()
def PySem.W.Fast.tw3206021142257519036:Unit:=()
def PySem.W.Fast.tw14482931671480390375:Unit:=()
def PySem.W.Fast.tw9446810199996358235:Unit:=()
def PySem.W.Fast.tw13307585039586002427:Unit:=()
def PySem.W.Fast.tw15943579642209341317:Unit:=()
def PySem.W.Fast.tw12820864652143867608:Unit:=()
def PySem.W.Fast.tw625428225402819336:Unit:=()
def PySem.W.Fast.tw2232522731145651120:Unit:=()
def PySem.W.Fast.tw12499526564849711990:Unit:=()
def PySem.W.Fast.tw5834941156889740763:Unit:=()
open PySem PySem.W PyProof.Rows
set_option maxRecDepth 100000 in
set_option maxHeartbeats 0 in
theorem PySem.Challenge.cw_cutmeet_k75_many_rings_holds : PySem.Challenge.rw_cutmeet_k75_many_rings.Holds := by
  w_on; o_law; k_head; (case hw => w_witness2)
  k_fill
  refine K75.walk (l := PySem.Challenge.rw_cutmeet_k75_many_rings) rfl rfl (fun w h Y => PySem.W.kIn_of Y) ?F
  case F =>
    intro w mg fa h KX G hmg
    refine' K75.all_mk KX G hmg ?aC ?a1 ?i1 ?l1 ?c1 ?k1 ?a2 ?i2 ?l2 ?c2 ?k2 ?a3 ?i3 ?l3 ?c3 ?k3 ?pg ?hd ?po ?sa ?mk ?kc ?nA0 ?nA1 ?a4 ?l4 ?c4 ?k4 ?a5 ?l5 ?c5 ?k5 ?a6 ?l6 ?c6 ?k6 ?a7 ?l7 ?c7 ?k7 ?a8 ?l8 ?c8 ?k8 ?a9 ?l9 ?c9 ?k9 ?a10 ?l10 ?c10 ?k10 ?a11 ?l11 ?c11 ?k11 ?a12 ?l12 ?c12 ?k12 ?a13 ?l13 ?c13 ?k13 ?a14 ?l14 ?c14 ?k14 ?a15 ?l15 ?c15 ?k15 ?a16 ?l16 ?c16 ?k16 ?a17 ?l17 ?c17 ?k17 ?a18 ?l18 ?c18 ?k18 ?a19 ?l19 ?c19 ?k19 ?a20 ?l20 ?c20 ?k20 ?a21 ?l21 ?c21 ?k21 ?a22 ?l22 ?c22 ?k22 ?a23 ?l23 ?c23 ?k23 ?a24 ?l24 ?c24 ?k24 ?a25 ?l25 ?c25 ?k25 ?xE0 ?xE7 ?yE7 ?zE7_0 ?zE7_1 ?zE7_2 ?zE7_3 ?zE7_4 ?zE7_5 ?xA1 ?xA2 ?xA3 ?g_divmod ?g_len ?g_all ?g_isinstance ?g_str ?g_range ?g_max ?g_min ?g_bool ?g_list ?g_int ?g_tuple ?g_set ?g_sorted ?g_abs ?g_enumerate ?g_ValueError ?g_LONGEST ?g_MOST_PLACES ?g_MOST_TIES ?g_MOST_RINGS ?q1a ?q1b ?q1c ?q2 ?q3 ?q4
    (case aC => k_is)
    (case a1 => k_is)
    (case i1 => k_is)
    (case l1 => k_is)
    (case c1 => k_is)
    (case k1 => k_is)
    (case a2 => k_is)
    (case i2 => k_is)
    (case l2 => k_is)
    (case c2 => k_is)
    (case k2 => k_is)
    (case a3 => k_is)
    (case i3 => k_is)
    (case l3 => k_is)
    (case c3 => k_is)
    (case k3 => k_is)
    (case pg => k_is)
    (case hd => k_is)
    (case po => k_is)
    (case sa => k_is)
    (case mk => k_is)
    (case kc => k_is)
    (case nA0 => k_is)
    (case nA1 => k_is)
    (case a4 => k_is)
    (case l4 => k_is)
    (case c4 => k_is)
    (case k4 => k_is)
    (case a5 => k_is)
    (case l5 => k_is)
    (case c5 => k_is)
    (case k5 => k_is)
    (case a6 => k_is)
    (case l6 => k_is)
    (case c6 => k_is)
    (case k6 => k_is)
    (case a7 => k_is)
    (case l7 => k_is)
    (case c7 => k_is)
    (case k7 => k_is)
    (case a8 => k_is)
    (case l8 => k_is)
    (case c8 => k_is)
    (case k8 => k_is)
    (case a9 => k_is)
    (case l9 => k_is)
    (case c9 => k_is)
    (case k9 => k_is)
    (case a10 => k_is)
    (case l10 => k_is)
    (case c10 => k_is)
    (case k10 => k_is)
    (case a11 => k_is)
    (case l11 => k_is)
    (case c11 => k_is)
    (case k11 => k_is)
    (case a12 => k_is)
    (case l12 => k_is)
    (case c12 => k_is)
    (case k12 => k_is)
    (case a13 => k_is)
    (case l13 => k_is)
    (case c13 => k_is)
    (case k13 => k_is)
    (case a14 => k_is)
    (case l14 => k_is)
    (case c14 => k_is)
    (case k14 => k_is)
    (case a15 => k_is)
    (case l15 => k_is)
    (case c15 => k_is)
    (case k15 => k_is)
    (case a16 => k_is)
    (case l16 => k_is)
    (case c16 => k_is)
    (case k16 => k_is)
    (case a17 => k_is)
    (case l17 => k_is)
    (case c17 => k_is)
    (case k17 => k_is)
    (case a18 => k_is)
    (case l18 => k_is)
    (case c18 => k_is)
    (case k18 => k_is)
    (case a19 => k_is)
    (case l19 => k_is)
    (case c19 => k_is)
    (case k19 => k_is)
    (case a20 => k_is)
    (case l20 => k_is)
    (case c20 => k_is)
    (case k20 => k_is)
    (case a21 => k_is)
    (case l21 => k_is)
    (case c21 => k_is)
    (case k21 => k_is)
    (case a22 => k_is)
    (case l22 => k_is)
    (case c22 => k_is)
    (case k22 => k_is)
    (case a23 => k_is)
    (case l23 => k_is)
    (case c23 => k_is)
    (case k23 => k_is)
    (case a24 => k_is)
    (case l24 => k_is)
    (case c24 => k_is)
    (case k24 => k_is)
    (case a25 => k_is)
    (case l25 => k_is)
    (case c25 => k_is)
    (case k25 => k_is)
    (case xE0 => k_is)
    (case xE7 => k_is)
    (case yE7 => k_exc)
    (case zE7_0 => k_is)
    (case zE7_1 => k_is)
    (case zE7_2 => k_is)
    (case zE7_3 => k_is)
    (case zE7_4 => k_is)
    (case zE7_5 => k_is)
    (case xA1 => k_is)
    (case xA2 => k_is)
    (case xA3 => k_is)
    (case g_divmod => k_is)
    (case g_len => k_is)
    (case g_all => k_is)
    (case g_isinstance => k_is)
    (case g_str => k_is)
    (case g_range => k_is)
    (case g_max => k_is)
    (case g_min => k_is)
    (case g_bool => k_is)
    (case g_list => k_is)
    (case g_int => k_is)
    (case g_tuple => k_is)
    (case g_set => k_is)
    (case g_sorted => k_is)
    (case g_abs => k_is)
    (case g_enumerate => k_is)
    (case g_ValueError => k_is)
    (case g_LONGEST => k_is)
    (case g_MOST_PLACES => k_is)
    (case g_MOST_TIES => k_is)
    (case g_MOST_RINGS => k_is)
    (case q1a => k_is)
    (case q1b => kit_is)
    (case q1c => rfl)
    (case q2 => kit_is)
    (case q3 => kit_is)
    (case q4 => kit_is)

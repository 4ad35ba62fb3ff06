import PyProof.Rows.All
import KE.KFromBytes
import KE.KTryMore
import KE.KDictSum
import KE.RegKIsAll
import KE.KItem
import KE.KDictOf
import PySem.Challenge.RW_cutmeet_k90_shown_by_names
set_option Elab.async false
set_option linter.all false
set_option maxRecDepth 100000
namespace L2
open PySem PySem.Spec PyProof.Rows
abbrev Key:=Sum Int Str
def keyIs:Key->Value->Bool
 | .inl k,v=>Value.isInt k v
 | .inr x,v=>Value.isStrOf x v
def keyH (w:World):Key->Int
 | .inl k=>hashInt k
 | .inr x=>hashStr w x
theorem keyIs_shape:∀ {k:Key} {v:Value},keyIs k v=true->(∃ i t,k=Sum.inl i/\v=Value.int i t)\/(∃ x t,k=Sum.inr x/\v=Value.str x t)
 | .inl i,v,h=>by
  obtain ⟨t,e⟩:=Value.isInt_shape (k:=i) (v:=v) h
  exact .inl ⟨i,t,rfl,e⟩
 | .inr x,v,h=>by
  obtain ⟨t,e⟩:=Value.isStrOf_shape (x:=x) (v:=v) h
  exact .inr ⟨x,t,rfl,e⟩
theorem keyIs_int (i:Int) (t:Tok):keyIs (.inl i) (.int i t)=true:=by simp [keyIs,Value.isInt]
theorem keyIs_str (x:Str) (t:Tok):keyIs (.inr x) (.str x t)=true:=by simp [keyIs,Value.isStrOf]
theorem key_ll (a b:Int):decide ((Sum.inl a:Key)=Sum.inl b)=(a == b):=by
 by_cases e:a=b
 ·subst e;simp
 ·have h:¬ (Sum.inl a:Key)=Sum.inl b:=fun q=>e (Sum.inl.inj q)
  rw [decide_eq_false h]
  exact (beq_eq_false_iff_ne.mpr e).symm
theorem key_rr (a b:Str):decide ((Sum.inr a:Key)=Sum.inr b)=decide (a=b):=by
 by_cases e:a=b
 ·subst e;simp
 ·have h:¬ (Sum.inr a:Key)=Sum.inr b:=fun q=>e (Sum.inr.inj q)
  rw [decide_eq_false h,decide_eq_false e]
theorem key_lr (a:Int) (b:Str):decide ((Sum.inl a:Key)=Sum.inr b)=false:=decide_eq_false (fun q=>nomatch q)
theorem key_rl (a:Str) (b:Int):decide ((Sum.inr a:Key)=Sum.inl b)=false:=decide_eq_false (fun q=>nomatch q)
def mixKind (prog:Program) (w:World):PySem.KeyKind prog w Key where
 is:=keyIs
 hash:=keyH w
 inj:=fun v a b ha hb=>by
  rcases keyIs_shape ha with ⟨i,t,rfl,rfl⟩ | ⟨x,t,rfl,rfl⟩
  ·rcases keyIs_shape hb with ⟨j,u,rfl,e⟩ | ⟨y,u,rfl,e⟩
   ·injection e with e1 _;rw [e1]
   ·exact nomatch e
  ·rcases keyIs_shape hb with ⟨j,u,rfl,e⟩ | ⟨y,u,rfl,e⟩
   ·exact nomatch e
   ·injection e with e1 _;rw [e1]
 byValue:=fun k v h=>by
  rcases keyIs_shape h with ⟨i,t,rfl,rfl⟩ | ⟨x,t,rfl,rfl⟩<;>rfl
 pyHash:=fun hv h=>by
  rcases keyIs_shape hv with ⟨i,t,rfl,rfl⟩ | ⟨x,t,rfl,rfl⟩
  ·exact wpAny_pyHash_int h
  ·exact wpAny_pyHash_str h
 eqBool:=fun hu hv h=>by
  rcases keyIs_shape hu with ⟨i,t,rfl,rfl⟩ | ⟨x,t,rfl,rfl⟩
  ·rcases keyIs_shape hv with ⟨j,u,rfl,rfl⟩ | ⟨y,u,rfl,rfl⟩
   ·rw [key_ll] at h;exact wpAny_eqBool_int h
   ·rw [key_lr] at h;exact SeqAt.EqAt.int_str i t y u _ _ _ _ h
  ·rcases keyIs_shape hv with ⟨j,u,rfl,rfl⟩ | ⟨y,u,rfl,rfl⟩
   ·rw [key_rl] at h;exact SeqAt.EqAt.str_int x t j u _ _ _ _ h
   ·rw [key_rr] at h;exact wpAny_eqBool_str h
 «strs»:=fun k x t v h=>by
  rcases keyIs_shape h with ⟨i,u,rfl,e⟩ | ⟨y,u,rfl,e⟩
  ·exact nomatch e
  ·injection e with e1 _
   subst e1
   cases v<;>rfl
theorem mixKind_int (prog:Program) (w:World) (i:Int) (t:Tok):(mixKind prog w).is (.inl i) (.int i t)=true:=keyIs_int i t
theorem mixKind_str (prog:Program) (w:World) (x:Str) (t:Tok):(mixKind prog w).is (.inr x) (.str x t)=true:=keyIs_str x t
inductive V where
 | non | bl (b:Bool) | int (i:Int) | str (x:Str) | byt (b:Array UInt8) | flt (b:UInt64) | ref (a:Addr) | ty (n:String)
 deriving DecidableEq
def RelV:V->Value->Prop
 | .non,u=>u=Value.none
 | .bl b,u=>u=Value.bool b
 | .int i,u=>∃ t,u=Value.int i t
 | .str x,u=>∃ t,u=Value.str x t
 | .byt b,u=>∃ t,u=Value.bytes b t
 | .flt b,u=>∃ t,u=Value.float b t
 | .ref a,u=>u=Value.ref a
 | .ty n,u=>u=Value.type n
abbrev Vals:List V->List Value->Prop:=Paired RelV
theorem Vals.length {xs:List V} {us:List Value} (r:Vals xs us):xs.length=us.length:=Paired.length r
theorem Vals.get:∀ {xs:List V} {us:List Value} {i:Nat} {x:V},Vals xs us->xs[i]?=some x->∃ u,us[i]?=some u/\RelV x u
 | _,_,_,_,.nil,e=>by simp at e
 | _,_,0,_,.cons r _,e=>by simp at e;subst e;exact ⟨_,rfl,r⟩
 | _,_,i+1,x,.cons _ t,e=>by
  obtain ⟨u,h1,h2⟩:=Vals.get (i:=i) (x:=x) t (by simpa using e)
  exact ⟨u,by simpa using h1,h2⟩
theorem Vals.set {x:V} {u:Value} (r:RelV x u):∀ {xs:List V} {us:List Value} (i:Nat),Vals xs us->Vals (xs.set i x) (us.set i u)
 | _,_,_,.nil=>.nil
 | _,_,0,.cons _ t=>.cons r t
 | _,_,i+1,.cons q t=>.cons q (Vals.set r i t)
theorem Vals.append:∀ {xs ys:List V} {us ws:List Value},Vals xs us->Vals ys ws->Vals (xs++ys) (us++ws)
 | _,_,_,_,.nil,s=>s
 | _,_,_,_,.cons r t,s=>.cons r (Vals.append t s)
theorem Vals.take:∀ {xs:List V} {us:List Value} (n:Nat),Vals xs us->Vals (xs.take n) (us.take n)
 | _,_,0,_=>.nil
 | _,_,_+1,.nil=>.nil
 | _,_,n+1,.cons r t=>.cons r (Vals.take n t)
theorem Vals.drop:∀ {xs:List V} {us:List Value} (n:Nat),Vals xs us->Vals (xs.drop n) (us.drop n)
 | _,_,0,r=>r
 | _,_,_+1,.nil=>.nil
 | _,_,n+1,.cons _ t=>Vals.drop n t
def RelO:Option V->Option Value->Prop
 | some v,some u=>RelV v u
 | none,none=>True
 | _,_=>False
def KV {κ:Type}:List (κ × V)->List (κ × Value)->Prop:=Paired fun (p:κ × V) (q:κ × Value)=>p.1=q.1/\RelV p.2 q.2
def kV:Key->V
 | .inl i=>.int i
 | .inr x=>.str x
inductive HO where
  | lst (xs:List V)
  | tup (xs:List V)
  | dK (kvs:List (Key × V)) | dT (kvs:List (List Key × V))
  | set (S:Int->Bool) (n:Nat)
  | ins (C dx:Addr) (fs:List (Str × V))
  | own (x:Addr)
  | xd (fs:List (Str × V))
  | met (f x:Addr)
  | rng (lo hi:Int)
  | frz (o:Obj) (u:HO)
  | tbl (ps:Array Value)
  | ext (φ:Heap->Prop)
abbrev Hp:=Addr->Option HO
def upd (H:Hp) (a:Addr) (o:HO):Hp:=fun b=>if b=a then some o else H b
theorem upd_same {H:Hp} {a:Addr} {o:HO}:upd H a o a=some o:=by unfold upd;rw [if_pos rfl]
theorem upd_ne {H:Hp} {a b:Addr} {o:HO} (h:b≠a):upd H a o b=H b:=by unfold upd;rw [if_neg h]
theorem ne_of {H:Hp} {a b:Addr} {o u:HO} (h:H a=some o) (h':H b=some u) (d:o≠u):a≠b:=by
 intro e;subst e;rw [h] at h';exact d (Option.some.inj h')
theorem ne_of_none {H:Hp} {a b:Addr} {o:HO} (h:H a=some o) (h':H b=none):a≠b:=by
 intro e;subst e;rw [h] at h';cases h'
section
variable (P:Program) (w:World)
def ObjOk (H:Hp) (h:Heap) (a:Addr):HO->Prop
 | .lst xs=>xs.length<=sizeLine/\∃ (its:List Value) (n:Nat),Vals xs its/\h.get? a=some { cls:=.type "list",data:=.seq its.toArray n }
 | .tup xs=>xs.length<=sizeLine/\∃ its:List Value,Vals xs its/\IsTup h a its.toArray
 | .dK kvs=>kvs.length<=sizeLine/\(a == sysModules)=false/\∃ vs,KV kvs vs/\h.DictOf (mixKind P w) a vs
 | .dT kvs=>kvs.length<=sizeLine/\(a == sysModules)=false/\∃ xs:List (List Key × Addr × Value),
   Paired (fun (p:List Key × V) (q:List Key × Addr × Value)=>p.1=q.1/\H q.2.1=some (.tup (p.1.map kV))/\RelV p.2 q.2.2) kvs xs /\
   ∃ o es ep,h.get? a=some o/\o.ExactDict/\o.data=.dict es ep/\es.toList=xs.map (entryOfKey (tupleKind (mixKind P w)))/\(xs.map (·.1)).Nodup
 | .set S n=>h.SetOf (intKind P w) a S n
 | .ins C dx fs=>H dx=some (.own a)/\fs.length<=1000/\dx≠a/\h.get? a=some (PySem.W.instObj C dx) /\
   ∃ mA,h.Ns1 dx mA/\(∀ f,RelO (fs.lookup f) (mA f))/\PySem.Within mA (fs.map (·.1))
 | .own _=>∃ o,h.get? a=some o
 | .xd fs=>∃ mA,h.Ns1 a mA/\∀ f,RelO (fs.lookup f) (mA f)
 | .rng lo hi=>∃ t u v,h.get? a=some { cls:=.type "range",data:=.fields #[.int lo t,.int hi u,.int 1 v] }
 | .frz o u=>h.get? a=some o/\ObjOk H h a u
 | .tbl ps=>h.get? a=some { cls:=.none,data:=.fields ps }
 | .met f x=>h.get? a=some (PySem.W.methodObj (.ref f) (.ref x))
 | .ext φ=>φ h/\(∃ o,h.get? a=some o)/\∀ h1 h2:Heap,φ h1->(∀ o,h1.get? a=some o->h2.get? a=some o)->φ h2
def HOk (H:Hp) (h:Heap):Prop:=∀ a o,H a=some o->ObjOk P w H h a o
end
section
variable {P:Program} {w:World} {H H':Hp} {h h':Heap} {a:Addr} {o:HO}
theorem ObjOk.lt (x:ObjOk P w H h a o):a < h.objs.size:=by
 cases o with
 | lst xs=>obtain ⟨_,_,_,_,e⟩:=x;exact Heap.lt_size e
 | tup xs=>obtain ⟨_,_,_,p⟩:=x;exact p.lt
 | dK kvs=>obtain ⟨_,_,_,_,o,_,_,e,_⟩:=x;exact Heap.lt_size e
 | dT kvs=>obtain ⟨_,_,_,_,o,_,_,e,_⟩:=x;exact Heap.lt_size e
 | set S n=>obtain ⟨o,_,_,_,e,_⟩:=x;exact Heap.lt_size e
 | ins C dx fs=>obtain ⟨_,_,_,e,_⟩:=x;exact Heap.lt_size e
 | own y=>obtain ⟨_,e⟩:=x;exact Heap.lt_size e
 | xd fs=>obtain ⟨_,⟨_,_,_,e,_⟩,_⟩:=x;exact Heap.lt_size e
 | rng lo hi=>obtain ⟨_,_,_,e⟩:=x;exact Heap.lt_size e
 | frz ob u=>obtain ⟨e,_⟩:=x;exact Heap.lt_size e
 | tbl ps=>exact Heap.lt_size (show h.get? a=some _ from x)
 | met f y=>exact Heap.lt_size (show h.get? a=some _ from x)
 | ext φ=>obtain ⟨_,⟨_,e⟩,_⟩:=x;exact Heap.lt_size e
theorem Paired.mapP {α β:Type} {F G:α->β->Prop}:∀ {l₁:List α} {l₂:List β},Paired F l₁ l₂->(∀ a b,F a b->G a b)->Paired G l₁ l₂
 | _,_,.nil,_=>.nil
 | _,_,.cons r t,f=>.cons (f _ _ r) (Paired.mapP t f)
theorem ObjOk.stay (x:ObjOk P w H h a o) (k:∀ b u,(b=a\/H b=some (.own a))->h.get? b=some u->h'.get? b=some u)
  (ho:∀ b,H b=some (.own a)->H' b=some (.own a)) (ht:∀ b xs,H b=some (.tup xs)->H' b=some (.tup xs)):ObjOk P w H' h' a o:=by
 induction o with
 | lst xs=>obtain ⟨z,its,n,r,e⟩:=x;exact ⟨z,its,n,r,k _ _ (.inl rfl) e⟩
 | tup xs=>obtain ⟨z,its,r,ob,e,c⟩:=x;exact ⟨z,its,r,ob,k _ _ (.inl rfl) e,c⟩
 | dK kvs=>obtain ⟨z,y,vs,r,ob,es,ep,e,c⟩:=x;exact ⟨z,y,vs,r,ob,es,ep,k _ _ (.inl rfl) e,c⟩
 | dT kvs =>
  obtain ⟨z,y,xs,r,ob,es,ep,e,c⟩:=x
  exact ⟨z,y,xs,Paired.mapP r fun p q z=>⟨z.1,ht _ _ z.2.1,z.2.2⟩,ob,es,ep,k _ _ (.inl rfl) e,c⟩
 | set S n=>obtain ⟨ob,es,ep,t,e,c⟩:=x;exact ⟨ob,es,ep,t,k _ _ (.inl rfl) e,c⟩
 | ins C dx fs =>
  obtain ⟨d,z,ne,e,mA,⟨od,es,ep,e2,c⟩,r⟩:=x
  exact ⟨ho _ d,z,ne,k _ _ (.inl rfl) e,mA,⟨od,es,ep,k _ _ (.inr d) e2,c⟩,r⟩
 | own y=>obtain ⟨ob,e⟩:=x;exact ⟨ob,k _ _ (.inl rfl) e⟩
 | xd fs=>obtain ⟨mA,⟨od,es,ep,e,c⟩,r⟩:=x;exact ⟨mA,⟨od,es,ep,k _ _ (.inl rfl) e,c⟩,r⟩
 | rng lo hi=>obtain ⟨t,u,v,e⟩:=x;exact ⟨t,u,v,k _ _ (.inl rfl) e⟩
 | frz ob u ih=>obtain ⟨e,q⟩:=x;exact ⟨k _ _ (.inl rfl) e,ih q⟩
 | tbl ps =>
  have e:h.get? a=some { cls:=.none,data:=.fields ps }:=x
  show h'.get? a=some { cls:=.none,data:=.fields ps }
  exact k a _ (.inl rfl) e
 | met f y =>
  have e:h.get? a=some (PySem.W.methodObj (.ref f) (.ref y)):=x
  show h'.get? a=some (PySem.W.methodObj (.ref f) (.ref y))
  exact k a _ (.inl rfl) e
 | ext φ=>obtain ⟨p,⟨o,e⟩,st⟩:=x;exact ⟨st _ _ p fun o q=>k _ _ (.inl rfl) q,⟨o,k _ _ (.inl rfl) e⟩,st⟩
theorem HOk.lt (x:HOk P w H h) (e:H a=some o):a < h.objs.size:=(x a o e).lt
theorem HOk.fresh (x:HOk P w H h) (e:h.objs.size<=a):H a=none:=by
 cases q:H a with
 | none=>rfl
 | some u=>exact absurd (Nat.lt_of_lt_of_le (x.lt q) e) (Nat.lt_irrefl _)
theorem HOk.kept (x:HOk P w H h) (k:∀ b u,h.get? b=some u->h'.get? b=some u):HOk P w H h':=fun a o e =>
 (x a o e).stay (fun b u _ q=>k b u q) (fun _ q=>q) fun _ _ q=>q
theorem HOk.laid (x:HOk P w H h) (k:∀ b u,h.get? b=some u->h'.get? b=some u) (hp:h.objs.size<=a) (new:ObjOk P w (upd H a o) h' a o):HOk P w (upd H a o) h':=fun b u e=>by
 have hn:=x.fresh hp
 by_cases hb:b=a
 ·subst hb;rw [upd_same] at e;cases e;exact new
 ·rw [upd_ne hb] at e
  exact (x b u e).stay (fun c v _ q=>k c v q) (fun c q=>by rw [upd_ne (ne_of_none q hn)];exact q) fun c xs q=>by rw [upd_ne (ne_of_none q hn)];exact q
end
def Rd (H:Hp) (a:Addr) (u:HO):Prop:=H a=some u\/∃ o,H a=some (.frz o u)
theorem Rd.ok {P:Program} {w:World} {H:Hp} {h:Heap} {a:Addr} {u:HO} (r:Rd H a u) (x:HOk P w H h):ObjOk P w H h a u:=by
 rcases r with r | ⟨o,r⟩
 ·exact x a u r
 ·obtain ⟨_,q⟩:=x a _ r
  exact q
def Mut:Option HO->Prop
 | some (.lst _)=>True
 | some (.dK _)=>True
 | some (.dT _)=>True
 | some (.set _ _)=>True
 | some (.ins _ _ _)=>True
 | some (.ext _)=>True
 | _=>False
section
variable {P:Program} {w:World} {H:Hp} {h h':Heap} {x e:Addr} {o':HO}
theorem HOk.write (ok:HOk P w H h) (mu:Mut (H x)) (he:e=x\/H e=some (.own x)) (k:∀ b u,b≠e->h.get? b=some u->h'.get? b=some u) (heo:∃ u,h'.get? e=some u)
  (new:ObjOk P w (upd H x o') h' x o'):HOk P w (upd H x o') h':=fun b u q=>by
 have nown:∀ c y,H c=some (.own y)->c≠x:=fun c y r z=>by subst z;rw [r] at mu;exact mu
 have ntup:∀ c xs,H c=some (.tup xs)->c≠x:=fun c xs r z=>by subst z;rw [r] at mu;exact mu
 by_cases hb:b=x
 ·subst hb;rw [upd_same] at q;cases q;exact new
 ·rw [upd_ne hb] at q
  by_cases hbe:b=e
  ·have q':H b=some (.own x):=by
    rcases he with z | z
    ·exact absurd (hbe.trans z) hb
    ·rw [hbe];exact z
   rw [q] at q';cases q'
   obtain ⟨v,hv⟩:=heo
   exact ⟨v,by rw [hbe];exact hv⟩
  ·refine (ok b u q).stay (fun c v hc r=>k c v ?_ r) (fun c r=>by rw [upd_ne (nown c b r)];exact r) fun c xs r=>by rw [upd_ne (ntup c xs r)];exact r
   rcases hc with rfl | hc
   ·exact hbe
   ·rintro rfl
    rcases he with z | z
    ·exact nown c b hc z
    ·rw [hc] at z;cases z;exact hb rfl
end
structure Un (fs ex:List Addr) (H H':Hp) (h h':Heap):Prop where
 keep:∀ b o,h.get? b=some o->H b=none->b ∉ fs->b ∉ ex->h'.get? b=some o
 slot:∀ b o,h.get? b=some o->H b=none->b∈fs->b ∉ ex->∃ sl,h'.get? b=some { o with slots:=sl }
 free:∀ b o,h.get? b=some o->H b=none->b ∉ ex->H' b=none
 there:∀ b o,h.get? b=some o->b ∉ ex->∃ o',h'.get? b=some o'
 tups:∀ b xs,H b=some (.tup xs)->H' b=some (.tup xs)
 frzs:∀ b o u,H b=some (.frz o u)->H' b=some (.frz o u)
 tbls:∀ b ps,H b=some (.tbl ps)->∃ more,H' b=some (.tbl (ps++more))
section
variable {fs fs' ex ex':List Addr} {H H1 H2:Hp} {h h1 h2 h':Heap} {a x e:Addr} {o:HO}
theorem Un.any (u:Un fs ex H H1 h h1) {b:Addr} {ob:Obj} (q:h.get? b=some ob) (n:H b=none) (hx:b ∉ ex):∃ sl,h1.get? b=some { ob with slots:=sl }:=by
 by_cases hb:b∈fs
 ·exact u.slot b ob q n hb hx
 ·exact ⟨ob.slots,u.keep b ob q n hb hx⟩
theorem Un.kept (k:∀ b u,h.get? b=some u->h'.get? b=some u):Un fs ex H H h h' :=
 ⟨fun b ob q _ _ _=>k b ob q,fun b ob q _ _ _=>⟨ob.slots,k b ob q⟩,fun _ _ _ n _=>n,fun b ob q _=>⟨ob,k b ob q⟩,fun _ _ q=>q,fun _ _ _ q=>q,fun _ ps q=>⟨#[],by rw [q];simp⟩⟩
theorem Un.refl:Un fs ex H H h h:=Un.kept fun _ _ q=>q
theorem Un.laid (k:∀ b u,h.get? b=some u->h'.get? b=some u) (hp:h.objs.size<=a) (hn:H a=none):Un fs ex H (upd H a o) h h' where
 keep:=fun b u q _ _ _=>k b u q
 slot:=fun b u q _ _ _=>⟨u.slots,k b u q⟩
 free:=fun b u q n _=>by rw [upd_ne (Nat.ne_of_lt (Nat.lt_of_lt_of_le (Heap.lt_size q) hp))];exact n
 there:=fun b u q _=>⟨u,k b u q⟩
 tups:=fun b xs q=>by rw [upd_ne (ne_of_none q hn)];exact q
 frzs:=fun b u xs q=>by rw [upd_ne (ne_of_none q hn)];exact q
 tbls:=fun b ps q=>⟨#[],by rw [upd_ne (ne_of_none q hn),q];simp⟩
theorem Un.write (mu:Mut (H x)) (he:e=x\/H e=some (.own x)) (k:∀ b u,b≠e->h.get? b=some u->h'.get? b=some u) (heo:∃ u,h'.get? e=some u):Un fs ex H (upd H x o) h h':=by
 have hx:∀ b,H b=none->b≠x:=fun b n z=>by subst z;rw [n] at mu;exact mu
 have hb:∀ b,H b=none->b≠e:=fun b n z=>by
  subst z
  rcases he with r | r
  ·exact hx b n r
  ·rw [n] at r;cases r
 have hm:∀ b u,H b=some u->¬ Mut (some u)->b≠x:=fun b u q nm z=>by subst z;rw [q] at mu;exact nm mu
 refine ⟨fun b u q n _ _=>k b u (hb b n) q,fun b u q n _ _=>⟨u.slots,k b u (hb b n) q⟩,fun b u q n _=>by rw [upd_ne (hx b n)];exact n,fun b u q _=>?_,
  fun b xs q=>by rw [upd_ne (hm b _ q fun z=>z)];exact q,fun b u xs q=>by rw [upd_ne (hm b _ q fun z=>z)];exact q,fun b ps q=>⟨#[],by rw [upd_ne (hm b _ q fun z=>z),q];simp⟩⟩
 by_cases hbe:b=e
 ·subst hbe;exact heo
 ·exact ⟨u,k b u hbe q⟩
end
def trk (h:Heap) (H:Hp):List Addr:=(List.range h.objs.size).filter fun a=>(H a).isSome
def hidT (h:Heap) (H:Hp):Heap:=PySem.W.hideAll h (trk h H)
theorem hidT_size (h:Heap) (H:Hp):(hidT h H).objs.size=h.objs.size:=PySem.W.hideAll_size _ _
theorem hidT_get {h:Heap} {H:Hp} {b:Addr} {o:Obj} (e:h.get? b=some o) (n:H b=none):(hidT h H).get? b=some o :=
 PySem.W.hideAll_get _ e fun hm=>by
  have q:(H b).isSome=true:=(List.mem_filter.mp hm).2
  rw [n] at q;simp at q
theorem of_hidT {h:Heap} {H:Hp} {b:Addr} {o:Obj} (e:(hidT h H).get? b=some o):h.get? b=some o/\H b=none:=by
 have e':h.get? b=some o:=PySem.W.of_hideAll (trk h H) e
 refine ⟨e',?_⟩
 cases q:H b with
 | none=>rfl
 | some x =>
  have hm:b∈trk h H:=List.mem_filter.mpr ⟨List.mem_range.mpr (Heap.lt_size e'),by simp [q]⟩
  have z:(hidT h H).get? b=none:=PySem.W.hideAll_none (trk h H) hm
  rw [z] at e;cases e
def allNews (g h:Heap) (L:Addr):List (Addr × Obj):=(List.range h.objs.size).filterMap fun a=>if a=L\/(g.get? a).isSome=true then none else (h.get? a).map fun o=>(a,o)
def rest (g h:Heap) (L d:Addr):List (Addr × Obj):=(allNews g h L).filter fun p=>decide (p.1≠d)
structure Mod (K:PySem.W.Frag) (mg:Str->Option Value) (base:Heap):Prop where
 kin:K.In base
 glob:base.Ns mainGlobals mg
 blt:∃ mb,base.Ns builtinsNs mb/\∀ x:Str,x≠"__name__" -> mb x=bootBuiltins x
 nolimit:base.NoLimit
structure Cx where
 prog:Program
 w:World
 K:PySem.W.Frag
 mg:Str->Option Value
 base:Heap
 A:Around
 N:List Str
 s₀:Shared
 H₀:Hp
 env:Env
 outer:List Env
 stack:List Env
 ex:List Addr
 fn:Str->Bool
 calm:Bool
 pn:List (Addr × Obj)
 xe:Value->Shared->Prop
def frs (l:List Env):List Addr:=l.filterMap (·.frame)
abbrev Cx.fs (X:Cx):List Addr:=frs X.outer
def Vis (sc:Scope) (x:Str):Prop:=sc.names.lookup x=some .local\/sc.names.lookup x=some .cell\/sc.names.lookup x=some .free
def Loc (sc:Scope) (x:Str):Prop:=sc.names.lookup x=some .local\/sc.names.lookup x=some .cell
def Look (env:Env) (h:Heap) (m:Str->Option Value) (x:Str) (u:Value):Prop :=
 (env.kindOf x=some .local/\m x=some u)\/((env.kindOf x=some .cell\/env.kindOf x=some .free)/\∃ c,env.cells.lookup x=some c/\h.IsCell c (some u))
structure Cx.Ok (X:Cx):Prop where
 mod:Mod X.K X.mg X.base
 kind:X.env.scope.kind=.function
 glob:X.env.globals=mainGlobals
 blt:X.env.builtins=builtinsNs
 above:X.s₀.heap.objs.size<=X.env.locals
 inj:∀ x y c,X.env.cells.lookup x=some c->X.env.cells.lookup y=some c->x=y
 has:∀ x,(X.env.kindOf x=some .cell\/X.env.kindOf x=some .free)->∃ c,X.env.cells.lookup x=some c
 cab:∀ x c,X.fn x=true->X.env.cells.lookup x=some c->X.s₀.heap.objs.size<=c
 hd:X.calm=true->X.A.handled=none
 frames:X.A.frames=some X.stack
 stk:X.stack=X.outer\/(X.stack=X.env::X.outer/\X.env.frame=some X.env.locals)
 exf:∀ b∈X.ex,b≠X.env.locals/\∀ x c,X.env.cells.lookup x=some c->c≠b
 bs:∀ b o,X.base.get? b=some o->X.s₀.heap.get? b=some o/\X.H₀ b=none
 bsz:X.base.objs.size<=X.s₀.heap.objs.size
 noex:∀ b o,X.base.get? b=some o->b ∉ X.ex
 exfs:∀ b∈X.ex,b ∉ X.fs
 funs:X.s₀.heap.FunFrames X.base X.outer
 frf:∀ b∈X.fs,X.H₀ b=none
structure Inv (X:Cx) (pins:List (Addr × Obj)) (σ:List (Option V)) (H:Hp) (s:Shared):Prop where
 ok:X.Ok
 os:s.os=X.s₀.os
 bare:AllBare s.gens
 base:Un X.fs X.ex X.H₀ H X.s₀.heap s.heap
 loc:∃ m,s.heap.Ns X.env.locals m/\∀ (i:Nat) (x:Str) (v:V),X.N[i]?=some x->σ[i]?=some (some v)->Vis X.env.scope x->∃ u,RelV v u/\Look X.env s.heap m x u
 cell:∀ x c,X.env.cells.lookup x=some c->∃ v,s.heap.IsCell c v
 free:H X.env.locals=none
 freeC:∀ x c,X.env.cells.lookup x=some c->H c=none
 pin:∀ p∈X.pn++pins,s.heap.get? p.1=some p.2/\H p.1=none/\p.1≠X.env.locals/\p.1 ∉ X.fs/\∀ v,p.2.data≠.cell v
 hok:HOk X.prog X.w H s.heap
 len:σ.length=X.N.length
section
variable {X:Cx} {pins:List (Addr × Obj)} {σ:List (Option V)} {H H':Hp} {s:Shared} {h':Heap}
theorem Cx.Ok.nofr (ok:X.Ok) {b:Addr} {o:Obj} (e:X.base.get? b=some o):b ∉ X.fs:=fun hb=>by
 have:=(ok.funs.mem hb).1
 rw [e] at this;cases this
theorem Inv.bs (I:Inv X pins σ H s):∀ b o,X.base.get? b=some o->s.heap.get? b=some o/\H b=none:=fun b o e =>
 ⟨I.base.keep b o (I.ok.bs b o e).1 (I.ok.bs b o e).2 (I.ok.nofr e) (I.ok.noex b o e),I.base.free b o (I.ok.bs b o e).1 (I.ok.bs b o e).2 (I.ok.noex b o e)⟩
theorem Inv.bk (I:Inv X pins σ H s):∀ b o,X.base.get? b=some o->s.heap.get? b=some o:=fun b o e=>(I.bs b o e).1
theorem Inv.mod (I:Inv X pins σ H s):Mod X.K X.mg X.base:=I.ok.mod
theorem Inv.kIn (I:Inv X pins σ H s):X.K.In s.heap:=I.ok.mod.kin.keeps I.bk
theorem Inv.lt (I:Inv X pins σ H s):X.env.locals < s.heap.objs.size:=let ⟨_,hn,_⟩:=I.loc;hn.lt
theorem Inv.sz (I:Inv X pins σ H s):X.s₀.heap.objs.size<=s.heap.objs.size:=Nat.le_trans I.ok.above (Nat.le_of_lt I.lt)
theorem Inv.nofs (I:Inv X pins σ H s) {a:Addr} (h:s.heap.objs.size<=a):a ∉ X.fs:=fun hb=>by
 obtain ⟨_,o,ho,_⟩:=I.ok.funs.mem hb
 exact absurd (Nat.lt_of_lt_of_le (Heap.lt_size ho) (Nat.le_trans I.sz h)) (Nat.lt_irrefl _)
theorem Inv.cne (I:Inv X pins σ H s):∀ x c,X.env.cells.lookup x=some c->c≠X.env.locals:=fun x c e z=>by
 obtain ⟨v,o,ho,hd⟩:=I.cell x c e
 obtain ⟨m,⟨o',es,ep,ho',hd',_⟩,_⟩:=I.loc
 rw [z,ho'] at ho;cases ho;rw [hd'] at hd;cases hd
theorem Inv.funs (I:Inv X pins σ H s):s.heap.FunFrames X.base X.outer:=by
 have all:∀ (l:List Env),(∀ b∈frs l,b∈X.fs)->X.s₀.heap.FunFrames X.base l->s.heap.FunFrames X.base l:=by
  intro l
  induction l with
  | nil=>intro _ _;trivial
  | cons env r ih =>
   intro hs hl
   obtain ⟨hk,⟨L,o,hf,hn,ho,hd⟩,hr⟩:=hl
   have hL:L∈X.fs:=hs L (by unfold frs;rw [List.filterMap_cons,hf];exact List.mem_cons_self)
   obtain ⟨sl,e⟩:=I.base.slot L o ho (I.ok.frf L hL) hL fun z=>I.ok.exfs L z hL
   exact ⟨hk,⟨L,_,hf,hn,e,hd⟩,ih (fun b hb=>hs b (by unfold frs;rw [List.filterMap_cons,hf];exact List.mem_cons_of_mem _ hb)) hr⟩
 exact all X.outer (fun _ hb=>hb) I.ok.funs
theorem Inv.stack (I:Inv X pins σ H s):s.heap.FunFrames X.base X.stack:=by
 rcases I.ok.stk with e | ⟨e,hf⟩
 ·rw [e];exact I.funs
 ·rw [e]
  obtain ⟨m,hn,_⟩:=I.loc
  refine .cons (by rw [I.ok.kind];decide) hf hn ?_ I.funs
  exact Heap.get?_none_of_le (Nat.le_trans I.ok.bsz I.ok.above)
theorem Inv.stkSub (I:Inv X pins σ H s):∀ b∈frs X.stack,b∈X.env.locals::X.fs:=fun b hb=>by
 rcases I.ok.stk with e | ⟨e,hf⟩
 ·rw [e] at hb;exact List.mem_cons_of_mem _ hb
 ·rw [e] at hb
  unfold frs at hb
  rw [List.filterMap_cons,hf] at hb
  exact hb
theorem Inv.stkFree (I:Inv X pins σ H s):∀ b∈frs X.stack,H b=none:=fun b hb=>by
 rcases List.mem_cons.mp (I.stkSub b hb) with e | hb
 ·rw [e];exact I.free
 ·obtain ⟨_,o,ho,_⟩:=I.ok.funs.mem hb
  exact I.base.free b o ho (I.ok.frf b hb) fun z=>I.ok.exfs b z hb
theorem Inv.step {g':Array GenState} {t':Nat} {d':Drawn} {ch:List Addr} (I:Inv X pins σ H s)
  (hch:∀ b∈ch,(b∈X.ex\/X.s₀.heap.objs.size<=b)/\b≠X.env.locals/\(∀ x c,X.env.cells.lookup x=some c->c≠b)/\∀ p∈X.pn++pins,p.1≠b)
  (keep:∀ b o,b≠X.env.locals->b ∉ X.fs->b ∉ ch->s.heap.get? b=some o->H b=none->h'.get? b=some o)
  (slot:∀ b o,b≠X.env.locals->b∈X.fs->b ∉ ch->s.heap.get? b=some o->H b=none->∃ sl,h'.get? b=some { o with slots:=sl }) (free:∀ b o,b ∉ ch->s.heap.get? b=some o->H b=none->H' b=none)
  (there:∀ b o,b ∉ ch->s.heap.get? b=some o->∃ o',h'.get? b=some o')
  (tups:∀ b xs,H b=some (.tup xs)->H' b=some (.tup xs)) (frzs:∀ b o u,H b=some (.frz o u)->H' b=some (.frz o u)) (tbls:∀ b ps,H b=some (.tbl ps)->∃ more,H' b=some (.tbl (ps++more)))
  (ns:∀ m,s.heap.Ns X.env.locals m->h'.Ns X.env.locals m) (hok:HOk X.prog X.w H' h') (hg:AllBare g') :
  Inv X pins σ H' { s with heap:=h',gens:=g',drawn:=d',toks:=t' }:=by
 have neL:∀ b o,X.s₀.heap.get? b=some o->b≠X.env.locals:=fun b o e=>Nat.ne_of_lt (Nat.lt_of_lt_of_le (Heap.lt_size e) I.ok.above)
 have neC:∀ b o,X.s₀.heap.get? b=some o->b ∉ X.ex->b ∉ ch:=fun b o e hx hb=>by
  rcases (hch b hb).1 with z | z
  ·exact hx z
  ·exact absurd (Nat.lt_of_lt_of_le (Heap.lt_size e) z) (Nat.lt_irrefl _)
 have cellK:∀ x c,X.env.cells.lookup x=some c->∀ v,s.heap.IsCell c v->h'.IsCell c v:=fun x c e v ⟨o,ho,hd⟩=>by
  have nch:c ∉ ch:=fun z=>(hch c z).2.2.1 x c e rfl
  by_cases hc:c∈X.fs
  ·obtain ⟨sl,q⟩:=slot c o (I.cne x c e) hc nch ho (I.freeC x c e)
   exact ⟨_,q,hd⟩
  ·exact ⟨o,keep c o (I.cne x c e) hc nch ho (I.freeC x c e),hd⟩
 refine ⟨I.ok,I.os,hg,⟨fun b o e n hb hx=>?_,fun b o e n hb hx=>?_,fun b o e n hx=>?_,fun b o e hx=>?_,fun b xs e=>tups b xs (I.base.tups b xs e),fun b o xs e=>frzs b o xs (I.base.frzs b o xs e),fun b ps e=>?_⟩,?_,fun x c e=>?_,?_,fun x c e=>?_,fun p hp=>?_,hok,I.len⟩
 ·exact keep b o (neL b o e) hb (neC b o e hx) (I.base.keep b o e n hb hx) (I.base.free b o e n hx)
 ·obtain ⟨sl,e1⟩:=I.base.slot b o e n hb hx
  obtain ⟨sl',e2⟩:=slot b _ (neL b o e) hb (neC b o e hx) e1 (I.base.free b o e n hx)
  exact ⟨sl',e2⟩
 ·obtain ⟨o',e1⟩:=I.base.there b o e hx
  exact free b o' (neC b o e hx) e1 (I.base.free b o e n hx)
 ·obtain ⟨o',e1⟩:=I.base.there b o e hx
  exact there b o' (neC b o e hx) e1
 ·obtain ⟨m1,e1⟩:=I.base.tbls b ps e
  obtain ⟨m2,e2⟩:=tbls b _ e1
  exact ⟨m1++m2,by rw [e2,Array.append_assoc]⟩
 ·obtain ⟨m,hn,hl⟩:=I.loc
  refine ⟨m,ns m hn,fun i x v e1 e2 e3=>?_⟩
  obtain ⟨u,r,l⟩:=hl i x v e1 e2 e3
  refine ⟨u,r,?_⟩
  rcases l with l | ⟨k,c,e,z⟩
  ·exact .inl l
  ·exact .inr ⟨k,c,e,cellK x c e _ z⟩
 ·obtain ⟨v,z⟩:=I.cell x c e
  exact ⟨v,cellK x c e v z⟩
 ·obtain ⟨m,⟨o,_,_,ho,_⟩,_⟩:=I.loc
  exact free _ o (fun z=>(hch _ z).2.1 rfl) ho I.free
 ·obtain ⟨v,o,ho,hd⟩:=I.cell x c e
  exact free c o (fun z=>(hch c z).2.2.1 x c e rfl) ho (I.freeC x c e)
 ·obtain ⟨e,n,ne,nf,d⟩:=I.pin p hp
  have nch:p.1 ∉ ch:=fun z=>(hch p.1 z).2.2.2 p hp rfl
  exact ⟨keep p.1 p.2 ne nf nch e n,free p.1 p.2 nch e n,ne,nf,d⟩
theorem Inv.un {t':Nat} (I:Inv X pins σ H s) (u:Un X.fs [] H H' s.heap h') (hok:HOk X.prog X.w H' h'):Inv X pins σ H' { s with heap:=h',toks:=t' }:=by
 obtain ⟨m,⟨o,es,ep,ho,r⟩,_⟩:=id I.loc
 obtain ⟨sl,hL⟩:=u.any ho I.free (by simp)
 exact I.step (g':=s.gens) (d':=s.drawn) (ch:=[]) (fun _ z=>nomatch z) (fun b o _ hb _ e n=>u.keep b o e n hb (by simp)) (fun b o _ hb _ e n=>u.slot b o e n hb (by simp)) (fun b o _ e n=>u.free b o e n (by simp)) (fun b o _ e=>u.there b o e (by simp)) u.tups u.frzs u.tbls (fun m' hm=>by
  obtain ⟨o',es',ep',ho',r'⟩:=hm
  rw [ho] at ho';cases ho'
  exact ⟨_,es',ep',hL,r'⟩) hok I.bare
theorem Inv.call {g':Array GenState} {t':Nat} {d':Drawn} {ch:List Addr} (I:Inv X pins σ H s) (u:Un (frs X.stack) ch H H' s.heap h') (hok:HOk X.prog X.w H' h') (hg:AllBare g')
  (hch:∀ b∈ch,(b∈X.ex\/X.s₀.heap.objs.size<=b)/\b≠X.env.locals/\(∀ x c,X.env.cells.lookup x=some c->c≠b)/\∀ p∈X.pn++pins,p.1≠b) :
  Inv X pins σ H' { s with heap:=h',gens:=g',drawn:=d',toks:=t' }:=by
 obtain ⟨m,⟨o,es,ep,ho,r⟩,_⟩:=id I.loc
 obtain ⟨sl,hL⟩:=u.any ho I.free fun z=>(hch _ z).2.1 rfl
 exact I.step (ch:=ch) hch (fun b o hL hb hc e n=>u.keep b o e n (fun z=>(List.mem_cons.mp (I.stkSub b z)).elim hL hb) hc) (fun b o _ _ hc e n=>u.any e n hc) (fun b o hc e n=>u.free b o e n hc) (fun b o hc e=>u.there b o e hc) u.tups u.frzs u.tbls (fun m' hm=>by
  obtain ⟨o',es',ep',ho',r'⟩:=hm
  rw [ho] at ho';cases ho'
  exact ⟨_,es',ep',hL,r'⟩) hok hg
theorem Inv.turned {t':Nat} {it:Addr} (I:Inv X pins σ H s) (k:∀ b o,b≠it->s.heap.get? b=some o->h'.get? b=some o) (hn:H it=none) (hL:it≠X.env.locals)
  (h1:it∈X.ex\/X.s₀.heap.objs.size<=it) (h2:∀ x c,X.env.cells.lookup x=some c->c≠it) (h3:∀ p∈X.pn++pins,p.1≠it):Inv X pins σ H { s with heap:=h',toks:=t' }:=by
 have nit:∀ b u,H b=some u->b≠it:=fun b u e z=>by rw [z,hn] at e;cases e
 refine I.step (g':=s.gens) (d':=s.drawn) (ch:=[it]) (fun b hb=>?_) (fun b o _ _ hc e _=>k b o (fun z=>hc (by simp [z])) e) (fun b o _ _ hc e _=>⟨o.slots,k b o (fun z=>hc (by simp [z])) e⟩) (fun _ _ _ _ n=>n)
  (fun b o hc e=>⟨o,k b o (fun z=>hc (by simp [z])) e⟩) (fun _ _ e=>e) (fun _ _ _ e=>e) (fun b ps e=>⟨#[],by rw [e];simp⟩) (fun m hm=>?_) (fun b u e=>?_) I.bare
 ·have e:b=it:=by simpa using hb
  subst e
  exact ⟨h1,hL,h2,h3⟩
 ·obtain ⟨o,es,ep,ho,r⟩:=hm
  exact ⟨o,es,ep,k _ o (Ne.symm hL) ho,r⟩
 ·refine (I.hok b u e).stay (fun c v hc q=>k c v ?_ q) (fun _ q=>q) fun _ _ q=>q
  rcases hc with z | z
  ·rw [z];exact nit b u e
  ·exact nit c _ z
theorem Inv.tok (I:Inv X pins σ H s) (t:Nat):Inv X pins σ H { s with toks:=t }:=I.un (h':=s.heap) (t':=t) Un.refl I.hok
theorem Inv.kept {t':Nat} (I:Inv X pins σ H s) (k:∀ b u,s.heap.get? b=some u->h'.get? b=some u):Inv X pins σ H { s with heap:=h',toks:=t' }:=I.un (Un.kept k) (I.hok.kept k)
theorem Inv.laid {a:Addr} {o:HO} {t':Nat} (I:Inv X pins σ H s) (k:∀ b u,s.heap.get? b=some u->h'.get? b=some u) (hp:s.heap.objs.size<=a) (new:ObjOk X.prog X.w (upd H a o) h' a o) :
  Inv X pins σ (upd H a o) { s with heap:=h',toks:=t' }:=I.un (Un.laid k hp (I.hok.fresh hp)) (I.hok.laid k hp new)
theorem Inv.write {x e:Addr} {o:HO} {t':Nat} (I:Inv X pins σ H s) (mu:Mut (H x)) (he:e=x\/H e=some (.own x)) (k:∀ b u,b≠e->s.heap.get? b=some u->h'.get? b=some u) (heo:∃ u,h'.get? e=some u)
  (new:ObjOk X.prog X.w (upd H x o) h' x o):Inv X pins σ (upd H x o) { s with heap:=h',toks:=t' }:=I.un (Un.write mu he k heo) (I.hok.write mu he k heo new)
theorem Inv.weak {σ':List (Option V)} (I:Inv X pins σ H s) (hl:σ'.length=σ.length) (w:∀ (i:Nat) v,σ'[i]?=some (some v)->σ[i]?=some (some v)):Inv X pins σ' H s :=
 ⟨I.ok,I.os,I.bare,I.base,let ⟨m,hn,hl'⟩:=I.loc;⟨m,hn,fun i x v e1 e2 e3=>hl' i x v e1 (w i v e2) e3⟩,I.cell,I.free,I.freeC,I.pin,I.hok,hl.trans I.len⟩
theorem Inv.pins_of {pins':List (Addr × Obj)} (I:Inv X pins σ H s) (h:∀ p∈pins',s.heap.get? p.1=some p.2/\H p.1=none/\p.1≠X.env.locals/\p.1 ∉ X.fs/\∀ v,p.2.data≠.cell v):Inv X pins' σ H s :=
 ⟨I.ok,I.os,I.bare,I.base,I.loc,I.cell,I.free,I.freeC,fun p hp=>(List.mem_append.mp hp).elim (fun z=>I.pin p (List.mem_append_left _ z)) (h p),I.hok,I.len⟩
theorem nodup_ix {N:List Str} (hN:N.Nodup) {i j:Nat} {x:Str} (a:N[i]?=some x) (b:N[j]?=some x):i=j:=by
 obtain ⟨h1,e1⟩:=List.getElem?_eq_some_iff.mp a
 obtain ⟨h2,e2⟩:=List.getElem?_eq_some_iff.mp b
 exact (List.getElem_inj hN).mp (e1.trans e2.symm)
theorem store_ok2 {M:Model} {A:Around} {E:Value->Shared->Prop} {i:Nat} {x:Str} {v:V} {u:Value} {Q:Unit->Shared->Prop} (I:Inv X pins σ H s) (hN:X.N.Nodup) (hi:X.N[i]?=some x) (hx:Loc X.env.scope x) (r:RelV v u)
  (h:∀ s',Inv X pins (σ.set i (some v)) H s'->(∃ a,Heap.SameBut a s.heap s'.heap/\(a=X.env.locals\/X.env.cells.lookup x=some a))->Q () s') (hf:X.fn x=true\/X.env.scope.names.lookup x=some .local:=by first | exact .inl rfl | exact .inr rfl | assumption):wpAny M A (storeName X.env x u) Q E s:=by
 obtain ⟨m,hn,hl⟩:=id I.loc
 have hcls:(X.env.scope.kind == .class || (X.env.scope.kind == .module && X.env.locals != X.env.globals))=false:=by rw [I.ok.kind];rfl
 have hiσ:i < σ.length:=by rw [I.len];exact (List.getElem?_eq_some_iff.mp hi).1
 have cne:=I.cne
 have tracked:∀ {a:Addr} {h':Heap},(∃ o,s.heap.get? a=some o/\H a=none)->Heap.SameBut a s.heap h'->HOk X.prog X.w H h':=fun {a h'} ha hs b ob e=>by
  obtain ⟨_,_,hfree⟩:=ha
  refine (I.hok b ob e).stay (fun c w' hc q=>(hs.2 c ?_).trans q) (fun _ q=>q) fun _ _ q=>q
  rintro rfl
  rcases hc with rfl | hc
  ·rw [hfree] at e;cases e
  ·rw [hfree] at hc;cases hc
 rcases hx with hk | hk
 ·refine wpAny_storeName_local hk hn (fun h' hn' hs=>?_) hcls
  obtain ⟨oL,_,_,hoL,_⟩:=id hn
  refine h _ ⟨I.ok,I.os,I.bare,⟨fun b o e n hb hx=>?_,fun b o e n hb hx=>?_,I.base.free,fun b o e hx=>?_,I.base.tups,I.base.frzs,I.base.tbls⟩,⟨_,hn',fun j y v' e1 e2 e3=>?_⟩,fun y c e=>?_,I.free,I.freeC,fun p hp=>?_,tracked ⟨oL,hoL,I.free⟩ hs,by simpa using I.len⟩ ⟨_,hs,.inl rfl⟩
  ·exact (hs.2 b (Nat.ne_of_lt (Nat.lt_of_lt_of_le (Heap.lt_size e) I.ok.above))).trans (I.base.keep b o e n hb hx)
  ·obtain ⟨sl,e1⟩:=I.base.slot b o e n hb hx
   exact ⟨sl,(hs.2 b (Nat.ne_of_lt (Nat.lt_of_lt_of_le (Heap.lt_size e) I.ok.above))).trans e1⟩
  ·obtain ⟨o',e1⟩:=I.base.there b o e hx
   exact ⟨o',(hs.2 b (Nat.ne_of_lt (Nat.lt_of_lt_of_le (Heap.lt_size e) I.ok.above))).trans e1⟩
  ·by_cases hj:j=i
   ·subst hj
    rw [hi] at e1;cases e1
    rw [List.getElem?_set_self hiσ] at e2
    cases e2
    exact ⟨u,r,.inl ⟨hk,by simp⟩⟩
   ·rw [List.getElem?_set_ne (Ne.symm hj)] at e2
    obtain ⟨u',r',q⟩:=hl j y v' e1 e2 e3
    refine ⟨u',r',?_⟩
    rcases q with ⟨k,e⟩ | ⟨k,c,e,z⟩
    ·refine .inl ⟨k,?_⟩
     have:y≠x:=fun e=>hj (nodup_ix hN e1 (e ▸ hi))
     simp [this,e]
    ·exact .inr ⟨k,c,e,z.sameBut hs (cne y c e)⟩
  ·obtain ⟨w',z⟩:=I.cell y c e
   exact ⟨w',z.sameBut hs (cne y c e)⟩
  ·obtain ⟨e,n,ne,nf,d⟩:=I.pin p hp
   exact ⟨(hs.2 p.1 ne).trans e,n,ne,nf,d⟩
 ·have hfn:X.fn x=true:=by
   rcases hf with z | z
   ·exact z
   ·rw [z] at hk;cases hk
  obtain ⟨c,hc⟩:=I.ok.has x (.inl hk)
  obtain ⟨w',z⟩:=I.cell x c hc
  refine wpAny_storeName_cell I.ok.kind hk hc z (fun h' hc' hs=>?_)
  obtain ⟨oc,hoc,hocd⟩:=id z
  refine h { s with heap:=h' } ⟨I.ok,I.os,I.bare,⟨fun b o e n hb hx=>?_,fun b o e n hb hx=>?_,I.base.free,fun b o e hx=>?_,I.base.tups,I.base.frzs,I.base.tbls⟩,⟨m,hn.sameBut hs (Ne.symm (cne x c hc)),fun j y v' e1 e2 e3=>?_⟩,fun y c' e=>?_,I.free,I.freeC,fun p hp=>?_,tracked ⟨oc,hoc,I.freeC x c hc⟩ hs,by simpa using I.len⟩ ⟨c,hs,.inr hc⟩
  ·exact (hs.2 b (Nat.ne_of_lt (Nat.lt_of_lt_of_le (Heap.lt_size e) (I.ok.cab x c hfn hc)))).trans (I.base.keep b o e n hb hx)
  ·obtain ⟨sl,e1⟩:=I.base.slot b o e n hb hx
   exact ⟨sl,(hs.2 b (Nat.ne_of_lt (Nat.lt_of_lt_of_le (Heap.lt_size e) (I.ok.cab x c hfn hc)))).trans e1⟩
  ·obtain ⟨o',e1⟩:=I.base.there b o e hx
   exact ⟨o',(hs.2 b (Nat.ne_of_lt (Nat.lt_of_lt_of_le (Heap.lt_size e) (I.ok.cab x c hfn hc)))).trans e1⟩
  ·by_cases hj:j=i
   ·subst hj
    rw [hi] at e1;cases e1
    rw [List.getElem?_set_self hiσ] at e2
    cases e2
    exact ⟨u,r,.inr ⟨.inl hk,c,hc,hc'⟩⟩
   ·rw [List.getElem?_set_ne (Ne.symm hj)] at e2
    obtain ⟨u',r',q⟩:=hl j y v' e1 e2 e3
    refine ⟨u',r',?_⟩
    rcases q with q | ⟨k,c',e,z'⟩
    ·exact .inl q
    ·refine .inr ⟨k,c',e,z'.sameBut hs ?_⟩
     rintro rfl
     exact hj (nodup_ix hN e1 (I.ok.inj _ _ _ e hc ▸ hi))
  ·by_cases hcc:c'=c
   ·subst hcc;exact ⟨_,hc'⟩
   ·obtain ⟨w2,z2⟩:=I.cell y c' e
    exact ⟨w2,z2.sameBut hs hcc⟩
  ·obtain ⟨e,n,ne,nf,d⟩:=I.pin p hp
   refine ⟨(hs.2 p.1 ?_).trans e,n,ne,nf,d⟩
   intro q
   rw [q,hoc] at e
   have q':oc=p.2:=Option.some.inj e
   exact d w' (by rw [<- q'];exact hocd)
theorem store_ok {M:Model} {A:Around} {E:Value->Shared->Prop} {i:Nat} {x:Str} {v:V} {u:Value} {Q:Unit->Shared->Prop} (I:Inv X pins σ H s) (hN:X.N.Nodup) (hi:X.N[i]?=some x) (hx:Loc X.env.scope x) (r:RelV v u)
  (h:∀ s',Inv X pins (σ.set i (some v)) H s'->Q () s') (hf:X.fn x=true\/X.env.scope.names.lookup x=some .local:=by first | exact .inl rfl | exact .inr rfl | assumption):wpAny M A (storeName X.env x u) Q E s :=
 store_ok2 I hN hi hx r (fun s' I' _=>h s' I') hf
theorem Inv.call' {s':Shared} {ch:List Addr} (I:Inv X pins σ H s) (ho:s'.os=s.os) (u:Un (frs X.stack) ch H H' s.heap s'.heap) (hok:HOk X.prog X.w H' s'.heap) (hg:AllBare s'.gens)
  (hch:∀ b∈ch,(b∈X.ex\/X.s₀.heap.objs.size<=b)/\b≠X.env.locals/\(∀ x c,X.env.cells.lookup x=some c->c≠b)/\∀ p∈X.pn++pins,p.1≠b):Inv X pins σ H' s':=by
 obtain ⟨h',g',d',t',o'⟩:=s'
 have e:o'=s.os:=ho
 subst e
 exact I.call (g':=g') (t':=t') (d':=d') u hok hg hch
end
abbrev XK:=Value->Option Addr->Hp->Prop
abbrev St:=List (Option V)
abbrev VK:=V->Hp->Prop
abbrev TE:=St->Hp->VK->Prop
abbrev TT:=St->Hp->(Bool->Hp->Prop)->Prop
abbrev TA:=St->Hp->(List V->Hp->Prop)->Prop
structure Ends where
 nx:St->Hp->Prop
 rt:VK
 bk:St->Hp->Prop:=fun _ _=>False
 ct:St->Hp->Prop:=fun _ _=>False
abbrev TS:=Ends->St->Hp->Prop
def EP (X:Cx) (pins:List (Addr × Obj)) (σ:St) (Q:VK) (u:Value) (s':Shared):Prop:=∃ v H',Inv X pins σ H' s'/\RelV v u/\Q v H'
def TP (X:Cx) (pins:List (Addr × Obj)) (σ:St) (Q:Bool->Hp->Prop) (b:Bool) (s':Shared):Prop:=∃ H',Inv X pins σ H' s'/\Q b H'
def AP (X:Cx) (pins:List (Addr × Obj)) (σ:St) (Q:List V->Hp->Prop) (us:List Value) (s':Shared):Prop:=∃ vs H',Inv X pins σ H' s'/\Vals vs us/\Q vs H'
def SP (X:Cx) (pins:List (Addr × Obj)) (D:Ends) (f:Flow) (s':Shared):Prop :=
 match f with
 | .next=>∃ σ' H',Inv X pins σ' H' s'/\D.nx σ' H'
 | .brk=>∃ σ' H',Inv X pins σ' H' s'/\D.bk σ' H'
 | .cont=>∃ σ' H',Inv X pins σ' H' s'/\D.ct σ' H'
 | .ret u=>∃ v σ' H',Inv X pins σ' H' s'/\RelV v u/\D.rt v H'
def PE (X:Cx) (e:Expr) (t:TE):Prop :=
 ∀ (pins:List (Addr × Obj)) (s:Shared) (σ:St) (H:Hp) (Q:VK),Inv X pins σ H s->t σ H Q->wpAny (model X.prog X.w) X.A (eval e X.env) (EP X pins σ Q) X.xe s
def PT (X:Cx) (e:Expr) (t:TT):Prop :=
 ∀ (pins:List (Addr × Obj)) (s:Shared) (σ:St) (H:Hp) (Q:Bool->Hp->Prop),Inv X pins σ H s->t σ H Q->wpAny (model X.prog X.w) X.A (isTrue e X.env (eval e X.env)) (TP X pins σ Q) X.xe s
def PW (X:Cx) (e:Expr) (t:TT):Prop :=
 ∀ (whole:Sem Value) (pins:List (Addr × Obj)) (s:Shared) (σ:St) (H:Hp) (Q:Bool->Hp->Prop),Inv X pins σ H s->t σ H Q->wpAny (model X.prog X.w) X.A (isTrue e X.env whole) (TP X pins σ Q) X.xe s
theorem PW.pt {X:Cx} {e:Expr} {t:TT} (h:PW X e t):PT X e t:=h _
def PA (X:Cx) (es:List Expr) (t:TA):Prop :=
 ∀ (pos:Pos) (pins:List (Addr × Obj)) (s:Shared) (σ:St) (H:Hp) (Q:List V->Hp->Prop),Inv X pins σ H s->t σ H Q->wpAny (model X.prog X.w) X.A (spliced (backTo pos (starEach es X.env))) (AP X pins σ Q) X.xe s
def PS (X:Cx) (st:Stmt) (t:TS):Prop :=
 ∀ (pins:List (Addr × Obj)) (s:Shared) (σ:St) (H:Hp) (D:Ends),Inv X pins σ H s->t D σ H->wpAny (model X.prog X.w) X.A (exec st X.env) (SP X pins D) X.xe s
def PSs (X:Cx) (st:List Stmt) (t:TS):Prop :=
 ∀ (pins:List (Addr × Obj)) (s:Shared) (σ:St) (H:Hp) (D:Ends),Inv X pins σ H s->t D σ H->wpAny (model X.prog X.w) X.A (execs st X.env) (SP X pins D) X.xe s
theorem thn {α:Type} {t:Sem α} {Q Q':α->Shared->Prop} {M:Model} {A:Around} {E:Value->Shared->Prop} {s:Shared} (h:wpAny M A t Q E s) (hQ:∀ a s,Q a s->Q' a s):wpAny M A t Q' E s:=wpAny_mono h hQ fun _ _ x=>x
section
variable {X:Cx}
def tVar (i:Nat):TE:=fun σ H Q=>∃ v,σ[i]?=some (some v)/\Q v H
def tC (v:V):TE:=fun _ H Q=>Q v H
theorem pe_var {i:Nat} {x:Str} {pos:Pos} (hN:X.N[i]?=some x) (hv:Vis X.env.scope x) (hd:(x == ("__debug__" : Str))=false:=by decide) (hcd:(x == ("__classdict__" : Str))=false:=by decide):PE X (.Name x pos) (tVar i):=by
 intro pins s σ H Q I h
 obtain ⟨v,e,h⟩:=h
 obtain ⟨m,hn,hl⟩:=I.loc
 obtain ⟨u,r,l⟩:=hl i x v hN e hv
 have fin:EP X pins σ Q u s:=⟨v,H,I,r,h⟩
 rcases l with ⟨hk,hm⟩ | ⟨hk,c,hc,hcell⟩
 ·exact wpAny_Name (wpAny_loadName_local I.ok.kind hk hn hm fin) hd
 ·rcases hk with hk | hk
  ·exact wpAny_Name (wpAny_loadName_cell I.ok.kind hk hc hcell fin) hd
  ·exact wpAny_Name (wpAny_loadName_free I.ok.kind hk hc hcell fin hcd) hd
theorem pe_int {i j pos}:PE X (.Constant (.int i) j pos) (tC (.int i)):=fun _ _ _ H _ I h=>wpAny_Constant_int ⟨.int i,H,I.tok _,⟨_,rfl⟩,h⟩
theorem pe_bl {b j pos}:PE X (.Constant (.bool b) j pos) (tC (.bl b)):=fun _ _ _ H _ I h=>Constant_bool ⟨.bl b,H,I,rfl,h⟩
theorem pe_str {x j pos}:PE X (.Constant (.str x) j pos) (tC (.str x)):=fun _ _ _ H _ I h=>Calls.Constant_str ⟨.str x,H,I.tok _,⟨_,rfl⟩,h⟩
def Gl (X:Cx) (x:Str):Prop:=X.env.kindOf x=some .globalImplicit
theorem ld_glob {E:Value->Shared->Prop} {pins:List (Addr × Obj)} {s:Shared} {σ:St} {H:Hp} {x:Str} {u:Value} {pos:Pos} {Q:Value->Shared->Prop} (I:Inv X pins σ H s) (hg:Gl X x) (hm:X.mg x=some u) (h:Q u s)
  (hd:(x == ("__debug__" : Str))=false:=by decide):wpAny (model X.prog X.w) X.A (eval (.Name x pos) X.env) Q E s :=
 Calls.Name_function_global I.ok.kind hg (Calls.loadGlobal_global (by rw [I.ok.glob];exact I.mod.glob.keeps I.bk) hm h) hd
theorem ld_blt {E:Value->Shared->Prop} {pins:List (Addr × Obj)} {s:Shared} {σ:St} {H:Hp} {x:Str} {u:Value} {pos:Pos} {Q:Value->Shared->Prop} (I:Inv X pins σ H s) (hg:Gl X x) (hm:X.mg x=none) (hv:bootBuiltins x=some u) (h:Q u s)
  (hn:x≠"__name__" := by decide) (hd:(x == ("__debug__" : Str))=false:=by decide):wpAny (model X.prog X.w) X.A (eval (.Name x pos) X.env) Q E s:=by
 obtain ⟨mb,h1,h2⟩:=I.mod.blt
 exact Calls.Name_function_global I.ok.kind hg (Calls.loadGlobal_builtin (by rw [I.ok.glob];exact I.mod.glob.keeps I.bk) hm (by rw [I.ok.blt];exact h1.keeps I.bk) ((h2 x hn).trans hv) h) hd
theorem pe_glob {x:Str} {v:V} {u:Value} {pos:Pos} (hg:Gl X x) (hm:X.mg x=some u) (r:RelV v u) (hd:(x == ("__debug__" : Str))=false:=by decide):PE X (.Name x pos) (tC v) :=
 fun _ _ _ H _ I h=>ld_glob I hg hm ⟨v,H,I,r,h⟩ hd
theorem pe_bltn {x:Str} {v:V} {u:Value} {pos:Pos} (hg:Gl X x) (hm:X.mg x=none) (hv:bootBuiltins x=some u) (r:RelV v u) (hn:x≠"__name__" := by decide) (hd:(x == ("__debug__" : Str))=false:=by decide):PE X (.Name x pos) (tC v) :=
 fun _ _ _ H _ I h=>ld_blt I hg hm hv ⟨v,H,I,r,h⟩ hn hd
variable {a b:Expr} {ta tb:TE} {pos:Pos}
def PC (X:Cx) (op:CmpOp) (a b:Expr) (t:TE):Prop :=
 ∀ (pins:List (Addr × Obj)) (s:Shared) (σ:St) (H:Hp) (Q:VK),Inv X pins σ H s->t σ H Q ->
  wpAny (model X.prog X.w) X.A (eval a X.env) (fun v s₁=>wpAny (model X.prog X.w) X.A (eval b X.env) (fun u s₂=>wpAny (model X.prog X.w) X.A (compareOp op v u) (EP X pins σ Q) X.xe s₂) X.xe s₁) X.xe s
theorem nobehind (b:Expr) {op:CmpOp} (h:op≠.In) (h2:op≠.NotIn):behindInMarks op b=false:=by
 have e1:(op == CmpOp.In)=false:=by cases op<;>first | rfl | exact absurd rfl h
 have e2:(op == CmpOp.NotIn)=false:=by cases op<;>first | rfl | exact absurd rfl h2
 cases b<;>simp [behindInMarks,e1,e2]
def tIsN (ta:TE):TE:=fun σ H Q=>ta σ H fun x H1=>Q (.bl (decide (x=.non))) H1
theorem RelV.none_iff {x:V} {v:Value} (r:RelV x v):(v == Value.none)=decide (x=.non):=by
 cases x with
 | non=>cases r;rfl
 | bl _=>cases r;rfl
 | int _=>obtain ⟨t,rfl⟩:=r;rfl
 | str _=>obtain ⟨t,rfl⟩:=r;rfl
 | byt _=>obtain ⟨t,rfl⟩:=r;rfl
 | flt _=>obtain ⟨t,rfl⟩:=r;rfl
 | ref _=>cases r;rfl
 | ty _=>cases r;rfl
theorem pc_isN {j pos'} (ha:PE X a ta):PC X .Is a (.Constant .none j pos') (tIsN ta):=by
 intro pins s σ H Q I h
 refine thn (ha pins s σ H _ I h) fun v s1 ⟨x,H1,I1,r1,q1⟩=>?_
 exact Constant_none (is_none_gen ⟨.bl _,H1,I1,by rw [r1.none_iff];rfl,q1⟩)
def tB (t:TE):TT:=fun σ H Q=>t σ H fun x H1=>∃ c,x=.bl c/\Q c H1
theorem pt_cmp {op:CmpOp} {t:TE} (h:PC X op a b t) (h1:behindInMarks op b=false:=by first | exact nobehind _ (by decide) (by decide) | rfl):PT X (.Compare a [op] [b] pos) (tB t):=by
 intro pins s σ H Q I hw
 refine wpAny_isTrue_Compare1 (thn (h pins s σ H _ I hw) fun v s1 h1=>thn h1 fun u s2 h2=>thn h2 fun c s3 ⟨x,H1,I1,r1,q1⟩=>?_) h1
 obtain ⟨d,rfl,q⟩:=q1
 cases r1
 exact wpAny_truthy_bool ⟨H1,I1,q⟩
theorem pt_val {e:Expr} {t:TE} (h:PE X e t) (he:∀ whole,isTrue e X.env whole=(do let v <- whole;standAt e.pos;holding [v] (truthy v)):=by intro _;rfl):PT X e (tB t):=by
 intro pins s σ H Q I hw
 refine isTrue_plain (thn (h pins s σ H _ I hw) fun v s1 ⟨x,H1,I1,r1,q1⟩=>?_) (he _)
 obtain ⟨d,rfl,q⟩:=q1
 cases r1
 exact wpAny_truthy_bool ⟨H1,I1,q⟩
variable {tA tB':TT} {rest:List Expr}
def tAnd (t u:TT):TT:=fun σ H Q=>t σ H fun c H1=>if c=true then u σ H1 Q else Q false H1
def tOr (t u:TT):TT:=fun σ H Q=>t σ H fun c H1=>if c=true then Q true H1 else u σ H1 Q
def tNot (t:TT):TT:=fun σ H Q=>t σ H fun c H1=>Q (!c) H1
theorem pw_and1 (ha:PT X a tA):PW X (.BoolOp .And [a] pos) tA:=by
 intro wh pins s σ H Q I h
 refine isTrue_and (thn (ha pins s σ H Q I h) fun c s1 e=>?_)
 cases c with
 | true=>exact isTrue_and_nil e
 | false=>exact e
theorem pw_or1 (ha:PT X a tA):PW X (.BoolOp .Or [a] pos) tA:=by
 intro wh pins s σ H Q I h
 refine isTrue_or (thn (ha pins s σ H Q I h) fun c s1 e=>?_)
 cases c with
 | false=>exact isTrue_or_nil e
 | true=>exact e
theorem pw_and (ha:PT X a tA) (hb:PW X (.BoolOp .And (b::rest) pos) tB'):PW X (.BoolOp .And (a::b::rest) pos) (tAnd tA tB'):=by
 intro wh pins s σ H Q I h
 refine isTrue_and (thn (ha pins s σ H _ I h) fun c s1 ⟨H1,I1,q1⟩=>?_)
 cases c with
 | true=>exact hb wh pins s1 σ H1 Q I1 q1
 | false=>exact ⟨H1,I1,q1⟩
theorem pw_or (ha:PT X a tA) (hb:PW X (.BoolOp .Or (b::rest) pos) tB'):PW X (.BoolOp .Or (a::b::rest) pos) (tOr tA tB'):=by
 intro wh pins s σ H Q I h
 refine isTrue_or (thn (ha pins s σ H _ I h) fun c s1 ⟨H1,I1,q1⟩=>?_)
 cases c with
 | true=>exact ⟨H1,I1,q1⟩
 | false=>exact hb wh pins s1 σ H1 Q I1 q1
theorem pt_not (ha:PT X a tA):PT X (.UnaryOp .Not a pos) (tNot tA):=by
 intro pins s σ H Q I h
 exact isTrue_not (ha pins s σ H (fun c H1=>Q (!c) H1) I h)
def tAndV (ta tb:TE):TE:=fun σ H Q=>ta σ H fun x H1=>∃ c,x=.bl c/\if c=true then tb σ H1 Q else Q (.bl false) H1
theorem pe_one {op} {t:TE} (h:PE X a t):PE X (.BoolOp op [a] pos) t:=fun pins s σ H Q I hw=>BoolOp_one (h pins s σ H Q I hw)
theorem pe_and (ha:PE X a ta) (hb:PE X (.BoolOp .And (b::rest) pos) tb):PE X (.BoolOp .And (a::b::rest) pos) (tAndV ta tb):=by
 intro pins s σ H Q I h
 refine BoolOp_and (thn (ha pins s σ H _ I h) fun v s1 ⟨x,H1,I1,r1,q1⟩=>?_)
 obtain ⟨c,rfl,q1⟩:=q1
 cases r1
 refine wpAny_truthy_bool ?_
 cases c with
 | true=>exact hb pins s1 σ H1 Q I1 q1
 | false=>exact ⟨.bl false,H1,I1,rfl,q1⟩
def tIf (t:TT) (ta tb:TE):TE:=fun σ H Q=>t σ H fun c H1=>if c=true then ta σ H1 Q else tb σ H1 Q
theorem pe_ifExp {c:Expr} (hc:PT X c tA) (ha:PE X a ta) (hb:PE X b tb):PE X (.IfExp c a b pos) (tIf tA ta tb):=by
 intro pins s σ H Q I h
 refine wpAny_IfExp (thn (hc pins s σ H _ I h) fun d s1 ⟨H1,I1,q1⟩=>?_)
 cases d with
 | true=>exact ha pins s1 σ H1 Q I1 q1
 | false=>exact hb pins s1 σ H1 Q I1 q1
end
def SqL (K:PySem.W.Frag) (H:Hp) (a:Addr) (xs:List V):Prop :=
 Rd H a (.lst xs) \/
  ∃ (o:Obj) (its:Array Value) (n:Nat),K.lookup a=some o/\o.cls=.type "list" /\ o.dict=none/\o.data=.seq its n/\its.size<=sizeLine/\Vals xs its.toList
def SqT (K:PySem.W.Frag) (H:Hp) (a:Addr) (xs:List V):Prop :=
 Rd H a (.tup xs) \/
  ∃ (o:Obj) (its:Array Value) (n:Nat),K.lookup a=some o/\o.cls=.type "tuple" /\ o.data=.seq its n/\its.size<=sizeLine/\Vals xs its.toList
def absV:Value->Option V
 | .none=>some .non
 | .bool b=>some (.bl b)
 | .int i _=>some (.int i)
 | .str x _=>some (.str x)
 | .bytes b _=>some (.byt b)
 | .float b _=>some (.flt b)
 | .ref a=>some (.ref a)
 | .type n=>some (.ty n)
 | _=>none
theorem RelV.abs {x:V} {u:Value} (r:RelV x u):absV u=some x:=by
 cases x with
 | non=>cases r;rfl
 | bl _=>cases r;rfl
 | int _=>obtain ⟨t,rfl⟩:=r;rfl
 | str _=>obtain ⟨t,rfl⟩:=r;rfl
 | byt _=>obtain ⟨t,rfl⟩:=r;rfl
 | flt _=>obtain ⟨t,rfl⟩:=r;rfl
 | ref _=>cases r;rfl
 | ty _=>cases r;rfl
theorem RelV.inj {x y:V} {u:Value} (r:RelV x u) (q:RelV y u):x=y:=Option.some.inj (r.abs.symm.trans q.abs)
theorem Vals.inj:∀ {xs ys:List V} {us:List Value},Vals xs us->Vals ys us->xs=ys
 | _,_,_,.nil,.nil=>rfl
 | _,_,_,.cons r t,.cons r' t'=>by rw [r.inj r',Vals.inj t t']
section
variable {X:Cx} {pins:List (Addr × Obj)} {σ:St} {H:Hp} {s:Shared} {a:Addr} {xs ys:List V}
theorem SqL.of {K:PySem.W.Frag} (h:H a=some (.lst xs)):SqL K H a xs:=.inl (.inl h)
theorem SqT.of {K:PySem.W.Frag} (h:H a=some (.tup xs)):SqT K H a xs:=.inl (.inl h)
theorem Inv.list (I:Inv X pins σ H s) (h:SqL X.K H a xs):∃ its:List Value,Vals xs its/\PlainL s.heap a its.toArray/\xs.length<=sizeLine:=by
 rcases h with h | ⟨o,its,n,hk,hc,hd,hs,hz,r⟩
 ·obtain ⟨z,its,n,r,e⟩:=h.ok I.hok
  exact ⟨its,r,⟨_,n,e,rfl,rfl,rfl⟩,z⟩
 ·refine ⟨its.toList,r,⟨o,n,I.kIn a o hk,hc,hd,by simpa using hs⟩,?_⟩
  have e:=r.length
  simp only [Array.length_toList] at e
  omega
theorem Inv.tuple (I:Inv X pins σ H s) (h:SqT X.K H a xs):∃ its:List Value,Vals xs its/\IsTup s.heap a its.toArray/\xs.length<=sizeLine:=by
 rcases h with h | ⟨o,its,n,hk,hc,hs,hz,r⟩
 ·obtain ⟨z,its,r,p⟩:=h.ok I.hok
  exact ⟨its,r,p,z⟩
 ·refine ⟨its.toList,r,⟨o,I.kIn a o hk,hc,n,by simpa using hs⟩,?_⟩
  have e:=r.length
  simp only [Array.length_toList] at e
  omega
theorem Inv.list_inj (I:Inv X pins σ H s) (h:SqL X.K H a xs) (h':SqL X.K H a ys):xs=ys:=by
 obtain ⟨its,r,⟨o,n,e,_,_,d⟩,_⟩:=I.list h
 obtain ⟨its',r',⟨o',n',e',_,_,d'⟩,_⟩:=I.list h'
 rw [e] at e';cases e'
 rw [d] at d'
 injection d' with d1 _
 have:its=its':=by simpa using congrArg Array.toList d1
 subst this
 exact r.inj r'
theorem Inv.tuple_inj (I:Inv X pins σ H s) (h:SqT X.K H a xs) (h':SqT X.K H a ys):xs=ys:=by
 obtain ⟨its,r,⟨o,e,_,n,d⟩,_⟩:=I.tuple h
 obtain ⟨its',r',⟨o',e',_,n',d'⟩,_⟩:=I.tuple h'
 rw [e] at e';cases e'
 rw [d] at d'
 injection d' with d1 _
 have:its=its':=by simpa using congrArg Array.toList d1
 subst this
 exact r.inj r'
end
abbrev Cx.wish (X:Cx) (E:Value->Shared->Prop):Cx:={ X with xe:=E }
abbrev Cx.nox (X:Cx):Cx:=X.wish fun _ _=>False
theorem Cx.Ok.wish {X:Cx} (ok:X.Ok) (E:Value->Shared->Prop):(X.wish E).Ok :=
 ⟨ok.mod,ok.kind,ok.glob,ok.blt,ok.above,ok.inj,ok.has,ok.cab,ok.hd,ok.frames,ok.stk,ok.exf,ok.bs,ok.bsz,ok.noex,ok.exfs,ok.funs,ok.frf⟩
theorem Cx.Ok.unwish {X:Cx} {E:Value->Shared->Prop} (ok:(X.wish E).Ok):X.Ok :=
 ⟨ok.mod,ok.kind,ok.glob,ok.blt,ok.above,ok.inj,ok.has,ok.cab,ok.hd,ok.frames,ok.stk,ok.exf,ok.bs,ok.bsz,ok.noex,ok.exfs,ok.funs,ok.frf⟩
section
variable {X:Cx} {pins:List (Addr × Obj)} {σ:St} {H:Hp} {s:Shared} {E:Value->Shared->Prop}
theorem Inv.wish (I:Inv X pins σ H s) (E:Value->Shared->Prop):Inv (X.wish E) pins σ H s:=⟨I.ok.wish E,I.os,I.bare,I.base,I.loc,I.cell,I.free,I.freeC,I.pin,I.hok,I.len⟩
theorem Inv.unwish (I:Inv (X.wish E) pins σ H s):Inv X pins σ H s:=⟨I.ok.unwish,I.os,I.bare,I.base,I.loc,I.cell,I.free,I.freeC,I.pin,I.hok,I.len⟩
theorem SP.unwish {D:Ends} {f:Flow} {s':Shared} (h:SP (X.wish E) pins D f s'):SP X pins D f s':=by
 cases f with
 | next=>obtain ⟨σ',H',I,q⟩:=h;exact ⟨σ',H',I.unwish,q⟩
 | brk=>obtain ⟨σ',H',I,q⟩:=h;exact ⟨σ',H',I.unwish,q⟩
 | cont=>obtain ⟨σ',H',I,q⟩:=h;exact ⟨σ',H',I.unwish,q⟩
 | ret u=>obtain ⟨v,σ',H',I,r,q⟩:=h;exact ⟨v,σ',H',I.unwish,r,q⟩
theorem PSs.nox {st:List Stmt} {t:TS} (h:PSs X.nox st t):PSs X st t:=fun pins s σ H D I hw =>
 wpAny_mono (h pins s σ H D (I.wish _) hw) (fun _ _ q=>q.unwish) fun _ _ z=>False.elim z
end
section
variable {X:Cx} {st:Stmt} {rest:List Stmt} {t u:TS} {e:Expr} {te:TE} {pos:Pos}
def tNext:TS:=fun D σ H=>D.nx σ H
def tSeq (t u:TS):TS:=fun D σ H=>t { D with nx:=u D } σ H
theorem pss_nil:PSs X [] tNext:=fun _ _ σ H _ I h=>wpAny_execs_nil ⟨σ,H,I,h⟩
theorem pss_cons (h1:PS X st t) (h2:PSs X rest u):PSs X (st::rest) (tSeq t u):=by
 intro pins s σ H D I h
 refine wpAny_execs_cons (thn (h1 pins s σ H { D with nx:=u D } I h) fun f s1 q=>?_)
 cases f with
 | next =>
  obtain ⟨σ',H',I',q⟩:=q
  exact h2 pins s1 σ' H' D I' q
 | ret v=>exact q
 | brk=>exact q
 | cont=>exact q
theorem pss_one (h1:PS X st t):PSs X [st] t:=by
 intro pins s σ H D I h
 refine wpAny_execs_cons (thn (h1 pins s σ H D I h) fun f s1 q=>?_)
 cases f with
 | next=>exact wpAny_execs_nil q
 | ret v=>exact q
 | brk=>exact q
 | cont=>exact q
theorem Inv.quiet {pins:List (Addr × Obj)} {σ:St} {H:Hp} {s:Shared} (I:Inv X pins σ H s):interactive X.env=false:=by simp [interactive,I.ok.kind]
def tDrop (te:TE):TS:=fun D σ H=>te σ H fun _ H1=>D.nx σ H1
theorem ps_expr (he:PE X e te) (hs:swapsWith e none pos.line X.env=pure false:=by rfl):PS X (.Expr e pos) (tDrop te):=by
 intro pins s σ H D I h
 exact wpAny_Expr_any (thn (he pins s σ H _ I h) fun v s1 ⟨x,H1,I1,r1,q1⟩=>⟨σ,H1,I1,q1⟩) I.quiet hs
def tRet (te:TE):TS:=fun D σ H=>te σ H D.rt
theorem ps_ret (he:PE X e te):PS X (.Return (some e) pos) (tRet te):=by
 intro pins s σ H D I h
 exact wpAny_Return_some (thn (he pins s σ H _ I h) fun v s1 ⟨x,H1,I1,r1,q1⟩=>⟨x,σ,H1,I1,r1,q1⟩)
def tIfS (c:TT) (t u:TS):TS:=fun D σ H=>c σ H fun b H1=>if b=true then t D σ H1 else u D σ H1
theorem ps_if {c:Expr} {a b:List Stmt} {tc:TT} (hc:PT X c tc) (ha:PSs X a t) (hb:PSs X b u):PS X (.If c a b pos) (tIfS tc t u):=by
 intro pins s σ H D I h
 refine wpAny_If (thn (hc pins s σ H _ I h) fun d s1 ⟨H1,I1,q1⟩=>?_)
 cases d with
 | true=>exact ha pins s1 σ H1 D I1 q1
 | false=>exact hb pins s1 σ H1 D I1 q1
def tNever:TS:=fun _ _ _=>False
theorem ps_never:PS X st tNever:=fun _ _ _ _ _ _ h=>h.elim
end
abbrev TG:=V->St->Hp->(St->Hp->Prop)->Prop
abbrev TGs:=List V->St->Hp->(St->Hp->Prop)->Prop
def PG (X:Cx) (target:Expr) (t:TG):Prop :=
 ∀ (pins:List (Addr × Obj)) (s:Shared) (σ:St) (H:Hp) (v:V) (u:Value) (Q:St->Hp->Prop),Inv X pins σ H s->RelV v u->t v σ H Q ->
  wpAny (model X.prog X.w) X.A (assign target X.env u) (fun _ s'=>∃ σ' H',Inv X pins σ' H' s'/\Q σ' H') X.xe s
def PGs (X:Cx) (ts:List Expr) (t:TGs):Prop :=
 ∀ (pins:List (Addr × Obj)) (s:Shared) (σ:St) (H:Hp) (vs:List V) (us:List Value) (Q:St->Hp->Prop),Inv X pins σ H s->Vals vs us->t vs σ H Q ->
  wpAny (model X.prog X.w) X.A (assignInOrder ((assignEach ts X.env).map (·.2)) us) (fun _ s'=>∃ σ' H',Inv X pins σ' H' s'/\Q σ' H') X.xe s
abbrev TSet:=V->V->V->Hp->(Hp->Prop)->Prop
def PSet (X:Cx) (t:TSet):Prop :=
 ∀ (pins:List (Addr × Obj)) (s:Shared) (σ:St) (H:Hp) (o i v:V) (ov iv u:Value) (Q:Hp->Prop),Inv X pins σ H s->RelV o ov->RelV i iv->RelV v u->t o i v H Q ->
  wpAny (model X.prog X.w) X.A (setItem ov iv u) (fun _ s'=>∃ H',Inv X pins σ H' s'/\Q H') X.xe s
section
variable {X:Cx} {pos:Pos}
def gName (i:Nat):TG:=fun v σ H Q=>Q (σ.set i (some v)) H
theorem pg_name {i:Nat} {x:Str} (hN:X.N.Nodup) (hi:X.N[i]?=some x) (hx:Loc X.env.scope x) (hf:X.fn x=true\/X.env.scope.names.lookup x=some .local:=by first | exact .inl rfl | exact .inr rfl | assumption):PG X (.Name x pos) (gName i):=by
 intro pins s σ H v u Q I r h
 exact wpAny_assign_Name (store_ok I hN hi hx r (fun s' I'=>⟨_,H,I',h⟩) hf)
def gNil:TGs:=fun vs σ H Q=>vs=[]/\Q σ H
def gCons (t:TG) (u:TGs):TGs:=fun vs σ H Q=>∃ v r,vs=v::r/\t v σ H fun σ' H'=>u r σ' H' Q
theorem pgs_nil:PGs X [] gNil:=by
 intro pins s σ H vs us Q I r h
 obtain ⟨e,h⟩:=h
 subst e
 cases r
 exact assignInOrder_nil ⟨σ,H,I,h⟩
theorem pgs_cons {e:Expr} {es:List Expr} {t:TG} {u:TGs} (h1:PG X e t) (h2:PGs X es u)
  (hs:(assignEach (e::es) X.env).map (·.2)=assign e X.env::(assignEach es X.env).map (·.2):=by rfl):PGs X (e::es) (gCons t u):=by
 intro pins s σ H vs us Q I r h
 obtain ⟨v,vr,e1,h⟩:=h
 subst e1
 cases r with
 | cons r rr =>
  rw [hs]
  refine assignInOrder_cons (thn (h1 pins s σ H _ _ _ I r h) fun _ s1 ⟨σ1,H1,I1,q1⟩=>?_)
  exact h2 pins s1 σ1 H1 _ _ Q I1 rr q1
def gTup (K:PySem.W.Frag) (n:Nat) (t:TGs):TG:=fun v σ H Q=>∃ a xs,v=.ref a/\SqT K H a xs/\xs.length=n/\t xs σ H Q
theorem pg_tup {es:List Expr} {k:Nat} {t:TGs} {n:Nat} (hc:X.calm=true) (h:PGs X es t)
  (hn:(assignEach es X.env).length=n:=by rfl) (hst:(assignEach es X.env).findIdx? (·.1)=none:=by rfl):PG X (.Tuple es k pos) (gTup X.K n t):=by
 intro pins s σ H v u Q I r hw
 obtain ⟨a,xs,e1,hq,hl,hw⟩:=hw
 subst e1
 cases r
 obtain ⟨its,rv,ht,hz⟩:=I.tuple hq
 refine assign_Tuple_tuple (I.ok.hd hc) ht (by simp [hn,<- hl,rv.length]) hst fun h' hx=>?_
 have I1:Inv X pins σ H { s with heap:=h' }:=I.kept (t':=s.toks) fun b o e=>hx b o (Nat.ne_of_lt (Heap.lt_size e)) e
 exact h pins _ σ H xs _ Q I1 (by simpa using rv) hw
def gSub (to ti:TE) (t:TSet):TG:=fun v σ H Q=>to σ H fun o H1=>ti σ H1 fun i H2=>t o i v H2 fun H3=>Q σ H3
theorem pg_sub {o i:Expr} {to ti:TE} {t:TSet} (ho:PE X o to) (hi:PE X i ti) (hs:PSet X t)
  (ha:∀ v,assign (.Subscript o i pos) X.env v=(do
   let ov <- holding [v] (eval o X.env)
   let iv <- holding [v,ov] (eval i X.env)
   standAt pos
   holding [v,ov,iv] (setItem ov iv v)
   release [v,ov,iv] []):=by intro _;rfl):PG X (.Subscript o i pos) (gSub to ti t):=by
 intro pins s σ H v u Q I r h
 rw [ha]
 refine wpAny_bind (wpAny_holding (thn (ho pins s σ H _ I h) fun ov s1 ⟨x,H1,I1,r1,q1⟩=>?_))
 refine wpAny_bind (wpAny_holding (thn (hi pins s1 σ H1 _ I1 q1) fun iv s2 ⟨y,H2,I2,r2,q2⟩=>?_))
 refine wpAny_bind (wpAny_standAt (wpAny_bind (wpAny_holding (thn (hs pins s2 σ H2 x y v ov iv u _ I2 r1 r2 r q2) fun _ s3 ⟨H3,I3,q3⟩=>?_))))
 exact wpAny_release ⟨σ,H3,I3,q3⟩
def tAsg (te:TE) (g:TG):TS:=fun D σ H=>te σ H fun x H1=>g x σ H1 D.nx
theorem ps_asg {tg e:Expr} {te:TE} {g:TG} (he:PE X e te) (hg:PG X tg g) (hs:swapsWithSole [tg] e pos.line X.env=pure false:=by rfl) (hw:swappedStores [tg] e X.env=pure none:=by rfl)
  (h1:(assignEach [tg] X.env).map (·.2)=[assign tg X.env]:=by rfl):PS X (.Assign [tg] e pos) (tAsg te g):=by
 intro pins s σ H D I h
 refine wpAny_Assign_stores (thn (he pins s σ H _ I h) fun v s1 ⟨x,H1,I1,r1,q1⟩=>?_) hs hw
 rw [h1]
 exact thn (hg pins s1 σ H1 x v _ I1 r1 q1) fun _ s2 q=>q
theorem ps_set {i:Nat} {x:Str} {e:Expr} {te:TE} {pos':Pos} (hN:X.N.Nodup) (hi:X.N[i]?=some x) (hx:Loc X.env.scope x) (he:PE X e te) (hs:swapsWith e (some (.Name x pos')) pos.line X.env=pure false:=by rfl) (hf:X.fn x=true\/X.env.scope.names.lookup x=some .local:=by first | exact .inl rfl | exact .inr rfl | assumption) :
  PS X (.Assign [.Name x pos'] e pos) (tAsg te (gName i)):=by
 intro pins s σ H D I h
 refine wpAny_Assign_Name (thn (he pins s σ H _ I h) fun v s1 ⟨y,H1,I1,r1,q1⟩=>?_) hs
 exact store_ok I1 hN hi hx r1 (fun s2 I2=>⟨_,H1,I2,q1⟩) hf
end
structure It where
 go:Nat->Hp->Prop
 yld:Nat->Hp->V->Hp->Prop
 stop:Nat->Hp->Prop
def FpOk (X:Cx) (pins:List (Addr × Obj)) (H:Hp) (b:Addr):Prop :=
 H b=none/\b≠X.env.locals/\b ∉ X.fs/\(b∈X.ex\/X.s₀.heap.objs.size<=b)/\(∀ x c,X.env.cells.lookup x=some c->c≠b)/\∀ p∈X.pn++pins,p.1≠b
theorem Inv.fpOk {X:Cx} {pins:List (Addr × Obj)} {σ:St} {H H':Hp} {s:Shared} {b:Addr} (I:Inv X pins σ H s) (hb:s.heap.objs.size<=b) (hn:H' b=none):FpOk X pins H' b:=by
 refine ⟨hn,Nat.ne_of_gt (Nat.lt_of_lt_of_le I.lt hb),I.nofs hb,.inr (Nat.le_trans I.sz hb),fun x c e z=>?_,fun p hp z=>?_⟩
 ·obtain ⟨v,q⟩:=I.cell x c e
  exact absurd (Nat.lt_of_lt_of_le q.lt (by rw [z];exact hb)) (Nat.lt_irrefl _)
 ·exact absurd (Nat.lt_of_lt_of_le (Heap.lt_size (I.pin p hp).1) (by rw [z];exact hb)) (Nat.lt_irrefl _)
structure Turn (P:Program) (w:World) (K:PySem.W.Frag) (tg:Expr) (J:It) (fp:List Addr) (it:Addr) (tn:Nat->Heap->Prop):Prop where
 mem:it∈fp
 obj:∀ i h,tn i h->∀ b∈fp,∃ o,h.get? b=some o/\∀ v,o.data≠.cell v
 keep:∀ i h h',tn i h->(∀ b∈fp,∀ o,h.get? b=some o->h'.get? b=some o)->tn i h'
 item:∀ (X:Cx),X.prog=P->X.w=w->X.K=K->X.calm=true->∀ (i:Nat) (pins:List (Addr × Obj)) (s:Shared) (σ:St) (H:Hp) (E:Value->Shared->Prop),Inv X pins σ H s->(∀ b∈fp,FpOk X pins H b)->tn i s.heap->J.go i H ->
  wpAny (model P w) X.A (pyNext (.ref it)) (fun r s1=>∃ u,r=some u /\
   wpAny (model P w) X.A (letOwnedTupleGo tg (.ref it) u) (fun _ s2=>∃ x H',Inv X pins σ H' s2/\RelV x u/\J.yld i H x H'/\tn (i+1) s2.heap/\∀ b∈fp,H' b=none) E s1) E s
 done:∀ (X:Cx),X.prog=P->X.w=w->X.K=K->X.calm=true->∀ (i:Nat) (pins:List (Addr × Obj)) (s:Shared) (σ:St) (H:Hp) (E:Value->Shared->Prop),Inv X pins σ H s->(∀ b∈fp,FpOk X pins H b)->tn i s.heap->J.stop i H ->
  wpAny (model P w) X.A (pyNext (.ref it)) (fun r s1=>r=none/\Inv X pins σ H s1) E s
 self:∀ (A:Around) (i:Nat) (s:Shared) (Q:Value->Shared->Prop) (E:Value->Shared->Prop),tn i s.heap->Q (.ref it) s->wpAny (model P w) A (pyIter (.ref it)) Q E s
abbrev TI:=St->Hp->(It->Hp->Prop)->Prop
def PIE (X:Cx) (pins:List (Addr × Obj)) (σ:St) (tg:Expr) (R:It->Hp->Prop) (itv:Value) (s2:Shared):Prop :=
 ∃ (it:Addr) (fp:List Addr) (tn:Nat->Heap->Prop) (J:It) (H':Hp),itv=.ref it/\Inv X pins σ H' s2/\Turn X.prog X.w X.K tg J fp it tn/\tn 0 s2.heap/\(∀ b∈fp,FpOk X pins H' b)/\R J H'
def PI (X:Cx) (tg iter:Expr) (wi:TI):Prop :=
 ∀ (pins:List (Addr × Obj)) (s:Shared) (σ:St) (H:Hp) (R:It->Hp->Prop),Inv X pins σ H s->wi σ H R ->
  wpAny (model X.prog X.w) X.A (eval iter X.env) (fun v s1=>wpAny (model X.prog X.w) X.A (pyIter v) (PIE X pins σ tg R) X.xe s1) X.xe s
theorem go_of {M : Model} {A : Around} {E : Value → Shared → Prop} {s : Shared} {tg : Expr} {it : Addr} {u : Value} {o : Obj} {n : String} {vs : Array Value} {Q : Unit → Shared → Prop} (ho : s.heap.get? it = some o) (hc : o.cls = .type n) (hd : o.data = .fields vs)
    (hn : ["enumerate", "zip", "dict_itemiterator", "dict_reverseitemiterator", "odict_iterator", "itertools.zip_longest", "itertools.pairwise"].contains n = false) (hQ : Q () s) : wpAny M A (letOwnedTupleGo tg (.ref it) u) Q E s := by
  unfold letOwnedTupleGo
  cases tg <;> first
    | exact wpAny_pure hQ
    | (cases u <;> first
        | exact wpAny_pure hQ
        | (refine wpAny_bind (wpAny_load ho ?_)
           rw [hc, hd]
           show wpAny M A (if (["enumerate", "zip", "dict_itemiterator", "dict_reverseitemiterator", "odict_iterator", "itertools.zip_longest", "itertools.pairwise"].contains n && vs[0]? == some (rawInt _)) = true then _ else _) Q E s
           rw [if_neg (by intro h; rw [hn, Bool.false_and] at h; cases h)]
           exact wpAny_pure hQ))
def Itl (K:PySem.W.Frag) (a:Addr):It :=
 ⟨fun i H=>∃ xs x,SqL K H a xs/\xs[i]?=some x,fun i H x H'=>H'=H/\∀ xs,SqL K H a xs->xs[i]?=some x,fun i H=>∃ xs,SqL K H a xs/\xs.length<=i⟩
def Itr (lo:Int) (n:Nat):It:=⟨fun i _=>i < n,fun i H x H'=>H'=H/\x=.int (lo+i),fun i _=>n<=i⟩
theorem turn_list {P:Program} {w:World} {K:PySem.W.Frag} {tg:Expr} (a it:Addr):Turn P w K tg (Itl K a) [it] it (fun i h=>h.IsListIter it a i) where
 mem:=by simp
 obj:=fun i h st b hb=>by
  have e:b=it:=by simpa using hb
  subst e
  obtain ⟨o,e,c,d⟩:=st
  exact ⟨o,e,fun v z=>by rw [d] at z;cases z⟩
 keep:=fun i h h' st k=>st.at fun o e=>k it (by simp) o e
 item:=by
  intro X hP hw hK hc i pins s σ H E I hf st hg
  subst hP hw hK
  obtain ⟨xs,x,hq,hx⟩:=hg
  obtain ⟨its,rv,p,hz⟩:=I.list hq
  obtain ⟨u,hu,ru⟩:=rv.get hx
  obtain ⟨f0,f1,f2,f3,f4,f5⟩:=hf it (by simp)
  refine wpAny_pyNext_list_item st p.isList (x:=u) (by simpa using hu) fun h' st' sb=>?_
  have I1:Inv X pins σ H { s with heap:=h' }:=I.turned (t':=s.toks) (fun b o hb e=>(sb.2 b hb).trans e) f0 f1 f3 f4 f5
  obtain ⟨o,e,c,d⟩:=id st'
  exact ⟨u,rfl,go_of (s:={ s with heap:=h' }) e c d (by decide) ⟨x,H,I1,ru,⟨rfl,fun ys hy=>by rw [I.list_inj hy hq];exact hx⟩,st',fun b hb=>(hf b hb).1⟩⟩
 done:=by
  intro X hP hw hK hc i pins s σ H E I hf st hg
  subst hP hw hK
  obtain ⟨xs,hq,hx⟩:=hg
  obtain ⟨its,rv,p,hz⟩:=I.list hq
  obtain ⟨f0,f1,f2,f3,f4,f5⟩:=hf it (by simp)
  have hl:=rv.length
  exact wpAny_pyNext_list_end (I.ok.hd hc) st p.isList (by simp;omega) fun h' eb=>⟨rfl,I.turned (t':=s.toks) (fun b o hb e=>eb b o hb e) f0 f1 f3 f4 f5⟩
 self:=fun _ _ _ _ _ st h=>wpAny_pyIter_listiter st h
theorem turn_range {P:Program} {w:World} {K:PySem.W.Frag} {tg:Expr} (it:Addr) (lo:Int) (n:Nat):Turn P w K tg (Itr lo n) [it] it (fun i h=>IsRangeIter h it (lo+(i:Nat) * 1) ((n:Int) - (i:Nat)) 1) where
 mem:=by simp
 obj:=fun i h st b hb=>by
  have e:b=it:=by simpa using hb
  subst e
  exact ⟨_,st,fun v z=>by
   have z':Data.fields _=Data.cell v:=z
   cases z'⟩
 keep:=fun i h h' st k=>k it (by simp) _ st
 item:=by
  intro X hP hw hK hc i pins s σ H E I hf st hg
  subst hP hw hK
  obtain ⟨f0,f1,f2,f3,f4,f5⟩:=hf it (by simp)
  have W:=Walks.range (prog:=X.prog) (w:=X.w) (I.ok.hd hc) it lo 1 n
  refine W.item i s _ _ hg st fun v h' tk hv st' kk=>?_
  obtain ⟨t,rfl⟩:=hv
  have I1:Inv X pins σ H { s with heap:=h',toks:=tk }:=I.turned (fun b o hb e=>kk b o (by simpa using hb) e) f0 f1 f3 f4 f5
  refine ⟨_,rfl,go_of (s:={ s with heap:=h',toks:=tk }) (n:="range_iterator") st' rfl rfl (by decide) ⟨.int (lo+i),H,I1,⟨t,?_⟩,⟨rfl,rfl⟩,st',fun b hb=>(hf b hb).1⟩⟩
  rw [Int.mul_one]
 done:=by
  intro X hP hw hK hc i pins s σ H E I hf st hg
  subst hP hw hK
  obtain ⟨f0,f1,f2,f3,f4,f5⟩:=hf it (by simp)
  exact wpAny_pyNext_range_end (I.ok.hd hc) st (by have:n<=i:=hg;omega) fun h' eb=>⟨rfl,I.turned (t':=s.toks) (fun b o hb e=>eb b o hb e) f0 f1 f3 f4 f5⟩
 self:=fun _ _ _ _ _ st h=>wpAny_pyIter_rangeiter st h
section
variable {X:Cx} {tg:Expr}
def iList (K:PySem.W.Frag) (tl:TE):TI:=fun σ H R=>tl σ H fun x H1=>∃ a,x=.ref a/\(∃ xs,SqL K H1 a xs)/\R (Itl K a) H1
theorem pi_list {l:Expr} {tl:TE} (hl:PE X l tl):PI X tg l (iList X.K tl):=by
 intro pins s σ H R I h
 refine thn (hl pins s σ H _ I h) fun v s1 ⟨x,H1,I1,r1,q1⟩=>?_
 obtain ⟨a,e,⟨xs,hq⟩,q⟩:=q1
 subst e
 cases r1
 obtain ⟨its,rv,p,hz⟩:=I1.list hq
 refine wpAny_pyIter_list p.isList ?_
 refine ⟨s1.heap.objs.size,[s1.heap.objs.size],_,_,H1,rfl,I1.kept (t':=s1.toks) fun b o e=>Heap.get?_push_of_some _ e,turn_list a _,⟨_,Heap.get?_push_size _ rfl,rfl,rfl⟩,fun b hb=>?_,q⟩
 have e:b=s1.heap.objs.size:=by simpa using hb
 subst e
 exact I1.fpOk (Nat.le_refl _) (I1.hok.fresh (Nat.le_refl _))
theorem range_it {pins:List (Addr × Obj)} {σ:St} {H:Hp} {s:Shared} {R:It->Hp->Prop} {E:Value->Shared->Prop} {lo hi:Int} {t u v:Tok} {tk:Nat} (I:Inv X pins σ H s) (h1:-(2 ^ 62)<=lo) (h2:lo < 2 ^ 62) (h3:-(2 ^ 62)<=hi) (h4:hi < 2 ^ 62)
  (q:R (Itr lo (hi - lo).toNat) H):wpAny (model X.prog X.w) X.A (pyIter (.ref s.heap.objs.size)) (PIE X pins σ tg R) E { s with heap:=s.heap.push { cls:=.type "range",data:=.fields #[.int lo t,.int hi u,.int 1 v] },toks:=tk }:=by
 refine wpAny_pyIter_range (IsRange.new ..) (small_one h1 h2 h3 h4) ?_
 have I1:Inv X pins σ H { s with heap:=s.heap.push { cls:=.type "range",data:=.fields #[.int lo t,.int hi u,.int 1 v] },toks:=tk }:=I.kept fun b o e=>Heap.get?_push_of_some _ e
 refine ⟨(s.heap.push { cls:=.type "range",data:=.fields #[.int lo t,.int hi u,.int 1 v] }).objs.size,[(s.heap.push { cls:=.type "range",data:=.fields #[.int lo t,.int hi u,.int 1 v] }).objs.size],_,_,H,rfl,
  I1.kept (t':=tk) fun b o e=>Heap.get?_push_of_some _ e,turn_range _ lo (hi - lo).toNat,?_,fun b hb=>?_,q⟩
 ·have e1:lo+((0:Nat):Int) * 1=lo:=by simp
  have e2:(((hi - lo).toNat:Nat):Int) - ((0:Nat):Int)=Builtin.Range.rangeSize lo hi 1:=by rw [rangeSize_one];split<;>omega
  show IsRangeIter _ _ (lo+((0:Nat):Int) * 1) ((((hi - lo).toNat:Nat):Int) - ((0:Nat):Int)) 1
  rw [e1,e2]
  exact Heap.get?_push_size _ rfl
 ·have e:b=(s.heap.push { cls:=.type "range",data:=.fields #[.int lo t,.int hi u,.int 1 v] }).objs.size:=by simpa using hb
  subst e
  exact I1.fpOk (Nat.le_refl _) (I1.hok.fresh (Nat.le_refl _))
def iRng1 (ta:TA):TI:=fun σ H R=>ta σ H fun vs H1=>∃ j:Int,vs=[.int j]/\-(2 ^ 62)<=j/\j < 2 ^ 62/\R (Itr 0 j.toNat) H1
theorem pi_range1 {a:Expr} {ta:TA} {p pos:Pos} (hg:Gl X "range") (hm:X.mg "range" = none) (ha:PA X [a] ta) (hs:starEach [a] X.env=[(false,eval a X.env)]:=by rfl):PI X tg (.Call (.Name "range" p) [a] [] pos) (iRng1 ta):=by
 intro pins s σ H R I h
 refine Call_ (ld_blt I hg hm boot_range (PyProof.Rows.callWith_type1 (thn (ha pos pins s σ H _ I h) fun us s1 ⟨vs,H1,I1,r1,q1⟩=>?_) hs rfl))
 obtain ⟨j,e,q1,q2,q⟩:=q1
 subst e
 cases r1 with
 | cons r rr =>
  cases rr
  obtain ⟨t,rfl⟩:=r
  exact call_range_1 (range_it I1 (by omega) (by omega) q1 q2 (by simpa using q))
def tFor (wi:TI) (g:TG) (tb:TS):TS:=fun D σ H=>wi σ H fun J H1=>∃ W:Nat->Nat->St->Hp->Prop,(∃ m,W 0 m σ H1)/\∀ i m σ H,W i m σ H ->
 (J.stop i H/\D.nx σ H)\/(J.go i H/\∃ N:St->Hp->Prop,(∀ σ' H',N σ' H'->∃ m',m' < m/\W (i+1) m' σ' H')/\∀ x H',J.yld i H x H'->g x σ H' fun σ2 H2=>tb { D with nx:=N,ct:=N,bk:=D.nx } σ2 H2)
def pinsAt (fp:List Addr) (h:Heap):List (Addr × Obj):=fp.filterMap fun b=>(h.get? b).map fun o=>(b,o)
theorem mem_pinsAt {fp:List Addr} {h:Heap} {b:Addr} {o:Obj} (hb:b∈fp) (e:h.get? b=some o):(b,o)∈pinsAt fp h:=List.mem_filterMap.mpr ⟨b,hb,by rw [e];rfl⟩
theorem of_pinsAt {fp:List Addr} {h:Heap} {p:Addr × Obj} (hp:p∈pinsAt fp h):p.1∈fp/\h.get? p.1=some p.2:=by
 obtain ⟨b,hb,e⟩:=List.mem_filterMap.mp hp
 cases q:h.get? b with
 | none=>rw [q] at e;cases e
 | some o =>
  rw [q] at e
  have e':(b,o)=p:=Option.some.inj e
  subst e'
  exact ⟨hb,q⟩
theorem Inv.pinned {pins:List (Addr × Obj)} {σ:St} {H:Hp} {s:Shared} {fp:List Addr} (I:Inv X pins σ H s) (hf:∀ b∈fp,FpOk X pins H b) (ho:∀ b∈fp,∃ o,s.heap.get? b=some o/\∀ v,o.data≠.cell v):Inv X (pins++pinsAt fp s.heap) σ H s :=
 I.pins_of fun p hp=>(List.mem_append.mp hp).elim (fun z=>I.pin p (List.mem_append_right _ z)) fun z=>by
  obtain ⟨hb,e⟩:=of_pinsAt z
  obtain ⟨f0,f1,f2,_⟩:=hf p.1 hb
  obtain ⟨o,e',d⟩:=ho p.1 hb
  rw [e] at e';cases e'
  exact ⟨e,f0,f1,f2,d⟩
theorem Inv.unpinned {pins pl:List (Addr × Obj)} {σ:St} {H:Hp} {s:Shared} (I:Inv X (pins++pl) σ H s):Inv X pins σ H s:=I.pins_of fun p hp=>I.pin p (List.mem_append_right _ (List.mem_append_left _ hp))
theorem ps_for {iter:Expr} {body:List Stmt} {wi:TI} {g:TG} {tb:TS} {pos:Pos} (hp:PassesOwn (model X.prog X.w) X.A X.env X.xe) (hc:X.calm=true) (hi:PI X tg iter wi) (hg:PG X tg g) (hb:PSs X body tb)
  (hs:∀ x,foldedSetIterable iter X.env x=pure x:=by intro _;rfl):PS X (.For tg iter body [] pos) (tFor wi g tb):=by
 intro pins s σ H D I h
 refine wpAny_For (thn (hi pins s σ H _ I h) fun v s1 h1=>thn h1 fun itv s2 h2=>?_) hs
 obtain ⟨it,fp,tn,J,H2,e,I2,T,st2,f2,W,⟨m0,w0⟩,turn⟩:=h2
 subst e
 have stat:∀ {H':Hp},(∀ b∈fp,H' b=none)->∀ b∈fp,FpOk X pins H' b:=fun hn b hb=>⟨hn b hb,(f2 b hb).2⟩
 refine codeAny_forLoop_any (fun n s'=>∃ i σ' H',Inv X pins σ' H' s'/\tn i s'.heap/\(∀ b∈fp,H' b=none)/\W i n σ' H') ?_ m0 ⟨0,σ,H2,I2,st2,fun b hb=>(f2 b hb).1,w0⟩
 rintro n s3 ⟨i,σ3,H3,I3,st3,fr3,w3⟩
 rcases turn i n σ3 H3 w3 with ⟨stop,qn⟩ | ⟨go,N,hN,step⟩
 ·refine wpAny_passesOwn hp (thn (T.done X rfl rfl rfl hc i pins s3 σ3 H3 X.xe I3 (stat fr3) st3 stop) fun r s4 ⟨hr,I4⟩=>?_)
  subst hr
  exact wpAny_execs_nil ⟨σ3,H3,I4,qn⟩
 ·refine wpAny_passesOwn hp (thn (T.item X rfl rfl rfl hc i pins s3 σ3 H3 X.xe I3 (stat fr3) st3 go) fun r s4 ⟨u,hr,h4⟩=>?_)
  subst hr
  refine wpAny_passesOwn hp (thn h4 fun _ s5 ⟨x,H5,I5,r5,y5,st5,fr5⟩=>?_)
  have I5':=I5.pinned (stat fr5) (T.obj _ _ st5)
  refine wpAny_passesOwn hp (thn (hg _ s5 σ3 H5 x u _ I5' r5 (step x H5 y5)) fun _ s6 ⟨σ6,H6,I6,q6⟩=>?_)
  refine wpAny_passesOwn hp (thn (hb _ s6 σ6 H6 _ I6 q6) fun f s7 q7=>?_)
  have again:∀ {σ7:St} {H7:Hp},Inv X (pins++pinsAt fp s5.heap) σ7 H7 s7->N σ7 H7->∃ m,m < n/\∃ i σ' H',Inv X pins σ' H' s7/\tn i s7.heap/\(∀ b∈fp,H' b=none)/\W i m σ' H':=fun {σ7 H7} I7 n7=>by
   obtain ⟨m',hm,w7⟩:=hN σ7 H7 n7
   refine ⟨m',hm,i+1,σ7,H7,I7.unpinned,T.keep _ _ _ st5 fun b hb o e=>(I7.pin (b,o) (List.mem_append_right _ (List.mem_append_right _ (mem_pinsAt hb e)))).1,fun b hb=>?_,w7⟩
   obtain ⟨o,e,d⟩:=T.obj _ _ st5 b hb
   exact (I7.pin (b,o) (List.mem_append_right _ (List.mem_append_right _ (mem_pinsAt hb e)))).2.1
  cases f with
  | next=>obtain ⟨σ7,H7,I7,n7⟩:=q7;exact again I7 n7
  | cont=>obtain ⟨σ7,H7,I7,n7⟩:=q7;exact again I7 n7
  | brk=>obtain ⟨σ7,H7,I7,q7⟩:=q7;exact ⟨σ7,H7,I7.unpinned,q7⟩
  | ret v=>obtain ⟨x7,σ7,H7,I7,r7,q7⟩:=q7;exact ⟨x7,σ7,H7,I7.unpinned,r7,q7⟩
end
theorem for_list {K:PySem.W.Frag} {a:Addr} {xs:List V} {g:TG} {tb:TS} {D:Ends} {σ:St} {H:Hp} (Pv:Nat->St->Hp->Prop) (h0:Pv 0 σ H) (hl:∀ i σ H,i<=xs.length->Pv i σ H->SqL K H a xs)
  (hs:∀ i x σ H,xs[i]?=some x->Pv i σ H->g x σ H fun σ2 H2=>tb { D with nx:=Pv (i+1),ct:=Pv (i+1),bk:=D.nx } σ2 H2) (hd:∀ σ H,Pv xs.length σ H->D.nx σ H) :
  ∃ W:Nat->Nat->St->Hp->Prop,(∃ m,W 0 m σ H)/\∀ i m σ H,W i m σ H ->
   ((Itl K a).stop i H/\D.nx σ H)\/((Itl K a).go i H/\∃ N:St->Hp->Prop,(∀ σ' H',N σ' H'->∃ m',m' < m/\W (i+1) m' σ' H')/\∀ x H',(Itl K a).yld i H x H'->g x σ H' fun σ2 H2=>tb { D with nx:=N,ct:=N,bk:=D.nx } σ2 H2):=by
 refine ⟨fun i m σ H=>m=xs.length - i/\i<=xs.length/\Pv i σ H,⟨xs.length,by simp,Nat.zero_le _,h0⟩,?_⟩
 rintro i m σ H ⟨rfl,hi,p⟩
 have q:=hl i σ H hi p
 by_cases hlt:i < xs.length
 ·refine .inr ⟨⟨xs,xs[i],q,by simp [hlt]⟩,Pv (i+1),fun σ' H' p'=>⟨xs.length - (i+1),by omega,rfl,hlt,p'⟩,fun x H' y=>?_⟩
  obtain ⟨e,y⟩:=y
  subst e
  exact hs i x σ _ (y xs q) p
 ·have e:i=xs.length:=by omega
  subst e
  exact .inl ⟨⟨xs,q,Nat.le_refl _⟩,hd σ H p⟩
theorem for_range {lo:Int} {n:Nat} {g:TG} {tb:TS} {D:Ends} {σ:St} {H:Hp} (Pv:Nat->St->Hp->Prop) (h0:Pv 0 σ H)
  (hs:∀ i σ H,i < n->Pv i σ H->g (.int (lo+i)) σ H fun σ2 H2=>tb { D with nx:=Pv (i+1),ct:=Pv (i+1),bk:=D.nx } σ2 H2) (hd:∀ σ H,Pv n σ H->D.nx σ H) :
  ∃ W:Nat->Nat->St->Hp->Prop,(∃ m,W 0 m σ H)/\∀ i m σ H,W i m σ H ->
   ((Itr lo n).stop i H/\D.nx σ H)\/((Itr lo n).go i H/\∃ N:St->Hp->Prop,(∀ σ' H',N σ' H'->∃ m',m' < m/\W (i+1) m' σ' H')/\∀ x H',(Itr lo n).yld i H x H'->g x σ H' fun σ2 H2=>tb { D with nx:=N,ct:=N,bk:=D.nx } σ2 H2):=by
 refine ⟨fun i m σ H=>m=n - i/\i<=n/\Pv i σ H,⟨n,by simp,Nat.zero_le _,h0⟩,?_⟩
 rintro i m σ H ⟨rfl,hi,p⟩
 by_cases hlt:i < n
 ·refine .inr ⟨hlt,Pv (i+1),fun σ' H' p'=>⟨n - (i+1),by omega,rfl,hlt,p'⟩,fun x H' y=>?_⟩
  obtain ⟨e,y⟩:=y
  subst e y
  exact hs i σ _ hlt p
 ·have e:i=n:=by omega
  subst e
  exact .inl ⟨Nat.le_refl _,hd σ H p⟩
abbrev R2:=V->V->Hp->VK->Prop
def OpR (X:Cx) (f:Value->Value->Sem Value) (r:R2):Prop :=
 ∀ (pins:List (Addr × Obj)) (s:Shared) (σ:St) (H:Hp) (x y:V) (v u:Value) (Q:VK),Inv X pins σ H s->RelV x v->RelV y u->r x y H Q ->
  wpAny (model X.prog X.w) X.A (f v u) (EP X pins σ Q) X.xe s
def UnR (X:Cx) (f:Value->Sem Value) (r:V->Hp->VK->Prop):Prop :=
 ∀ (pins:List (Addr × Obj)) (s:Shared) (σ:St) (H:Hp) (x:V) (v:Value) (Q:VK),Inv X pins σ H s->RelV x v->r x H Q ->
  wpAny (model X.prog X.w) X.A (f v) (EP X pins σ Q) X.xe s
def CallR (X:Cx) (f:Value) (r:List V->Hp->VK->Prop):Prop :=
 ∀ (pins:List (Addr × Obj)) (s:Shared) (σ:St) (H:Hp) (xs:List V) (us:List Value) (Q:VK),Inv X pins σ H s->Vals xs us->r xs H Q ->
  wpAny (model X.prog X.w) X.A (call f us) (EP X pins σ Q) X.xe s
def TruR (X:Cx) (r:V->Hp->(Bool->Hp->Prop)->Prop):Prop :=
 ∀ (pins:List (Addr × Obj)) (s:Shared) (σ:St) (H:Hp) (x:V) (v:Value) (Q:Bool->Hp->Prop),Inv X pins σ H s->RelV x v->r x H Q ->
  wpAny (model X.prog X.w) X.A (truthy v) (TP X pins σ Q) X.xe s
def tOp (r:R2) (ta tb:TE):TE:=fun σ H Q=>ta σ H fun x H1=>tb σ H1 fun y H2=>r x y H2 Q
def tUn (r:V->Hp->VK->Prop) (ta:TE):TE:=fun σ H Q=>ta σ H fun x H1=>r x H1 Q
def rI (C:Int->Int->Prop) (g:Int->Int->V):R2:=fun x y H Q=>∃ i j,x=.int i/\y=.int j/\C i j/\Q (g i j) H
def rI0 (g:Int->Int->V):R2:=fun x y H Q=>∃ i j,x=.int i/\y=.int j/\Q (g i j) H
def rU (g:Int->V):V->Hp->VK->Prop:=fun x H Q=>∃ i,x=.int i/\Q (g i) H
section
variable {X:Cx} {a b c:Expr} {ta tb tc:TE} {pos:Pos}
theorem binT (ha:PE X a ta) (hb:PE X b tb) {pins:List (Addr × Obj)} {s:Shared} {σ:St} {H:Hp} {R:V->V->Hp->Prop} (I:Inv X pins σ H s)
  (h:ta σ H fun x H1=>tb σ H1 fun y H2=>R x y H2) {Q:Value->Shared->Prop} {f:Value->Value->Sem Value}
  (hf:∀ v u s2 x y H2,Inv X pins σ H2 s2->RelV x v->RelV y u->R x y H2->wpAny (model X.prog X.w) X.A (f v u) Q X.xe s2) :
  wpAny (model X.prog X.w) X.A (eval a X.env) (fun v s₁=>wpAny (model X.prog X.w) X.A (eval b X.env) (fun u s₂=>wpAny (model X.prog X.w) X.A (f v u) Q X.xe s₂) X.xe s₁) X.xe s:=by
 refine thn (ha pins s σ H _ I h) fun v s1 ⟨x,H1,I1,r1,q1⟩=>?_
 refine thn (hb pins s1 σ H1 _ I1 q1) fun u s2 ⟨y,H2,I2,r2,q2⟩=>?_
 exact hf v u s2 x y H2 I2 r1 r2 q2
theorem pe_op {op:Operator} {r:R2} (ho:OpR X (binaryOp op) r) (ha:PE X a ta) (hb:PE X b tb):PE X (.BinOp a op b pos) (tOp r ta tb):=by
 intro pins s σ H Q I h
 exact wpAny_BinOp (binT ha hb I h fun v u s2 x y H2 I2 rx ry q=>ho pins s2 σ H2 x y v u Q I2 rx ry q)
theorem pe_un {op:UnaryOp} {r:V->Hp->VK->Prop} (ho:UnR X (unaryOp op) r) (ha:PE X a ta):PE X (.UnaryOp op a pos) (tUn r ta):=by
 intro pins s σ H Q I h
 exact UnaryOp_ (thn (ha pins s σ H _ I h) fun v s1 ⟨x,H1,I1,r1,q1⟩=>ho pins s1 σ H1 x v Q I1 r1 q1)
theorem opI {f:Value->Value->Sem Value} {C:Int->Int->Prop} {g:Int->Int->Int}
  (rule:∀ (i j:Int) (t u:Tok) (s:Shared) (Q:Value->Shared->Prop) (E:Value->Shared->Prop),C i j->Q (.int (g i j) s.toks) { s with toks:=s.toks+1 }->wpAny (model X.prog X.w) X.A (f (.int i t) (.int j u)) Q E s) :
  OpR X f (rI C fun i j=>.int (g i j)):=by
 intro pins s σ H x y v u Q I rx ry h
 obtain ⟨i,j,rfl,rfl,hc,q⟩:=h
 obtain ⟨t,rfl⟩:=rx
 obtain ⟨t',rfl⟩:=ry
 exact rule i j t t' s _ _ hc ⟨.int (g i j),H,I.tok _,⟨_,rfl⟩,q⟩
theorem opI0 {f:Value->Value->Sem Value} {g:Int->Int->Int}
  (rule:∀ (i j:Int) (t u:Tok) (s:Shared) (Q:Value->Shared->Prop) (E:Value->Shared->Prop),Q (.int (g i j) s.toks) { s with toks:=s.toks+1 }->wpAny (model X.prog X.w) X.A (f (.int i t) (.int j u)) Q E s) :
  OpR X f (rI0 fun i j=>.int (g i j)):=by
 intro pins s σ H x y v u Q I rx ry h
 obtain ⟨i,j,rfl,rfl,q⟩:=h
 obtain ⟨t,rfl⟩:=rx
 obtain ⟨t',rfl⟩:=ry
 exact rule i j t t' s _ _ ⟨.int (g i j),H,I.tok _,⟨_,rfl⟩,q⟩
theorem opB0 {f:Value->Value->Sem Value} {g:Int->Int->Bool}
  (rule:∀ (i j:Int) (t u:Tok) (s:Shared) (Q:Value->Shared->Prop) (E:Value->Shared->Prop),Q (.bool (g i j)) s->wpAny (model X.prog X.w) X.A (f (.int i t) (.int j u)) Q E s) :
  OpR X f (rI0 fun i j=>.bl (g i j)):=by
 intro pins s σ H x y v u Q I rx ry h
 obtain ⟨i,j,rfl,rfl,q⟩:=h
 obtain ⟨t,rfl⟩:=rx
 obtain ⟨t',rfl⟩:=ry
 exact rule i j t t' s _ _ ⟨.bl (g i j),H,I,rfl,q⟩
def CDiv (i j:Int):Prop:=0 < j/\j < 1073741824
def CPow (i j:Int):Prop:=0<=j/\j<=1000000/\i.natAbs < 2 ^ 64
def CMul (i j:Int):Prop:=(-(2 ^ 64) < i/\i < 2 ^ 64)\/(-(2 ^ 64) < j/\j < 2 ^ 64)
theorem CMul.ok {i j:Int} (h:CMul i j):IntMulOk i j:=by
 rcases h with ⟨h1,h2⟩ | ⟨h1,h2⟩
 ·exact .of_left (intBits_le_64 h1 h2)
 ·exact .of_right (intBits_le_64 h1 h2)
theorem op_add:OpR X (binaryOp .Add) (rI0 fun i j=>.int (i+j)):=opI0 fun _ _ _ _ _ _ _ q=>add_int q
theorem op_sub:OpR X (binaryOp .Sub) (rI0 fun i j=>.int (i - j)):=opI0 fun _ _ _ _ _ _ _ q=>sub_int q
theorem op_mul:OpR X (binaryOp .Mult) (rI CMul fun i j=>.int (i * j)):=opI fun _ _ _ _ _ _ _ hc q=>mul_int q hc.ok
theorem op_fdiv:OpR X (binaryOp .FloorDiv) (rI CDiv fun i j=>.int (i / j)):=opI fun i j _ _ _ _ _ hc q=>by
 have h1:(0:Int) < j:=hc.1
 have h2:j < 1073741824:=hc.2
 exact floordiv_int (by omega) (by rw [Int.fdiv_eq_ediv_of_nonneg i (by omega)];exact q) (.inl (PyProof.noPylong_small (by omega)))
theorem op_mod:OpR X (binaryOp .Mod) (rI (fun _ j=>0 < j) fun i j=>.int (i % j)):=opI fun i j _ _ _ _ _ hc q=>by
 have h1:(0:Int) < j:=hc
 exact mod_int' (by omega) (by rw [Int.fmod_eq_emod_of_nonneg i (by omega)];exact q)
theorem op_pow:OpR X (binaryOp .Pow) (rI CPow fun i j=>.int (i ^ j.toNat)):=opI fun _ _ _ _ _ _ _ hc q=>pow_int_small hc.1 hc.2.1 hc.2.2 q
theorem unI {f:Value->Sem Value} {g:Int->Int}
  (rule:∀ (i:Int) (t:Tok) (s:Shared) (Q:Value->Shared->Prop) (E:Value->Shared->Prop),Q (.int (g i) s.toks) { s with toks:=s.toks+1 }->wpAny (model X.prog X.w) X.A (f (.int i t)) Q E s) :
  UnR X f (rU fun i=>.int (g i)):=by
 intro pins s σ H x v Q I rx h
 obtain ⟨i,rfl,q⟩:=h
 obtain ⟨t,rfl⟩:=rx
 exact rule i t s _ _ ⟨.int (g i),H,I.tok _,⟨_,rfl⟩,q⟩
theorem un_neg:UnR X (unaryOp .USub) (rU fun i=>.int (-i)):=unI fun _ _ _ _ _ q=>neg_int q
end
def scal:V->V->Bool
 | .non,.non=>true | .non,.int _=>true | .int _,.non=>true | .non,.bl _=>true | .bl _,.non=>true | .non,.str _=>true | .str _,.non=>true
 | .int _,.int _=>true | .bl _,.bl _=>true | .str _,.str _=>true | .byt _,.byt _=>true
 | .int _,.str _=>true | .str _,.int _=>true | .bl _,.str _=>true | .str _,.bl _=>true
 | _,_=>false
def rEq:R2:=fun x y H Q=>scal x y=true/\Q (.bl (decide (x=y))) H
def rNe:R2:=fun x y H Q=>scal x y=true/\Q (.bl (!decide (x=y))) H
theorem dec_int {i j:Int}:decide (V.int i=V.int j)=(i == j):=by
 rw [Bool.eq_iff_iff]
 simp
theorem dec_bl {i j:Bool}:decide (V.bl i=V.bl j)=(i == j):=by
 rw [Bool.eq_iff_iff]
 simp
theorem dec_str {i j:Str}:decide (V.str i=V.str j)=(i == j):=by
 rw [Bool.eq_iff_iff]
 simp
theorem dec_byt {i j:Array UInt8}:decide (V.byt i=V.byt j)=(i.toList == j.toList):=by
 rw [Bool.eq_iff_iff]
 cases i
 cases j
 simp
section
variable {X:Cx} {a b c:Expr} {ta tb tc:TE} {pos:Pos}
theorem fin_bl {pins:List (Addr × Obj)} {σ:St} {H:Hp} {s:Shared} {Q:VK} {k k':Bool} (I:Inv X pins σ H s) (q:Q (.bl k) H) (e:k=k'):EP X pins σ Q (.bool k') s:=by
 subst e
 exact ⟨.bl k,H,I,rfl,q⟩
theorem op_eq:OpR X (compareOp .Eq) rEq:=by
 intro pins s σ H x y v u Q I rx ry h
 obtain ⟨hs,q⟩:=h
 cases x with
 | non =>
  cases rx
  cases y with
  | non=>cases ry;exact PySem.EqNone.eq_none_none (fin_bl I q (by simp))
  | bl j=>cases ry;exact PySem.EqNone.eq_none_bool (fin_bl I q (by simp))
  | int j=>obtain ⟨t',rfl⟩:=ry;exact PySem.EqNone.eq_none_int (fin_bl I q (by simp))
  | str j=>obtain ⟨t',rfl⟩:=ry;exact PySem.EqNone.eq_none_str (fin_bl I q (by simp))
  | _=>exact absurd (show false=true from hs) Bool.false_ne_true
 | bl i =>
  cases rx
  cases y with
  | non=>cases ry;exact PySem.EqNone.eq_bool_none (fin_bl I q (by simp))
  | bl j=>cases ry;exact eq_bool (fin_bl I q dec_bl)
  | str j=>obtain ⟨t',rfl⟩:=ry;exact PySem.EqMixed.eq_bool_str (fin_bl I q (by simp))
  | _=>exact absurd (show false=true from hs) Bool.false_ne_true
 | int i =>
  obtain ⟨t,rfl⟩:=rx
  cases y with
  | non=>cases ry;exact PySem.EqNone.eq_int_none (fin_bl I q (by simp))
  | int j=>obtain ⟨t',rfl⟩:=ry;exact eq_int (fin_bl I q dec_int)
  | str j=>obtain ⟨t',rfl⟩:=ry;exact PySem.EqMixed.eq_int_str (fin_bl I q (by simp))
  | _=>exact absurd (show false=true from hs) Bool.false_ne_true
 | str i =>
  obtain ⟨t,rfl⟩:=rx
  cases y with
  | non=>cases ry;exact PySem.EqNone.eq_str_none (fin_bl I q (by simp))
  | bl j=>cases ry;exact PySem.EqMixed.eq_str_bool (fin_bl I q (by simp))
  | int j=>obtain ⟨t',rfl⟩:=ry;exact PySem.EqMixed.eq_str_int (fin_bl I q (by simp))
  | str j=>obtain ⟨t',rfl⟩:=ry;exact eq_str (fin_bl I q dec_str)
  | _=>exact absurd (show false=true from hs) Bool.false_ne_true
 | byt i =>
  obtain ⟨t,rfl⟩:=rx
  cases y with
  | byt j=>obtain ⟨t',rfl⟩:=ry;exact PySem.W.eq_bytes (fin_bl I q dec_byt)
  | _=>exact absurd (show false=true from hs) Bool.false_ne_true
 | _=>cases y<;>exact absurd (show false=true from hs) Bool.false_ne_true
theorem op_ne:OpR X (compareOp .NotEq) rNe:=by
 intro pins s σ H x y v u Q I rx ry h
 obtain ⟨hs,q⟩:=h
 cases x with
 | non =>
  cases rx
  cases y with
  | non=>cases ry;exact PySem.EqNone.ne_none_none (fin_bl I q (by simp))
  | bl j=>cases ry;exact PySem.EqNone.ne_none_bool (fin_bl I q (by simp))
  | int j=>obtain ⟨t',rfl⟩:=ry;exact PySem.EqNone.ne_none_int (fin_bl I q (by simp))
  | str j=>obtain ⟨t',rfl⟩:=ry;exact PySem.EqNone.ne_none_str (fin_bl I q (by simp))
  | _=>exact absurd (show false=true from hs) Bool.false_ne_true
 | bl i =>
  cases rx
  cases y with
  | non=>cases ry;exact PySem.EqNone.ne_bool_none (fin_bl I q (by simp))
  | bl j=>cases ry;exact ne_bool (fin_bl I q (congrArg not dec_bl))
  | str j=>obtain ⟨t',rfl⟩:=ry;exact PySem.EqMixed.ne_bool_str (fin_bl I q (by simp))
  | _=>exact absurd (show false=true from hs) Bool.false_ne_true
 | int i =>
  obtain ⟨t,rfl⟩:=rx
  cases y with
  | non=>cases ry;exact PySem.EqNone.ne_int_none (fin_bl I q (by simp))
  | int j=>obtain ⟨t',rfl⟩:=ry;exact ne_int (fin_bl I q (congrArg not dec_int))
  | str j=>obtain ⟨t',rfl⟩:=ry;exact PySem.EqMixed.ne_int_str (fin_bl I q (by simp))
  | _=>exact absurd (show false=true from hs) Bool.false_ne_true
 | str i =>
  obtain ⟨t,rfl⟩:=rx
  cases y with
  | non=>cases ry;exact PySem.EqNone.ne_str_none (fin_bl I q (by simp))
  | bl j=>cases ry;exact PySem.EqMixed.ne_str_bool (fin_bl I q (by simp))
  | int j=>obtain ⟨t',rfl⟩:=ry;exact PySem.EqMixed.ne_str_int (fin_bl I q (by simp))
  | str j=>obtain ⟨t',rfl⟩:=ry;exact ne_str (fin_bl I q (congrArg not dec_str))
  | _=>exact absurd (show false=true from hs) Bool.false_ne_true
 | byt i =>
  obtain ⟨t,rfl⟩:=rx
  cases y with
  | byt j=>obtain ⟨t',rfl⟩:=ry;exact PySem.W.ne_bytes (fin_bl I q (congrArg not dec_byt))
  | _=>exact absurd (show false=true from hs) Bool.false_ne_true
 | _=>cases y<;>exact absurd (show false=true from hs) Bool.false_ne_true
theorem op_lt:OpR X (compareOp .Lt) (rI0 fun i j=>.bl (decide (i < j))):=opB0 fun _ _ _ _ _ _ _ q=>lt_int q
theorem op_le:OpR X (compareOp .LtE) (rI0 fun i j=>.bl (decide (i<=j))):=opB0 fun _ _ _ _ _ _ _ q=>le_int q
theorem op_gt:OpR X (compareOp .Gt) (rI0 fun i j=>.bl (decide (j < i))):=opB0 fun _ _ _ _ _ _ _ q=>gt_int q
theorem nomark (b:Expr) {op:CmpOp} (h:op≠.In:=by decide) (h2:op≠.NotIn:=by decide):behindInMarks op b=false:=by
 have e1:(op == CmpOp.In)=false:=by cases op<;>first | rfl | exact absurd rfl h
 have e2:(op == CmpOp.NotIn)=false:=by cases op<;>first | rfl | exact absurd rfl h2
 cases b<;>simp [behindInMarks,e1,e2]
theorem pe_cmpR {op:CmpOp} {r:R2} (ho:OpR X (compareOp op) r) (ha:PE X a ta) (hb:PE X b tb) (hm:behindInMarks op b=false):PE X (.Compare a [op] [b] pos) (tOp r ta tb):=by
 intro pins s σ H Q I h
 exact wpAny_Compare1 (binT ha hb I h fun v u s2 x y H2 I2 rx ry q=>ho pins s2 σ H2 x y v u Q I2 rx ry q) hm
def tTest (t:TE):TT:=fun σ H Q=>t σ H fun x H'=>∃ k,x=.bl k/\Q k H'
theorem pt_cmpR {op:CmpOp} {r:R2} (ho:OpR X (compareOp op) r) (ha:PE X a ta) (hb:PE X b tb) (hm:behindInMarks op b=false):PT X (.Compare a [op] [b] pos) (tTest (tOp r ta tb)):=by
 intro pins s σ H Q I h
 refine wpAny_isTrue_Compare1 (thn (ha pins s σ H _ I h) fun v s1 ⟨x,H1,I1,r1,q1⟩=>thn (hb pins s1 σ H1 _ I1 q1) fun u s2 ⟨y,H2,I2,r2,q2⟩ =>
  thn (ho pins s2 σ H2 x y v u _ I2 r1 r2 q2) fun c s3 ⟨z,H3,I3,r3,k,e,q3⟩=>?_) hm
 subst e
 cases r3
 exact wpAny_truthy_bool ⟨H3,I3,q3⟩
def tChain (r r':R2) (ta tb tc:TE):TE:=fun σ H Q=>ta σ H fun x H1=>tb σ H1 fun y H2=>r x y H2 fun z H3=>∃ k,z=.bl k /\
 (if k=true then tc σ H3 fun w' H4=>r' y w' H4 Q else Q (.bl false) H3)
theorem pe_chain {op op':CmpOp} {r r':R2} (ho:OpR X (compareOp op) r) (ho':OpR X (compareOp op') r') (ha:PE X a ta) (hb:PE X b tb) (hc:PE X c tc)
  (hm:lastMarks [op,op'] [b,c]=false:=by with_unfolding_all rfl):PE X (.Compare a [op,op'] [b,c] pos) (tChain r r' ta tb tc):=by
 intro pins s σ H Q I h
 refine Compare_chain (thn (ha pins s σ H _ I h) fun v s1 ⟨x,H1,I1,r1,q1⟩=>chain_link (thn (hb pins s1 σ H1 _ I1 q1) fun u s2 ⟨y,H2,I2,r2,q2⟩ =>
  thn (ho pins s2 σ H2 x y v u _ I2 r1 r2 q2) fun d s3 ⟨z,H3,I3,r3,k,e,q3⟩=>?_)) hm
 subst e
 cases r3
 refine wpAny_truthy_bool ?_
 cases k with
 | false=>exact ite_ff ⟨.bl false,H3,I3,rfl,q3⟩
 | true=>exact ite_tt (chain_last (thn (hc pins s3 σ H3 _ I3 q3) fun w' s4 ⟨z',H4,I4,r4,q4⟩=>ho' pins s4 σ H4 y z' u w' Q I4 r2 r4 q4))
theorem pt_chain {op op':CmpOp} {r r':R2} (ho:OpR X (compareOp op) r) (ho':OpR X (compareOp op') r') (ha:PE X a ta) (hb:PE X b tb) (hc:PE X c tc)
  (hm:lastMarks [op,op'] [b,c]=false:=by with_unfolding_all rfl):PT X (.Compare a [op,op'] [b,c] pos) (tTest (tChain r r' ta tb tc)):=by
 intro pins s σ H Q I h
 refine isTrue_chain (thn (ha pins s σ H _ I h) fun v s1 ⟨x,H1,I1,r1,q1⟩=>test_link (thn (hb pins s1 σ H1 _ I1 q1) fun u s2 ⟨y,H2,I2,r2,q2⟩ =>
  thn (ho pins s2 σ H2 x y v u _ I2 r1 r2 q2) fun d s3 ⟨z,H3,I3,r3,k,e,q3⟩=>?_)) hm
 subst e
 cases r3
 refine wpAny_truthy_bool ?_
 cases k with
 | false =>
  obtain ⟨k',e',q'⟩:=q3
  cases e'
  exact ite_ff ⟨H3,I3,q'⟩
 | true =>
  refine ite_tt (test_last (thn (hc pins s3 σ H3 _ I3 q3) fun w' s4 ⟨z',H4,I4,r4,q4⟩=>thn (ho' pins s4 σ H4 y z' u w' _ I4 r2 r4 q4) fun d' s5 ⟨z2,H5,I5,r5,k2,e2,q5⟩=>?_))
  subst e2
  cases r5
  exact wpAny_truthy_bool ⟨H5,I5,q5⟩
def TruV (K:PySem.W.Frag) (x:V) (H:Hp) (k:Bool):Prop :=
 match x with
 | .non=>k=false
 | .bl b=>k=b
 | .int i=>k=(i != 0)
 | .str y=>y.length<=sizeLine/\k=((y.length:Int) != 0)
 | .byt y=>y.size<=sizeLine/\k=((y.size:Int) != 0)
 | .ref p=>(∃ xs,SqL K H p xs/\k=!xs.isEmpty)\/(∃ xs,SqT K H p xs/\k=!xs.isEmpty)\/∃ kvs,H p=some (.dK kvs)/\k=!kvs.isEmpty
 | _=>False
theorem isEmpty_kv {κ:Type} {kvs:List (κ × V)} {vs:List (κ × Value)} (r:KV kvs vs):(!vs.isEmpty)=!kvs.isEmpty:=by
 cases r<;>rfl
theorem isEmpty_of {xs:List V} {its:List Value} (r:Vals xs its):(!its.toArray.isEmpty)=!xs.isEmpty:=by
 cases r<;>simp
theorem line63:(sizeLine:Nat) < 2 ^ 63:=by rw [sizeLine_eq];decide
theorem tru_ok:TruR X (fun x H Q=>∃ k,TruV X.K x H k/\Q k H):=by
 intro pins s σ H x v Q I rx h
 obtain ⟨k,e,q⟩:=h
 have hl:=line63
 have hs:sizeLine=16777216:=sizeLine_eq
 cases x with
 | non =>
  cases rx
  have e':k=false:=e
  subst e'
  exact truthy_none ⟨H,I,q⟩
 | bl b =>
  cases rx
  have e':k=b:=e
  subst e'
  exact wpAny_truthy_bool ⟨H,I,q⟩
 | int i =>
  obtain ⟨t,rfl⟩:=rx
  have e':k=(i != 0):=e
  subst e'
  exact PySem.P.truthy_int ⟨H,I,q⟩
 | str y =>
  obtain ⟨t,rfl⟩:=rx
  obtain ⟨hy,e'⟩:y.length<=sizeLine/\k=((y.length:Int) != 0):=e
  subst e'
  exact PySem.P.truthy_str (by omega) ⟨H,I.tok _,q⟩
 | byt y =>
  obtain ⟨t,rfl⟩:=rx
  obtain ⟨hy,e'⟩:y.size<=sizeLine/\k=((y.size:Int) != 0):=e
  subst e'
  exact PySem.W.truthy_bytes (by omega) ⟨H,I.tok _,q⟩
 | ref p =>
  cases rx
  have e':(∃ xs,SqL X.K H p xs/\k=!xs.isEmpty)\/(∃ xs,SqT X.K H p xs/\k=!xs.isEmpty)\/∃ kvs,H p=some (.dK kvs)/\k=!kvs.isEmpty:=e
  rcases e' with ⟨xs,hx,e'⟩ | ⟨xs,hx,e'⟩ | ⟨kvs,hx,e'⟩
  ·subst e'
   obtain ⟨its,r,pl,hz⟩:=I.list hx
   have hlen:=r.length
   exact wpAny_truthy_list pl.isList (by simp only [List.size_toArray];omega) ⟨H,I.tok _,by rw [isEmpty_of r];exact q⟩
  ·subst e'
   obtain ⟨its,r,pl,hz⟩:=I.tuple hx
   have hlen:=r.length
   exact truthy_tuple pl (by simp only [List.size_toArray];omega) ⟨H,I.tok _,by rw [isEmpty_of r];exact q⟩
  ·subst e'
   obtain ⟨hz,hS,vs,r,m⟩:kvs.length<=sizeLine/\(p == sysModules)=false/\∃ vs,KV kvs vs/\s.heap.DictOf (mixKind X.prog X.w) p vs:=I.hok p _ hx
   have hlen:kvs.length=vs.length:=Paired.length r
   exact wpAny_truthy_dict hS m (by omega) ⟨H,I.tok _,by rw [isEmpty_kv r];exact q⟩
 | _=>exact (show False from e).elim
theorem pt_truth (ha:PE X a ta) (he:∀ whole,isTrue a X.env whole=(do let v <- whole;standAt a.pos;holding [v] (truthy v))) :
  PT X a (fun σ H Q=>ta σ H fun x H'=>∃ k,TruV X.K x H' k/\Q k H'):=by
 intro pins s σ H Q I h
 exact isTrue_plain (thn (ha pins s σ H _ I h) fun v s1 ⟨x,H1,I1,r1,q1⟩=>tru_ok pins s1 σ H1 x v Q I1 r1 q1) (he _)
theorem op_add_str:OpR X (binaryOp .Add) (fun x y H Q=>∃ i j,x=.str i/\y=.str j/\i.length+j.length<=sizeLine/\Q (.str (i++j)) H):=by
 intro pins s σ H x y v u Q I rx ry h
 obtain ⟨i,j,rfl,rfl,hz,q⟩:=h
 obtain ⟨t,rfl⟩:=rx
 obtain ⟨t',rfl⟩:=ry
 exact add_str (fun t' tk=>⟨.str (i++j),H,I.tok _,⟨_,rfl⟩,q⟩) hz
theorem vals1 {x:V} {us:List Value} (r:Vals [x] us):∃ u,us=[u]/\RelV x u:=by
 cases r with
 | cons r1 r2=>cases r2;exact ⟨_,rfl,r1⟩
theorem vals2 {x y:V} {us:List Value} (r:Vals [x,y] us):∃ u w',us=[u,w']/\RelV x u/\RelV y w':=by
 cases r with
 | cons r1 r2 =>
  cases r2 with
  | cons r3 r4=>cases r4;exact ⟨_,_,rfl,r1,r3⟩
theorem call_max2 (hc:X.calm=true):CallR X (.builtin "max") (fun xs H Q=>∃ i j,xs=[.int i,.int j]/\Q (.int (if j > i then j else i)) H):=by
 intro pins s σ H xs us Q I r h
 obtain ⟨i,j,rfl,q⟩:=h
 obtain ⟨u,w',rfl,⟨t,rfl⟩,⟨t',rfl⟩⟩:=vals2 r
 refine max_two_ints (I.ok.hd hc) fun h' tk k=>⟨_,H,I.kept k,?_,q⟩
 by_cases hj:j > i
 ·rw [if_pos hj,if_pos hj];exact ⟨_,rfl⟩
 ·rw [if_neg hj,if_neg hj];exact ⟨_,rfl⟩
theorem call_min2 (hc:X.calm=true):CallR X (.builtin "min") (fun xs H Q=>∃ i j,xs=[.int i,.int j]/\Q (.int (if j < i then j else i)) H):=by
 intro pins s σ H xs us Q I r h
 obtain ⟨i,j,rfl,q⟩:=h
 obtain ⟨u,w',rfl,⟨t,rfl⟩,⟨t',rfl⟩⟩:=vals2 r
 refine min_two_ints (I.ok.hd hc) fun h' tk k=>⟨_,H,I.kept k,?_,q⟩
 by_cases hj:j < i
 ·rw [if_pos hj,if_pos hj];exact ⟨_,rfl⟩
 ·rw [if_neg hj,if_neg hj];exact ⟨_,rfl⟩
theorem call_str_int:CallR X (.type "str") (fun xs H Q=>∃ i,xs=[.int i]/\i.natAbs.log2 < 1920/\Q (.str (toString i)) H):=by
 intro pins s σ H xs us Q I r h
 obtain ⟨i,rfl,hz,q⟩:=h
 obtain ⟨u,rfl,t,rfl⟩:=vals1 r
 exact PySem.P.str_of_int hz ⟨.str _,H,I.tok _,⟨_,rfl⟩,q⟩
end
structure ObjM (h:Heap) (x dx C:Addr) (mA:Str->Option Value):Prop where
 obj:h.get? x=some (PySem.W.instObj C dx)
 ns:h.Ns1 dx mA
 ne:dx≠x
theorem lookIn_ns {h:Heap} {dx:Addr} {mA:Str->Option Value} (n:h.Ns1 dx mA):∃ od,h.get? dx=some od/\∀ name,PySem.W.lookIn name od=some (mA name):=by
 obtain ⟨o,es,ep,ho,hd,hk,_,hm⟩:=n
 refine ⟨o,ho,fun name=>?_⟩
 have e:=hm name
 unfold nsFind findBy at e
 rw [<- Array.find?_toList] at e
 unfold PySem.W.lookIn
 rw [hd]
 dsimp only
 split
 ·rename_i y q
  rw [q] at e
  exact congrArg some e
 ·rename_i q
  rw [q] at e
  have a:es.toList.any (·.refKey)=false:=by
   rw [List.any_eq_false]
   intro y hy
   obtain ⟨z,t,hkey⟩:=hk y (Array.mem_toList_iff.mp hy)
   simp [DictEntry.refKey,hkey]
  have a':¬ es.toList.any (·.refKey)=true:=by rw [a];exact Bool.false_ne_true
  rw [if_neg a']
  exact congrArg some e
theorem ObjM.look {h:Heap} {x dx C:Addr} {mA:Str->Option Value} (I:ObjM h x dx C mA):∃ od,PySem.W.InstAt h x (PySem.W.instObj C dx) C (some od)/\∀ name,PySem.W.lookIn name od=some (mA name) :=
 let ⟨od,ho,hl⟩:=lookIn_ns I.ns
 ⟨od,⟨I.obj,rfl,rfl,ho⟩,hl⟩
section
variable {prog:Program} {w:World} {A:Around} {E:Value->Shared->Prop} {s:Shared} {K:PySem.W.Frag} {x dx C f:Addr} {mA:Str->Option Value} {name:Str} {v:Value}
theorem get_map {expr:Bool} {Q:Value->Shared->Prop} (X:K.In s.heap) (I:ObjM s.heap x dx C mA) (hg:PySem.W.plainGet K C name=true) (hh:PySem.W.hasDictIn K C=true)
  (ha:W.findIn K (.ref C) name=some none) (hv:mA name=some v) (hv':W.handedIn v=true) (h:Q v { s with toks:=s.toks+1 }) :
  wpAny (model prog w) A (getAttr (.ref x) name expr) Q E s:=by
 obtain ⟨od,J,hl⟩:=I.look
 exact PySem.W.get_value X J (PySem.W.plainGet_of hg).1 (PySem.W.findObj_own hh ha rfl (by rw [hl,hv])) hv' h
theorem get_meth {pl:Sem Bool} {Q:Value × List Value->Shared->Prop} (X:K.In s.heap) (I:ObjM s.heap x dx C mA) (hg:PySem.W.plainGet K C name=true)
  (hf:W.findIn K (.ref C) name=some (some (.ref f))) (ht:W.isFn K (.ref f)=true) (hv:mA name=none) (h:Q (.ref f,[.ref x]) s) :
  wpAny (model prog w) A (getMethod (.ref x) name pl) Q E s:=by
 obtain ⟨od,J,hl⟩:=I.look
 exact PySem.W.method_fn X J (PySem.W.plainGet_of hg).1 (PySem.W.plainGet_of hg).2 hf (beq_iff_eq.mp ht) (by show (PySem.W.lookIn name od).map (·.isSome)=some false;rw [hl,hv];rfl) h
theorem set_map {ns:List Str} {Q:Unit->Shared->Prop} (X:K.In s.heap) (I:ObjM s.heap x dx C mA)
  (hs:W.findIn K (.ref C) "__setattr__" = some (some (.builtin "object.__setattr__"))) (hp:W.plainOver K C=true) (ht:W.takerIn K C name=some none) (hh:W.hasDictIn K C=true)
  (hw:PySem.Within mA ns) (hsz:ns.length<=sizeLine)
  (h:∀ h',ObjM h' x dx C (fun y=>if y=name then some v else mA y)->Heap.SameBut dx s.heap h'->Q () { s with heap:=h',toks:=s.toks+2 }) :
  wpAny (model prog w) A (setAttr (.ref x) name v) Q E s:=by
 obtain ⟨od,J,hl⟩:=I.look
 refine PySem.W.set_plain X J hs (PySem.W.osa_open (s:={ s with toks:=s.toks+1 }) (r:=none) X J hp ht fun b=>?_)
 obtain ⟨cd,hc,hd'⟩:=PySem.W.any_some hh
 have hx:s.heap.get? x=some ⟨.ref C,some dx,.plain,#[]⟩:=I.obj
 refine wpAny_bind (wpAny_pure (wpAny_bind (wpAny_bind (wpAny_loadPart hx (wpAny_bind (PySem.W.Looks.here (s:={ s with toks:=s.toks+1 }) (PySem.W.looks_clsIn X hc) ?_))))))
 rw [hd']
 refine wpAny_pure (a:=some dx) (wpAny_bind (wpAny_pure (wpAny_bind ?_)))
 refine wpAny_nsSet1 (s:={ s with toks:=s.toks+1 }) I.ns fun h' hn2 hs2=>?_
 obtain ⟨oD,esD,epD,hoD,hdD,hcD⟩:=hn2.count (PySem.Within.cons name v hw)
 refine wpAny_bind (wpAny_lookBehind hoD (by rw [hdD];exact pastItsLine_dict (Nat.le_trans hcD (by rw [List.length_cons];omega))) ?_)
 exact wpAny_pure (h _ ⟨(hs2.2 _ (Ne.symm I.ne)).trans I.obj,hn2,I.ne⟩ hs2)
theorem make_map {R:Result->Shared->Prop} {vs:List Value} {kw:List (Str × Value)} (X:K.In s.heap) (hm:PySem.W.makesIn K C=true)
  (hi:W.findIn K (.ref C) "__init__" = some (some (.ref f))) (hf:W.typeIn K (.ref f)=some (.type "function"))
  (h:codeAny (model prog w) (A.under (.builtin "type.__call__" ⟨.ref C::vs,kw⟩)) (.call (.ref f) ⟨.ref (s.heap.objs.size+1)::vs,kw⟩) (PySem.W.InitBack (s.heap.objs.size+1) R)
   { s with heap:=(s.heap.push PySem.W.emptyDict).push (PySem.W.instObj C s.heap.objs.size) }) :
  codeAny (model prog w) A (.call (.ref C) ⟨vs,kw⟩) R s:=by
 obtain ⟨hh,g,d,t,os⟩:=s
 exact PySem.W.make_core (PySem.W.makes_of X hm) (PySem.W.looks_findIn X hi) (fun self=>PySem.W.bind_fn X self hf) (.inl rfl) h
end
def putF (f:Str) (v:V):List (Str × V)->List (Str × V)
 | []=>[(f,v)]
 | (g,x)::r=>if g=f then (g,v)::r else (g,x)::putF f v r
theorem lookup_putF (f g:Str) (v:V):∀ fs:List (Str × V),(putF f v fs).lookup g=if g=f then some v else fs.lookup g
 | []=>by
  show List.lookup g [(f,v)]=_
  by_cases h:g=f
  ·have hb:(g == f)=true:=beq_iff_eq.mpr h
   simp only [List.lookup,hb,if_pos h]
  ·have hb:(g == f)=false:=beq_eq_false_iff_ne.mpr h
   simp only [List.lookup,hb,if_neg h]
 | (k,x)::r=>by
  have ih:=lookup_putF f g v r
  rw [show putF f v ((k,x)::r)=(if k=f then (k,v)::r else (k,x)::putF f v r) from rfl]
  by_cases hk:k=f
  ·rw [if_pos hk]
   by_cases h:g=k
   ·have hb:(g == k)=true:=beq_iff_eq.mpr h
    simp only [List.lookup,hb,if_pos (h.trans hk)]
   ·have hb:(g == k)=false:=beq_eq_false_iff_ne.mpr h
    simp only [List.lookup,hb,if_neg (fun e:g=f=>h (e.trans hk.symm))]
  ·rw [if_neg hk]
   by_cases h:g=k
   ·have hb:(g == k)=true:=beq_iff_eq.mpr h
    simp only [List.lookup,hb,if_neg (fun e:g=f=>hk (h.symm.trans e))]
   ·have hb:(g == k)=false:=beq_eq_false_iff_ne.mpr h
    simp only [List.lookup,hb]
    exact ih
theorem keys_putF (f:Str) (v:V):∀ fs:List (Str × V),f∈(putF f v fs).map (·.1)/\∀ g,g∈fs.map (·.1)->g∈(putF f v fs).map (·.1)
 | []=>⟨by simp [putF],fun g h=>by simp at h⟩
 | (k,x)::r=>by
  obtain ⟨i1,i2⟩:=keys_putF f v r
  rw [show putF f v ((k,x)::r)=(if k=f then (k,v)::r else (k,x)::putF f v r) from rfl]
  by_cases hk:k=f
  ·rw [if_pos hk]
   subst hk
   exact ⟨by simp,fun g h=>by simpa using h⟩
  ·rw [if_neg hk]
   refine ⟨?_,fun g h=>?_⟩
   ·rw [List.map_cons]
    exact List.mem_cons_of_mem _ i1
   ·rw [List.map_cons] at h ⊢
    rcases List.mem_cons.mp h with e | e
    ·exact List.mem_cons.mpr (.inl e)
    ·exact List.mem_cons_of_mem _ (i2 g e)
theorem length_putF (f:Str) (v:V):∀ fs:List (Str × V),(putF f v fs).length<=fs.length+1
 | []=>by simp [putF]
 | (k,x)::r=>by
  have ih:=length_putF f v r
  rw [show putF f v ((k,x)::r)=(if k=f then (k,v)::r else (k,x)::putF f v r) from rfl]
  by_cases hk:k=f
  ·rw [if_pos hk,List.length_cons,List.length_cons];omega
  ·rw [if_neg hk,List.length_cons,List.length_cons];omega
theorem RelO.some_of {v:V} {o:Option Value} (r:RelO (some v) o):∃ u,o=some u/\RelV v u:=by
 cases o with
 | none=>exact (show False from r).elim
 | some u=>exact ⟨u,rfl,r⟩
theorem RelO.none_of {o:Option Value} (r:RelO none o):o=none:=by
 cases o with
 | none=>rfl
 | some u=>exact (show False from r).elim
theorem handed_of {v:V} {u:Value} (r:RelV v u):PySem.W.handedIn u=true:=by
 cases v with
 | non=>cases (show u=Value.none from r);rfl
 | bl b=>cases (show u=Value.bool b from r);rfl
 | int i=>obtain ⟨t,e⟩:=(show ∃ t,u=Value.int i t from r);cases e;rfl
 | str x=>obtain ⟨t,e⟩:=(show ∃ t,u=Value.str x t from r);cases e;rfl
 | byt b=>obtain ⟨t,e⟩:=(show ∃ t,u=Value.bytes b t from r);cases e;rfl
 | flt b=>obtain ⟨t,e⟩:=(show ∃ t,u=Value.float b t from r);cases e;rfl
 | ref a=>cases (show u=Value.ref a from r);rfl
 | ty n=>cases (show u=Value.type n from r);rfl
section
variable {P:Program} {w:World} {H H':Hp} {h h':Heap} {a C dx:Addr} {fs fs':List (Str × V)}
theorem ins_get (hok:HOk P w H h) (e:H a=some (.ins C dx fs)):∃ mA,ObjM h a dx C mA/\(∀ f,RelO (fs.lookup f) (mA f))/\PySem.Within mA (fs.map (·.1))/\fs.length<=1000/\H dx=some (.own a):=by
 obtain ⟨d,z,ne,ob,mA,n,r,q⟩:=(show ObjOk P w H h a (.ins C dx fs) from hok a _ e)
 exact ⟨mA,⟨ob,n,ne⟩,r,q,z,d⟩
end
structure Cls (K:PySem.W.Frag) (C:Addr):Prop where
 pg:PySem.W.plainGet K C Str.empty=true
 hd:PySem.W.hasDictIn K C=true
 po:PySem.W.plainOver K C=true
 sa:PySem.W.findIn K (.ref C) "__setattr__" = some (some (.builtin "object.__setattr__"))
theorem Cls.get {K:PySem.W.Frag} {C:Addr} (c:Cls K C) (f:Str):PySem.W.plainGet K C f=true:=c.pg
def NoAttr (K:PySem.W.Frag) (C:Addr) (f:Str):Prop:=PySem.W.findIn K (.ref C) f=some none
theorem NoAttr.taker {K:PySem.W.Frag} {C:Addr} {f:Str} (n:NoAttr K C f):PySem.W.takerIn K C f=some none:=by
 unfold PySem.W.takerIn
 rw [show PySem.W.findIn K (.ref C) f=some none from n]
 rfl
structure Meth (K:PySem.W.Frag) (C:Addr) (m:Str) (f:Addr):Prop where
 at_:PySem.W.findIn K (.ref C) m=some (some (.ref f))
 fn:PySem.W.isFn K (.ref f)=true
 kp:PySem.W.keepIn K (.ref f)=true
section
variable {X:Cx} {pins:List (Addr × Obj)} {σ:St} {H:Hp} {s:Shared} {a C dx:Addr} {fs:List (Str × V)} {f:Str} {v:V} {A:Around} {E:Value->Shared->Prop}
theorem getattr_ok {b:Bool} {Q:Value->Shared->Prop} (I:Inv X pins σ H s) (e:H a=some (.ins C dx fs)) (c:Cls X.K C) (n:NoAttr X.K C f) (l:fs.lookup f=some v)
  (h:∀ u s',Inv X pins σ H s'->RelV v u->Q u s'):wpAny (model X.prog X.w) A (getAttr (.ref a) f b) Q E s:=by
 obtain ⟨mA,O,r,_,_,_⟩:=ins_get I.hok e
 obtain ⟨u,hu,ru⟩:=RelO.some_of (v:=v) (o:=mA f) (by rw [<- l];exact r f)
 exact get_map I.kIn O (c.get f) c.hd n hu (handed_of ru) (h u _ (I.tok _) ru)
theorem getmeth_ok {m:Str} {g:Addr} {pl:Sem Bool} {Q:Value × List Value->Shared->Prop} (I:Inv X pins σ H s) (e:H a=some (.ins C dx fs)) (c:Cls X.K C) (k:Meth X.K C m g) (l:fs.lookup m=none)
  (h:Q (.ref g,[.ref a]) s):wpAny (model X.prog X.w) A (getMethod (.ref a) m pl) Q E s:=by
 obtain ⟨mA,O,r,_,_,_⟩:=ins_get I.hok e
 have hn:mA m=none:=RelO.none_of (by rw [<- l];exact r m)
 exact get_meth I.kIn O (c.get m) k.at_ k.fn hn h
theorem setattr_ok {y:V} {u:Value} {Q:Unit->Shared->Prop} (I:Inv X pins σ H s) (e:H a=some (.ins C dx fs)) (c:Cls X.K C) (n:NoAttr X.K C f) (hl:fs.length < 1000) (ry:RelV y u)
  (h:∀ s',Inv X pins σ (upd H a (.ins C dx (putF f y fs))) s'->Q () s'):wpAny (model X.prog X.w) A (setAttr (.ref a) f u) Q E s:=by
 obtain ⟨mA,O,r,wi,_,ho⟩:=ins_get I.hok e
 have hz:(fs.map (·.1)).length<=sizeLine:=by rw [List.length_map,sizeLine_eq];omega
 refine set_map I.kIn O c.sa c.po n.taker c.hd wi hz fun h' O' sb=>h _ ?_
 have hd:∃ o,h'.get? dx=some o:=let ⟨o,_,_,e',_⟩:=O'.ns;⟨o,e'⟩
 refine I.write (x:=a) (e:=dx) (by rw [e];exact True.intro) (.inr ho) (fun b q hb z=>(sb.2 b hb).trans z) hd ?_
 refine ⟨by rw [upd_ne O.ne];exact ho,?_,O.ne,O'.obj,_,O'.ns,fun g=>?_,fun g hg=>?_⟩
 ·have:=length_putF f y fs;omega
 ·show RelO ((putF f y fs).lookup g) (if g=f then some u else mA g)
  rw [lookup_putF]
  by_cases q:g=f
  ·rw [if_pos q,if_pos q];exact ry
  ·rw [if_neg q,if_neg q];exact r g
 ·by_cases q:g=f
  ·rw [q];exact (keys_putF f y fs).1
  ·refine (keys_putF f y fs).2 g (wi g fun z=>hg ?_)
   show (if g=f then some u else mA g)=none
   rw [if_neg q];exact z
theorem Inv.made (I:Inv X pins σ H s):Inv X pins σ (upd (upd H s.heap.objs.size (.own (s.heap.objs.size+1))) (s.heap.objs.size+1) (.ins C s.heap.objs.size []))
  { s with heap:=(s.heap.push PySem.W.emptyDict).push (PySem.W.instObj C s.heap.objs.size) }:=by
 have e1:(s.heap.push PySem.W.emptyDict).get? s.heap.objs.size=some PySem.W.emptyDict:=Heap.get?_push_size s.heap rfl
 have e2:((s.heap.push PySem.W.emptyDict).push (PySem.W.instObj C s.heap.objs.size)).get? (s.heap.objs.size+1)=some (PySem.W.instObj C s.heap.objs.size):=by
  have:=Heap.get?_push_size (s.heap.push PySem.W.emptyDict) (o:=PySem.W.instObj C s.heap.objs.size) rfl
  rwa [Heap.size_push] at this
 have e3:(s.heap.push PySem.W.emptyDict).Ns s.heap.objs.size (fun _=>none):=⟨PySem.W.emptyDict,#[],_,e1,rfl,(fun e he=>absurd he (by simp)),fun _=>rfl⟩
 have I1:=I.laid (a:=s.heap.objs.size) (o:=.own (s.heap.objs.size+1)) (h':=s.heap.push PySem.W.emptyDict) (t':=s.toks) (fun b u q=>Heap.get?_push_of_some _ q) (Nat.le_refl _) ⟨_,e1⟩
 refine I1.laid (a:=s.heap.objs.size+1) (o:=.ins C s.heap.objs.size []) (t':=s.toks) (fun b u q=>Heap.get?_push_of_some _ q) (Nat.le_of_eq (Heap.size_push _ _)) ?_
 have ne:s.heap.objs.size≠s.heap.objs.size+1:=Nat.ne_of_lt (Nat.lt_succ_self _)
 refine ⟨by rw [upd_ne ne,upd_same],Nat.zero_le _,ne,e2,fun _=>none,(Heap.Ns1.of_empty e3).at fun o q=>Heap.get?_push_of_some _ q,fun _=>True.intro,fun y hy=>absurd rfl hy⟩
theorem attr_of {prog:Program} {w:World} {env:Env} {e:Expr} {f:Str} {pos:Pos} {s:Shared} {Q:Value->Shared->Prop} (hb:attributeBase e f env (eval e env)=eval e env)
  (h:wpAny (model prog w) A (eval e env) (fun o s₁=>wpAny (model prog w) A (getAttr o f true) Q E s₁) E s):wpAny (model prog w) A (eval (.Attribute e f pos) env) Q E s :=
 Attribute_any_ h (by rw [arm_eval_Attribute,hb])
end
def tFld (K:PySem.W.Frag) (ta:TE) (f:Str):TE:=fun σ H Q=>ta σ H fun x H1=>∃ a C dx fs v,x=.ref a/\H1 a=some (.ins C dx fs)/\Cls K C/\NoAttr K C f/\fs.lookup f=some v/\Q v H1
def sFld (K:PySem.W.Frag) (ta tv:TE) (f:Str):TS:=fun D σ H=>tv σ H fun y H1=>ta σ H1 fun x H2=>∃ a C dx fs,x=.ref a/\H2 a=some (.ins C dx fs)/\Cls K C/\NoAttr K C f/\fs.length < 1000 /\
 D.nx σ (upd H2 a (.ins C dx (putF f y fs)))
section
variable {X:Cx} {o e value:Expr} {f:Str} {pos pos' tpos:Pos} {ta tv:TE}
theorem pe_fld (he:PE X e ta) (hb:attributeBase e f X.env (eval e X.env)=eval e X.env):PE X (.Attribute e f pos) (tFld X.K ta f):=by
 intro pins s σ H Q I h
 refine attr_of hb (thn (he pins s σ H _ I h) fun u s1 ⟨x,H1,I1,rx,a,C,dx,fs,v,ex,ea,c,n,l,q⟩=>?_)
 subst ex
 obtain rfl:u=Value.ref a:=rx
 exact getattr_ok I1 ea c n l fun u' s2 I2 ru=>⟨v,H1,I2,ru,q⟩
theorem ps_fld (ha:PE X o ta) (hv:PE X value tv) (hs:swapsWith value (some (.Attribute o f pos')) pos.line X.env=pure false):PS X (.Assign [.Attribute o f pos'] value pos) (sFld X.K ta tv f):=by
 intro pins s σ H D I h
 refine plainObj_wpAny_Assign_Attribute (thn (hv pins s σ H _ I h) fun u s1 ⟨y,H1,I1,ry,q⟩=>thn (ha pins s1 σ H1 _ I1 q) fun ov s2 ⟨x,H2,I2,rx,a,C,dx,fs,ex,ea,c,n,l,q2⟩=>?_) hs
 subst ex
 obtain rfl:ov=Value.ref a:=rx
 exact setattr_ok I2 ea c n l ry fun s3 I3=>⟨σ,_,I3,q2⟩
end
section
variable {X:Cx} {pins:List (Addr × Obj)} {σ:St} {H:Hp} {s:Shared} {A:Around} {E:Value->Shared->Prop} {Q:Value->Shared->Prop} {c:Value} {b:Bool}
inductive TyOf (K:PySem.W.Frag) (H:Hp):V->Value->Prop where
 | non:TyOf K H .non (.type "NoneType")
 | bl (x:Bool):TyOf K H (.bl x) (.type "bool")
 | int (i:Int):TyOf K H (.int i) (.type "int")
 | str (x:Str):TyOf K H (.str x) (.type "str")
 | flt (x:UInt64):TyOf K H (.flt x) (.type "float")
 | lst {a:Addr} {xs:List V} (e:H a=some (.lst xs)):TyOf K H (.ref a) (.type "list")
 | frz {a:Addr} {o:Obj} {xs:List V} (e:H a=some (.frz o (.lst xs))):TyOf K H (.ref a) (.type "list")
 | tup {a:Addr} {xs:List V} (e:H a=some (.tup xs)):TyOf K H (.ref a) (.type "tuple")
 | dK {a:Addr} {kvs:List (Key × V)} (e:H a=some (.dK kvs)):TyOf K H (.ref a) (.type "dict")
 | dT {a:Addr} {kvs:List (List Key × V)} (e:H a=some (.dT kvs)):TyOf K H (.ref a) (.type "dict")
 | ins {a C dx:Addr} {fs:List (Str × V)} (e:H a=some (.ins C dx fs)) (cl:Cls K C) (ha:PySem.W.findIn K (.ref C) "__class__" = some (some (.builtin "object.__class__")))
   (hn:PySem.W.specialIn K (.builtin "object.__class__") "__get__" = some (some (.builtin "getset_descriptor.__get__"))) (htk:PySem.W.takesIn K (.builtin "object.__class__")=some true)
   (hm:PySem.W.mroIn K C (.type "object")=some true):TyOf K H (.ref a) (.ref C)
theorem isinst_ok {x:V} {u t:Value} (I:Inv X pins σ H s) (rx:RelV x u) (ty:TyOf X.K H x t) (e:PySem.W.kitOne X.K t c=some b) (h:∀ tk,Q (.bool b) { s with toks:=tk }) :
  wpAny (model X.prog X.w) A (call (.builtin "isinstance") [u,c]) Q E s:=by
 cases ty with
 | non=>cases (show u=Value.none from rx);exact PySem.W.kia_one PySem.W.kitx_none I.kIn True.intro e (fun z=>nomatch z) h
 | bl y=>cases (show u=Value.bool y from rx);exact PySem.W.kia_one PySem.W.kitx_bool I.kIn True.intro e (fun z=>nomatch z) h
 | int i=>obtain ⟨t,q⟩:=(show ∃ t,u=Value.int i t from rx);cases q;exact PySem.W.kia_one PySem.W.kitx_int I.kIn True.intro e (fun z=>nomatch z) h
 | str y=>obtain ⟨t,q⟩:=(show ∃ t,u=Value.str y t from rx);cases q;exact PySem.W.kia_one PySem.W.kitx_str I.kIn True.intro e (fun z=>nomatch z) h
 | flt y=>obtain ⟨t,q⟩:=(show ∃ t,u=Value.float y t from rx);cases q;exact PySem.W.kia_one PySem.W.kitx_float I.kIn True.intro e (fun z=>nomatch z) h
 | @lst a xs ea =>
  cases (show u=Value.ref a from rx)
  obtain ⟨_,_,n,_,h1⟩:=(show ObjOk X.prog X.w H s.heap a (.lst xs) from I.hok a _ ea)
  exact PySem.W.kia_one PySem.W.kitx_list I.kIn ⟨_,h1,rfl⟩ e (fun z=>nomatch z) h
 | @frz a ob xs ea =>
  cases (show u=Value.ref a from rx)
  obtain ⟨_,_,_,n,_,h1⟩:=(show ObjOk X.prog X.w H s.heap a (.frz ob (.lst xs)) from I.hok a _ ea)
  exact PySem.W.kia_one PySem.W.kitx_list I.kIn ⟨_,h1,rfl⟩ e (fun z=>nomatch z) h
 | @tup a xs ea =>
  cases (show u=Value.ref a from rx)
  obtain ⟨_,_,_,p⟩:=(show ObjOk X.prog X.w H s.heap a (.tup xs) from I.hok a _ ea)
  obtain ⟨o,h1,h2,_⟩:=p
  exact PySem.W.kia_one PySem.W.kitx_tuple I.kIn ⟨o,h1,h2⟩ e (fun z=>nomatch z) h
 | @dK a kvs ea =>
  cases (show u=Value.ref a from rx)
  obtain ⟨_,_,vs,_,p⟩:=(show ObjOk X.prog X.w H s.heap a (.dK kvs) from I.hok a _ ea)
  obtain ⟨o,es,ep,h1,h2,_⟩:=p
  exact PySem.W.kia_one PySem.W.kitx_dict I.kIn ⟨o,h1,h2.1⟩ e (fun z=>nomatch z) h
 | @dT a kvs ea =>
  cases (show u=Value.ref a from rx)
  obtain ⟨_,_,xs,_,o,es,ep,h1,h2,_⟩:=(show ObjOk X.prog X.w H s.heap a (.dT kvs) from I.hok a _ ea)
  exact PySem.W.kia_one PySem.W.kitx_dict I.kIn ⟨o,h1,h2.1⟩ e (fun z=>nomatch z) h
 | @ins a C dx fs ea cl ha hn htk hm =>
  cases (show u=Value.ref a from rx)
  obtain ⟨mA,O,_⟩:=ins_get I.hok ea
  obtain ⟨od,J,_⟩:=O.look
  exact PySem.W.kia_one (PySem.W.kitx_own (cl.get _) cl.hd ha hn htk hm) I.kIn J e (fun z=>nomatch z) h
end
structure Room (k:Nat) (A:Around):Prop where
 hd:A.handled=none
 dp:A.depth+3 * k+5 < recursionLimit
 un:A.units+16 * k+200 < cLine
 gd:A.guards=some []
theorem Room.mono {j k:Nat} {A:Around} (r:Room k A) (h:j<=k):Room j A:=⟨r.hd,by have:=r.dp;omega,by have:=r.un;omega,r.gd⟩
theorem Room.deeper {k:Nat} {A:Around} (r:Room (k+1) A) (env:Env):Room k (A.deeper env) :=
 ⟨r.hd,by have:=r.dp;show A.depth+1+3 * k+5 < _;omega,by have:=r.un;show A.units+3+16 * k+200 < _;omega,r.gd⟩
theorem make_guards {A:Around} {C:Addr} {us:List Value} {kw:List (Str × Value)} (h:A.guards=some []):(A.under (.builtin "type.__call__" ⟨.ref C::us,kw⟩)).guards=some []:=by
 have e:(Code.builtin "type.__call__" ⟨.ref C::us,kw⟩).isGuard=false:=by first | rfl | simp [Code.isGuard,guardIds]
 have q:∀ c:Code,(A.under c).guards=pushGuards c.guards A.guards:=fun _=>rfl
 rw [q,h,Code.guards,e]
 rfl
theorem make_depth {A:Around} {C:Addr} {us:List Value} {kw:List (Str × Value)}:(A.under (.builtin "type.__call__" ⟨.ref C::us,kw⟩)).depth=A.depth+1:=by
 first | rfl | simp [Around.under,Code.weight,Code.isCreation,Code.isGuard,Code.isCaller,Code.frames,Code.isFrame,guardIds]
theorem make_units {A:Around} {C:Addr} {us:List Value} {kw:List (Str × Value)}:(A.under (.builtin "type.__call__" ⟨.ref C::us,kw⟩)).units=A.units+1:=by
 first | rfl | simp [Around.under,Code.cUnits,Code.frames,Code.isFrame]
theorem Room.make {k:Nat} {A:Around} (r:Room (k+1) A) (C:Addr) (us:List Value) (kw:List (Str × Value)):Room k (A.under (.builtin "type.__call__" ⟨.ref C::us,kw⟩)) :=
 ⟨r.hd,by have:=r.dp;rw [make_depth];omega,by have:=r.un;rw [make_units];omega,make_guards r.gd⟩
theorem Room.depth {k:Nat} {A:Around} (r:Room k A):A.depth < recursionLimit:=by have:=r.dp;omega
theorem Room.units {k:Nat} {A:Around} (r:Room k A):A.units+64 < cLine:=by have:=r.un;omega
def tNil:TA:=fun _ H Q=>Q [] H
def tCons (ta:TE) (tr:TA):TA:=fun σ H Q=>ta σ H fun x H1=>tr σ H1 fun xs H2=>Q (x::xs) H2
section
variable {X:Cx} {e:Expr} {es:List Expr} {te:TE} {t:TA} {pos:Pos}
theorem pa_nil:PA X [] tNil:=fun _ _ _ _ H Q I h=>Calls.spliced_nil ⟨[],H,I,.nil,h⟩
theorem pa_cons (ha:PE X e te) (hr:PA X es t) (hs:starEach (e::es) X.env=(false,eval e X.env)::starEach es X.env:=by rfl):PA X (e::es) (tCons te t):=by
 intro pos pins s σ H Q I h
 rw [hs]
 show wpAny _ _ (spliced ((false,eval e X.env)::backTo pos (starEach es X.env))) _ _ s
 refine Calls.spliced_cons (thn (ha pins s σ H _ I h) fun u s1 ⟨x,H1,I1,r1,q1⟩=>?_)
 exact thn (hr pos pins s1 σ H1 _ I1 q1) fun us s2 ⟨xs,H2,I2,r2,q2⟩=>⟨x::xs,H2,I2,.cons r1 r2,q2⟩
def tTup (t:TA):TE:=fun σ H Q=>t σ H fun xs H1=>xs.length<=sizeLine/\∀ p,H1 p=none->Q (.ref p) (upd H1 p (.tup xs))
def tLst (t:TA):TE:=fun σ H Q=>t σ H fun xs H1=>xs.length<=sizeLine/\∀ p,H1 p=none->Q (.ref p) (upd H1 p (.lst xs))
theorem pe_tup {x1} (h:PA X es t):PE X (.Tuple es x1 pos) (tTup t):=by
 intro pins s σ H Q I hq
 refine wpAny_Tuple_spliced (thn (h pos pins s σ H _ I hq) fun us s1 ⟨xs,H1,I1,r,z,q⟩=>⟨by rw [<- r.length];exact z,?_⟩)
 have hf:H1 s1.heap.objs.size=none:=I1.hok.fresh (Nat.le_refl _)
 refine ⟨.ref s1.heap.objs.size,upd H1 s1.heap.objs.size (.tup xs),I1.laid (t':=s1.toks) (fun b u e=>Heap.get?_push_of_some _ e) (Nat.le_refl _) ?_,rfl,q _ hf⟩
 exact ⟨z,us,r,⟨_,Heap.get?_push_size _ rfl,rfl,_,rfl⟩⟩
theorem pe_lst (h:PA X es t):PE X (.List es pos) (tLst t):=by
 intro pins s σ H Q I hq
 refine wpAny_List_spliced (thn (h pos pins s σ H _ I hq) fun us s1 ⟨xs,H1,I1,r,z,q⟩=>⟨by rw [<- r.length];exact z,?_⟩)
 have hf:H1 s1.heap.objs.size=none:=I1.hok.fresh (Nat.le_refl _)
 refine ⟨.ref s1.heap.objs.size,upd H1 s1.heap.objs.size (.lst xs),I1.laid (t':=s1.toks) (fun b u e=>Heap.get?_push_of_some _ e) (Nat.le_refl _) ?_,rfl,q _ hf⟩
 exact ⟨z,us,0,r,Heap.get?_push_size _ rfl⟩
end
abbrev Sp:=List V->Hp->VK->XK->Prop
abbrev CXT:=List Env->Hp->Shared->XK->Value->Shared->Prop
structure Env0 (P:Program) (w:World) (K:PySem.W.Frag) (mg:Str->Option Value) (base:Heap) (A:Around) (outer:List Env) (s:Shared) (H:Hp):Prop where
 frames:A.frames=some outer
 mod:Mod K mg base
 bs:∀ b o,base.get? b=some o->s.heap.get? b=some o/\H b=none
 bsz:base.objs.size<=s.heap.objs.size
 funs:s.heap.FunFrames base outer
 frf:∀ b∈frs outer,H b=none
 hok:HOk P w H s.heap
 bare:AllBare s.gens
def CE (outer:List Env) (P:Program) (w:World) (H:Hp) (s:Shared) (Q:VK) (u:Value) (s':Shared):Prop :=
 ∃ v H',s'.os=s.os/\AllBare s'.gens/\Un (frs outer) [] H H' s.heap s'.heap/\HOk P w H' s'.heap/\RelV v u/\Q v H'
def CR (CX:CXT) (outer:List Env) (P:Program) (w:World) (H:Hp) (s:Shared) (Q:VK) (E:XK) (r:Result) (s':Shared):Prop :=
 match r with
 | .ok (.ret u)=>CE outer P w H s Q u s'
 | .ok _=>False
 | .error e=>CX outer H s E e s'
structure FnOk (P:Program) (w:World) (K:PySem.W.Frag) (mg:Str->Option Value) (base:Heap) (CX:CXT) (k:Nat) (f:Addr) (fd:FuncData) (ps:List Str) (sp:Sp):Prop where
 len:∀ vs H Q E,sp vs H Q E->vs.length=ps.length
 run:∀ (A:Around) (outer:List Env) (s:Shared) (H:Hp) (args:Args) (us:List Value) (vs:List V) (Q:VK) (E:XK),Room k A->Env0 P w K mg base A outer s H->BindsTo s fd args (ps.zip us)->Vals vs us->sp vs H Q E ->
  codeAny (model P w) A (.call (.ref f) args) (CR CX outer P w H s Q E) s
theorem Env0.make {P:Program} {w:World} {K:PySem.W.Frag} {mg:Str->Option Value} {base:Heap} {A:Around} {outer:List Env} {s:Shared} {H:Hp} (e:Env0 P w K mg base A outer s H) (C:Addr) (us:List Value) (kw:List (Str × Value)) :
  Env0 P w K mg base (A.under (.builtin "type.__call__" ⟨.ref C::us,kw⟩)) outer s H:=⟨by first | exact e.frames | (simpa [Around.under,Code.envs,Code.isFrame,pushEnvs] using e.frames),e.mod,e.bs,e.bsz,e.funs,e.frf,e.hok,e.bare⟩
section
variable {X:Cx} {pins:List (Addr × Obj)} {σ:St} {H:Hp} {s s':Shared}
theorem Inv.env0 (I:Inv X pins σ H s):Env0 X.prog X.w X.K X.mg X.base X.A X.stack s H :=
 ⟨I.ok.frames,I.ok.mod,I.bs,Nat.le_trans I.ok.bsz I.sz,I.stack,I.stkFree,I.hok,I.bare⟩
theorem Inv.after {Q:VK} {u:Value} (I:Inv X pins σ H s) (h:CE X.stack X.prog X.w H s Q u s'):EP X pins σ Q u s':=by
 obtain ⟨v,H',os,bare,un,hok,r,q⟩:=h
 obtain ⟨hh,g,d,t,os'⟩:=s'
 obtain rfl:os'=s.os:=os
 exact ⟨v,H',I.call (h':=hh) (g':=g) (d':=d) (t':=t) (ch:=[]) un hok bare (fun b z=>absurd z (by simp)),r,q⟩
end
def tCall (sp:Sp) (dvs:List V) (E:XK) (t:TA):TE:=fun σ H Q=>t σ H fun vs H1=>sp (vs++dvs) H1 Q E
def tMeth (C:Addr) (m:Str) (sp:Sp) (dvs:List V) (E:XK) (ta:TE) (t:TA):TE:=fun σ H Q=>ta σ H fun x H1=>∃ a dx fs,x=.ref a/\H1 a=some (.ins C dx fs)/\fs.lookup m=none /\
 t σ H1 fun vs H2=>sp (x::(vs++dvs)) H2 Q E
def tMake (C:Addr) (sp:Sp) (dvs:List V) (E:XK) (t:TA):TE:=fun σ H Q=>t σ H fun vs H1=>∀ x dx,H1 x=none->H1 dx=none->dx≠x ->
 sp (.ref x::(vs++dvs)) (upd (upd H1 dx (.own x)) x (.ins C dx [])) (fun v H2=>v=.non/\Q (.ref x) H2) E
def Binds (K:PySem.W.Frag) (fd:FuncData) (ps:List Str) (ds:List Value):Prop :=
 ∀ (s:Shared) (us:List Value),K.In s.heap->(us++ds).length=ps.length->BindsTo s fd ⟨us,[]⟩ (ps.zip (us++ds))
theorem Binds.all {K:PySem.W.Frag} {fd:FuncData} {ps:List Str} (h:∀ us:List Value,us.length=ps.length->bindArgs fd ⟨us,[]⟩=pure (ps.zip us)):Binds K fd ps []:=fun s us _ hl=>by
 rw [List.append_nil] at hl ⊢
 exact .of_eq (h us hl)
def Passes (CX:CXT) (X:Cx) (E:XK):Prop:=∀ (pins:List (Addr × Obj)) (σ:St) (H:Hp) (s:Shared) (e:Value) (s':Shared),Inv X pins σ H s->CX X.stack H s E e s'->X.xe e s'
section
variable {X:Cx} {CX:CXT} {k:Nat} {f C:Addr} {fd:FuncData} {ps:List Str} {sp:Sp} {dvs:List V} {ds:List Value} {E:XK} {x m:Str} {p pos apos:Pos} {e o:Expr} {es:List Expr} {ta:TE} {t:TA}
theorem run_fn {pins:List (Addr × Obj)} {σ:St} {H:Hp} {s:Shared} {Q:VK} {us:List Value} {vs:List V} (F:FnOk X.prog X.w X.K X.mg X.base CX k f fd ps sp) (hr:Room k X.A) (hb:Binds X.K fd ps ds) (hd:Vals dvs ds) (hx:Passes CX X E)
  (I:Inv X pins σ H s) (r:Vals vs us) (h:sp (vs++dvs) H Q E):wpAny (model X.prog X.w) X.A (call (.ref f) us) (EP X pins σ Q) X.xe s:=by
 have r2:Vals (vs++dvs) (us++ds):=r.append hd
 have hl:(us++ds).length=ps.length:=by rw [<- r2.length];exact F.len _ _ _ _ h
 refine wpAny_call (codeAny_mono (F.run X.A X.stack s H ⟨us,[]⟩ (us++ds) (vs++dvs) Q E hr I.env0 (hb s us I.kIn hl) r2 h) fun r s' hq=>?_)
 cases r with
 | error e=>exact hx pins σ H s e s' I hq
 | ok fl =>
  cases fl with
  | ret u=>exact I.after hq
  | next=>exact False.elim hq
  | brk=>exact False.elim hq
  | cont=>exact False.elim hq
theorem pe_call (F:FnOk X.prog X.w X.K X.mg X.base CX k f fd ps sp) (hr:Room k X.A) (hg:Gl X x) (hm:X.mg x=some (.ref f)) (hk:PySem.W.keepIn X.K (.ref f)=true) (hb:Binds X.K fd ps ds) (hd:Vals dvs ds) (hx:Passes CX X E)
  (ha:PA X (e::es) t) (hdb:(x == ("__debug__" : Str))=false:=by decide) (he:starEach (e::es) X.env=(false,eval e X.env)::starEach es X.env:=by rfl) (hpl:(backTo pos (starEach es X.env)).any (·.1)=false:=by rfl) :
  PE X (.Call (.Name x p) (e::es) [] pos) (tCall sp dvs E t):=by
 intro pins s σ H Q I h
 refine wpAny_Call_Name_kw (ld_glob I hg hm ?_ hdb)
 refine PySem.W.callWith_K (h₀:=X.base) I.ok.mod.kin hk (thn (ha pos pins s σ H _ I h) fun us s1 ⟨vs,H1,I1,r,q⟩=>⟨I1.kIn,?_⟩) he hpl
 exact run_fn F hr hb hd hx I1 r q
theorem pe_meth {pl:Sem Bool} (he:PE X o ta) (c:Cls X.K C) (hm:Meth X.K C m f) (F:FnOk X.prog X.w X.K X.mg X.base CX k f fd ps sp) (hr:Room k X.A) (hb:Binds X.K fd ps ds) (hd:Vals dvs ds) (hx:Passes CX X E) (ha:PA X (e::es) t)
  (hst:starEach (e::es) X.env=(false,eval e X.env)::starEach es X.env:=by rfl) (hpl:(backTo pos (starEach es X.env)).any (·.1)=false:=by rfl)
  (ht:eval (.Call (.Attribute o m apos) (e::es) [] pos) X.env=(do
   let ov <- eval o X.env
   standAt apos.atName
   let (f,first) <- holding [ov] (getMethod ov m pl)
   callWith pos f first (backTo pos (starEach (e::es) X.env)) (backToKw pos (keywordEach [] X.env))):=by rfl) :
  PE X (.Call (.Attribute o m apos) (e::es) [] pos) (tMeth C m sp dvs E ta t):=by
 intro pins s σ H Q I h
 refine PySem.W.methodCall_KW (pl:=pl) (thn (he pins s σ H _ I h) fun u s1 ⟨x,H1,I1,rx,a,dx,fs,ex,ea,l,q⟩=>?_) ht
 subst ex
 obtain rfl:u=Value.ref a:=rx
 refine getmeth_ok I1 ea c hm l ?_
 refine PySem.W.callWith_K (first:=[.ref a]) (h₀:=X.base) I.ok.mod.kin hm.kp (thn (ha pos pins s1 σ H1 _ I1 q) fun us s2 ⟨vs,H2,I2,r,q2⟩=>⟨I2.kIn,?_⟩) hst hpl
 exact run_fn (us:=.ref a::us) (vs:=.ref a::vs) F hr hb hd hx I2 (.cons rfl r) q2
theorem pe_meth0 {pl:Sem Bool} (he:PE X o ta) (c:Cls X.K C) (hm:Meth X.K C m f) (F:FnOk X.prog X.w X.K X.mg X.base CX k f fd ps sp) (hr:Room k X.A) (hb:Binds X.K fd ps ds) (hd:Vals dvs ds) (hx:Passes CX X E)
  (ht:eval (.Call (.Attribute o m apos) [] [] pos) X.env=(do
   let ov <- eval o X.env
   standAt apos.atName
   let (f,first) <- holding [ov] (getMethod ov m pl)
   callWith pos f first (backTo pos (starEach [] X.env)) (backToKw pos (keywordEach [] X.env))):=by rfl) :
  PE X (.Call (.Attribute o m apos) [] [] pos) (tMeth C m sp dvs E ta tNil):=by
 intro pins s σ H Q I h
 refine PySem.W.methodCall_KW (pl:=pl) (thn (he pins s σ H _ I h) fun u s1 ⟨x,H1,I1,rx,a,dx,fs,ex,ea,l,q⟩=>?_) ht
 subst ex
 obtain rfl:u=Value.ref a:=rx
 refine getmeth_ok I1 ea c hm l ?_
 exact PySem.W.callWith_K0 (first:=[.ref a]) I1.kIn hm.kp (run_fn (us:=[.ref a]) (vs:=[.ref a]) F hr hb hd hx I1 (.cons rfl .nil) q)
structure Mk (K:PySem.W.Frag) (C f:Addr):Prop where
 makes:PySem.W.makesIn K C=true
 init:PySem.W.findIn K (.ref C) "__init__" = some (some (.ref f))
 fn:PySem.W.isFn K (.ref f)=true
 kp:PySem.W.keepIn K (.ref C)=true
theorem run_make {pins:List (Addr × Obj)} {σ:St} {H:Hp} {s:Shared} {Q:VK} {us:List Value} {vs:List V} (M:Mk X.K C f) (F:FnOk X.prog X.w X.K X.mg X.base CX k f fd ps sp) (hr:Room (k+1) X.A) (hb:Binds X.K fd ps ds) (hd:Vals dvs ds)
  (hx:Passes CX X E) (I:Inv X pins σ H s) (r:Vals vs us)
  (h:∀ x dx,H x=none->H dx=none->dx≠x->sp (.ref x::(vs++dvs)) (upd (upd H dx (.own x)) x (.ins C dx [])) (fun v H2=>v=.non/\Q (.ref x) H2) E) :
  wpAny (model X.prog X.w) X.A (call (.ref C) us) (EP X pins σ Q) X.xe s:=by
 have hq:=h (s.heap.objs.size+1) s.heap.objs.size (I.hok.fresh (Nat.le_succ _)) (I.hok.fresh (Nat.le_refl _)) (Nat.ne_of_lt (Nat.lt_succ_self _))
 have I2:=Inv.made (C:=C) I
 have r2:Vals (V.ref (s.heap.objs.size+1)::(vs++dvs)) (Value.ref (s.heap.objs.size+1)::(us++ds)):=.cons rfl (r.append hd)
 have hl:(Value.ref (s.heap.objs.size+1)::us++ds).length=ps.length:=by
  have e:=r2.length
  rw [F.len _ _ _ _ hq] at e
  exact e.symm
 refine wpAny_call (make_map (f:=f) I.kIn M.makes M.init (beq_iff_eq.mp M.fn) (codeAny_mono (F.run _ X.stack _ _ ⟨Value.ref (s.heap.objs.size+1)::us,[]⟩ (Value.ref (s.heap.objs.size+1)::(us++ds)) _ _ E (hr.make C us [])
  (I2.env0.make C us []) (hb _ (Value.ref (s.heap.objs.size+1)::us) I2.kIn hl) r2 hq) fun r s' hq'=>?_))
 cases r with
 | error e=>exact hx pins σ _ _ e s' I2 hq'
 | ok fl =>
  cases fl with
  | ret u =>
   obtain ⟨v,H',I3,rv,ev,q3⟩:=I2.after hq'
   subst ev
   exact ⟨rv,⟨V.ref (s.heap.objs.size+1),H',I3,rfl,q3⟩⟩
  | next=>exact False.elim hq'
  | brk=>exact False.elim hq'
  | cont=>exact False.elim hq'
theorem pe_make (M:Mk X.K C f) (F:FnOk X.prog X.w X.K X.mg X.base CX k f fd ps sp) (hr:Room (k+1) X.A) (hg:Gl X x) (hm:X.mg x=some (.ref C)) (hb:Binds X.K fd ps ds) (hd:Vals dvs ds) (hx:Passes CX X E)
  (ha:PA X (e::es) t) (hdb:(x == ("__debug__" : Str))=false:=by decide) (he:starEach (e::es) X.env=(false,eval e X.env)::starEach es X.env:=by rfl) (hpl:(backTo pos (starEach es X.env)).any (·.1)=false:=by rfl) :
  PE X (.Call (.Name x p) (e::es) [] pos) (tMake C sp dvs E t):=by
 intro pins s σ H Q I h
 refine wpAny_Call_Name_kw (ld_glob I hg hm ?_ hdb)
 refine PySem.W.callWith_K (h₀:=X.base) I.ok.mod.kin M.kp (thn (ha pos pins s σ H _ I h) fun us s1 ⟨vs,H1,I1,r,q⟩=>⟨I1.kIn,?_⟩) he hpl
 exact run_make M F hr hb hd hx I1 r q
theorem pe_make0 (M:Mk X.K C f) (F:FnOk X.prog X.w X.K X.mg X.base CX k f fd ps sp) (hr:Room (k+1) X.A) (hg:Gl X x) (hm:X.mg x=some (.ref C)) (hb:Binds X.K fd ps ds) (hd:Vals dvs ds) (hx:Passes CX X E)
  (hdb:(x == ("__debug__" : Str))=false:=by decide):PE X (.Call (.Name x p) [] [] pos) (tMake C sp dvs E tNil):=by
 intro pins s σ H Q I h
 refine wpAny_Call_Name_kw (ld_glob I hg hm ?_ hdb)
 exact PySem.W.callWith_K0 I.kIn M.kp (run_make (us:=[]) M F hr hb hd hx I .nil h)
end
def PK (X:Cx) (kws:List Keyword) (t:TA):Prop :=
 ∀ (pos:Pos) (pins:List (Addr × Obj)) (s:Shared) (σ:St) (H:Hp) (Q:List V->Hp->Prop),Inv X pins σ H s->t σ H Q->wpAny (model X.prog X.w) X.A (evalAll ((backToKw pos (keywordEach kws X.env)).map (·.2))) (AP X pins σ Q) X.xe s
section
variable {X:Cx} {CX:CXT} {k:Nat} {f C:Addr} {fd:FuncData} {ps ks:List Str} {sp:Sp} {E:XK} {x m:Str} {p pos apos kpos:Pos} {e o:Expr} {es:List Expr} {kws:List Keyword} {te ta:TE} {t tk:TA} {nm:Option Str}
theorem pk_nil:PK X [] tNil:=fun _ _ _ _ H Q I h=>wpAny_evalAll_nil ⟨[],H,I,.nil,h⟩
theorem pk_cons (ha:PE X e te) (hr:PK X kws t):PK X (⟨nm,e,kpos⟩::kws) (tCons te t):=by
 intro pos pins s σ H Q I h
 show wpAny _ _ (evalAll ((do let v <- eval e X.env;standAt pos;pure v)::(backToKw pos (keywordEach kws X.env)).map (·.2))) _ _ s
 refine wpAny_evalAll_cons (wpAny_bind (thn (ha pins s σ H _ I h) fun u s1 ⟨x,H1,I1,r1,q1⟩=>wpAny_bind (wpAny_standAt (wpAny_pure ?_))))
 exact thn (hr pos pins s1 σ H1 _ I1 q1) fun us s2 ⟨xs,H2,I2,r2,q2⟩=>⟨x::xs,H2,I2,.cons r1 r2,q2⟩
structure KBinds (K:PySem.W.Frag) (fd:FuncData) (ps ks:List Str) (g:List Value->List Value->List Value) (gV:List V->List V->List V):Prop where
 to:∀ (s:Shared) (us ws:List Value),K.In s.heap->(g us ws).length=ps.length->BindsTo s fd ⟨us,ks.zip ws⟩ (ps.zip (g us ws))
 rel:∀ {vs:List V} {us:List Value} {zs:List V} {ws:List Value},Vals vs us->Vals zs ws->Vals (gV vs zs) (g us ws)
def tCallK (sp:Sp) (gV:List V->List V->List V) (E:XK) (t tk:TA):TE:=fun σ H Q=>t σ H fun vs H1=>tk σ H1 fun zs H2=>sp (gV vs zs) H2 Q E
variable {g:List Value->List Value->List Value} {gV:List V->List V->List V}
theorem run_fnk {pins:List (Addr × Obj)} {σ:St} {H:Hp} {s:Shared} {Q:VK} {us ws:List Value} {vs zs:List V} (F:FnOk X.prog X.w X.K X.mg X.base CX k f fd ps sp) (hr:Room k X.A) (hb:KBinds X.K fd ps ks g gV) (hx:Passes CX X E)
  (I:Inv X pins σ H s) (r:Vals vs us) (rz:Vals zs ws) (h:sp (gV vs zs) H Q E):wpAny (model X.prog X.w) X.A (call (.ref f) us (ks.zip ws)) (EP X pins σ Q) X.xe s:=by
 have r2:=hb.rel r rz
 have hl:(g us ws).length=ps.length:=by rw [<- r2.length];exact F.len _ _ _ _ h
 refine wpAny_call (codeAny_mono (F.run X.A X.stack s H ⟨us,ks.zip ws⟩ (g us ws) (gV vs zs) Q E hr I.env0 (hb.to s us ws I.kIn hl) r2 h) fun r s' hq=>?_)
 cases r with
 | error e=>exact hx pins σ H s e s' I hq
 | ok fl =>
  cases fl with
  | ret u=>exact I.after hq
  | next=>exact False.elim hq
  | brk=>exact False.elim hq
  | cont=>exact False.elim hq
end
structure FnScope (N P:List Str) (sc:Scope):Prop where
 kind:sc.kind=.function
 co:sc.isCoroutine=false
 gen:sc.isGenerator=false
 nd:N.Nodup
 pre:N.take P.length=P
 par:∀ x∈P,sc.names.lookup x=some .local\/sc.names.lookup x=some .cell
 nofree:∀ y∈sc.names,y.2≠.free
theorem bindL_out {kindOf:Str->Option NameKind} {x:Str}:∀ {binds:List (Str × Value)} {m:Str->Option Value},(∀ v,(x,v) ∉ binds)->bindL kindOf binds m x=m x
 | [],_,_=>rfl
 | (n,v)::r,m,h=>by
  unfold bindL
  rw [bindL_out fun w hw=>h w (List.mem_cons_of_mem _ hw)]
  split
  ·have:x≠n:=by rintro rfl;exact h v List.mem_cons_self
   simp [this]
  ·rfl
theorem bindC_out {kindOf:Str->Option NameKind} {x:Str}:∀ {binds:List (Str × Value)} {m:Str->Option Value},(∀ v,(x,v) ∉ binds)->bindC kindOf binds m x=m x
 | [],_,_=>rfl
 | (n,v)::r,m,h=>by
  unfold bindC
  rw [bindC_out fun w hw=>h w (List.mem_cons_of_mem _ hw)]
  split
  ·rfl
  ·have:x≠n:=by rintro rfl;exact h v List.mem_cons_self
   simp [this]
theorem bindL_get {kindOf:Str->Option NameKind} {x:Str} {v:Value}:∀ {P:List Str} {vs:List Value} {i:Nat} {m:Str->Option Value},P.Nodup->P[i]?=some x->vs[i]?=some v->kindOf x=some .local ->
  bindL kindOf (P.zip vs) m x=some v
 | [],_,_,_,_,h,_,_=>by simp at h
 | _::_,[],_,_,_,_,h,_=>by simp at h
 | p::P,w::vs,0,m,nd,h1,h2,hk=>by
  simp at h1 h2;subst h1;subst h2
  show bindL kindOf ((p,w)::P.zip vs) m p=_
  unfold bindL
  rw [bindL_out fun v hv=>(List.nodup_cons.mp nd).1 (List.of_mem_zip hv).1,if_pos hk]
  simp
 | p::P,w::vs,i+1,m,nd,h1,h2,hk=>by
  show bindL kindOf ((p,w)::P.zip vs) m x=_
  unfold bindL
  exact bindL_get (i:=i) (List.nodup_cons.mp nd).2 (by simpa using h1) (by simpa using h2) hk
theorem bindC_get {kindOf:Str->Option NameKind} {x:Str} {v:Value}:∀ {P:List Str} {vs:List Value} {i:Nat} {m:Str->Option Value},P.Nodup->P[i]?=some x->vs[i]?=some v->kindOf x≠some .local ->
  bindC kindOf (P.zip vs) m x=some v
 | [],_,_,_,_,h,_,_=>by simp at h
 | _::_,[],_,_,_,_,h,_=>by simp at h
 | p::P,w::vs,0,m,nd,h1,h2,hk=>by
  simp at h1 h2;subst h1;subst h2
  show bindC kindOf ((p,w)::P.zip vs) m p=_
  unfold bindC
  rw [bindC_out fun v hv=>(List.nodup_cons.mp nd).1 (List.of_mem_zip hv).1,if_neg hk]
  simp
 | p::P,w::vs,i+1,m,nd,h1,h2,hk=>by
  show bindC kindOf ((p,w)::P.zip vs) m x=_
  unfold bindC
  exact bindC_get (i:=i) (List.nodup_cons.mp nd).2 (by simpa using h1) (by simpa using h2) hk
def start (N:List Str) (vs:List V):St:=vs.map some++List.replicate (N.length - vs.length) none
def cxOf (CX:CXT) (P:Program) (w:World) (K:PySem.W.Frag) (mg:Str->Option Value) (base:Heap) (N:List Str) (qual:Str) (scope:Scope) (f:Addr) (cd:Value) (A:Around) (outer:List Env) (s:Shared) (H:Hp) (E:XK):Cx where
 prog:=P
 w:=w
 K:=K
 mg:=mg
 base:=base
 A:=A.deeper (envOfC qual scope s.heap.objs.size f cd)
 N:=N
 s₀:=s
 H₀:=H
 env:=envOfC qual scope s.heap.objs.size f cd
 outer:=outer
 stack:=envOfC qual scope s.heap.objs.size f cd::outer
 ex:=[]
 calm:=true
 fn:=fun _=>true
 pn:=[]
 xe:=fun e s'=>wpAny (model P w) (A.deeper (envOfC qual scope s.heap.objs.size f cd)) (leaving (envOfC qual scope s.heap.objs.size f cd) e) (fun _ s''=>CX outer H s E e s'') (fun e' s''=>CX outer H s E e' s'') s'
theorem cell_has {sc:Scope} {n:Nat} {x:Str} (h:sc.names.lookup x=some .cell):∃ c,(cellsFrom n sc.names []).lookup x=some c:=by
 have q:=PySem.W.cellsFrom_some sc.names n [] (.inl h)
 exact Option.isSome_iff_exists.mp q
theorem inv_start {CX:CXT} {P:Program} {w:World} {K:PySem.W.Frag} {mg:Str->Option Value} {base:Heap} {N ps:List Str} {qual:Str} {scope:Scope} {f:Addr} {cd:Value} {A:Around} {outer:List Env} {s s1:Shared} {H:Hp} {E:XK} {us:List Value} {vs:List V}
  (S:FnScope N ps scope) (hd:A.handled=none) (e0:Env0 P w K mg base A outer s H) (hl:vs.length=ps.length) (r:Vals vs us)
  (x:InCallC s s.heap.objs.size (bindL (envOfC qual scope s.heap.objs.size f cd).kindOf (ps.zip us) fun _=>none) (cellsFrom (s.heap.objs.size+1) scope.names []) (bindC (envOfC qual scope s.heap.objs.size f cd).kindOf (ps.zip us) fun _=>none) s1) :
  Inv (cxOf CX P w K mg base N qual scope f cd A outer s H E) [] (start N vs) H s1:=by
 have hpl:ps.length<=N.length:=by have:=congrArg List.length S.pre;rw [List.length_take] at this;omega
 obtain ⟨h1,tk,rfl,hk⟩:=x.done
 have noA:∀ b:Addr,b ∉ (cxOf CX P w K mg base N qual scope f cd A outer s H E).ex:=fun b z=>absurd (show b∈([]:List Addr) from z) (by simp)
 refine ⟨⟨e0.mod,S.kind,rfl,rfl,Nat.le_refl _,fun y z c h1 h2=>?_,fun y hy=>?_,fun y c _ h=>?_,fun _=>hd,Around.frames_deeper e0.frames,.inr ⟨rfl,rfl⟩,fun b z=>absurd z (noA b),e0.bs,e0.bsz,fun b _ _=>noA b,fun b z=>absurd z (noA b),e0.funs,e0.frf⟩,
  rfl,e0.bare,Un.kept hk,⟨_,x.toInCall.ns,fun i y v h1 h2 h3=>?_⟩,fun y c h=>⟨_,x.cell y c h⟩,e0.hok.fresh (Nat.le_refl _),fun y c h=>?_,fun p hp=>absurd (show p∈([]:List (Addr × Obj)) from hp) (by simp),e0.hok.kept hk,?_⟩
 ·exact name_of_addr x.apart (PySem.mem_of_lookup h1) (PySem.mem_of_lookup h2)
 ·have hy:scope.names.lookup y=some .cell\/scope.names.lookup y=some .free:=hy
  rcases hy with hy | hy
  ·exact cell_has hy
  ·exact absurd rfl (S.nofree _ (PySem.mem_of_lookup hy))
 ·exact Nat.le_of_lt (x.above y c (PySem.mem_of_lookup h))
 ·have hi:i < vs.length:=by
   unfold start at h2
   by_cases hi:i < vs.length
   ·exact hi
   ·rw [List.getElem?_append_right (by simpa using hi)] at h2
    rw [List.getElem?_replicate] at h2
    split at h2<;>cases h2
  have ha:vs[i]?=some v:=by
   unfold start at h2
   rw [List.getElem?_append_left (by simpa using hi),List.getElem?_map] at h2
   cases e:vs[i]? with
   | none=>rw [e] at h2;cases h2
   | some a=>rw [e] at h2;cases h2;rfl
  obtain ⟨u,hu,rv⟩:=r.get ha
  have hp:ps[i]?=some y:=by
   rw [<- S.pre,List.getElem?_take_of_lt (by omega)];exact h1
  have ndP:ps.Nodup:=by rw [<- S.pre];exact S.nd.sublist (List.take_sublist _ _)
  refine ⟨u,rv,?_⟩
  rcases S.par y (List.mem_of_getElem? hp) with k | k
  ·exact .inl ⟨k,bindL_get ndP hp hu k⟩
  ·obtain ⟨c,e⟩:=cell_has (n:=s.heap.objs.size+1) k
   refine .inr ⟨.inl k,c,e,?_⟩
   have q:=x.cell y c e
   rw [bindC_get ndP hp hu (by show scope.names.lookup y≠_;rw [k];decide)] at q
   exact q
 ·exact e0.hok.fresh (Nat.le_of_lt (x.above y c (PySem.mem_of_lookup h)))
 ·unfold start
  show _=N.length
  rw [List.length_append,List.length_map,List.length_replicate]
  omega
theorem fn_of {CX:CXT} {P:Program} {w:World} {K:PySem.W.Frag} {mg:Str->Option Value} {base:Heap} {k:Nat} {f:Addr} {name qual:Str} {params:Arguments} {body:List Stmt} {scope:Scope} {dV kV doc pm cdv ct oc:Value} {an od:Option Addr}
  {osl:Array (Option Value)} {N ps:List Str} {sp:Sp} (lk:K.lookup f=some ⟨oc,od,.func (PySem.W.fnOf name qual params body scope dV kV doc pm an cdv ct),osl⟩) (hcd:PySem.W.codeIn K cdv qual=true) (S:FnScope N ps scope)
  (len:∀ vs H Q E,sp vs H Q E->vs.length=ps.length)
  (hbody:∀ (A:Around) (outer:List Env) (s:Shared) (H:Hp) (vs:List V) (Q:VK) (E:XK),Room k (A.deeper (envOfC qual scope s.heap.objs.size f cdv))->sp vs H Q E ->
   ∃ t,PSs (cxOf CX P w K mg base N qual scope f cdv A outer s H E) body t/\t { nx:=fun _ H'=>Q .non H',rt:=Q } (start N vs) H) :
  FnOk P w K mg base CX (k+1) f (PySem.W.fnOf name qual params body scope dV kV doc pm an cdv ct) ps sp:=by
 refine ⟨len,fun A outer s H args us vs Q E hr e0 hb r hsp=>?_⟩
 have hl:=len _ _ _ _ hsp
 have KX:K.In s.heap:=e0.mod.kin.keeps fun b o e=>(e0.bs b o e).1
 have lim:s.heap.NoLimit:=e0.mod.nolimit.keeps fun b o e=>(e0.bs b o e).1
 have hkind:∀ y∈ps.zip us,scope.names.lookup y.1=some .local\/(scope.names.lookup y.1=some .cell/\((cellsFrom (s.heap.objs.size+1) scope.names []).lookup y.1).isSome=true):=fun ⟨n,v⟩ hy=>by
  rcases S.par n (List.of_mem_zip hy).1 with q | q
  ·exact .inl q
  ·exact .inr ⟨q,PySem.W.cellsFrom_some _ _ _ (.inl q)⟩
 refine codeAny_call_function hr.depth (KX _ _ lk) rfl S.co S.gen rfl (PySem.W.codeRec_of KX hcd) (hb _ _ _ _ ?_)
 refine wpAny_newFunctionEnv_cells S.kind hkind fun env he s1 x=>?_
 subst he
 refine ⟨lim.keeps x.toInCall.keep,codeAny_func ?_⟩
 obtain ⟨t,ht,hq⟩:=hbody A outer s H vs Q E (hr.deeper _) hsp
 have I:Inv (cxOf CX P w K mg base N qual scope f cdv A outer s H E) [] (start N vs) H s1:=inv_start S hr.hd e0 hl r x
 refine wpAny_mono (ht [] s1 (start N vs) H _ I hq) (fun fl s' hs=>?_) fun e s' hs=>hs
 have fin:∀ {σ':St} {H':Hp} {v:V} {u:Value},Inv (cxOf CX P w K mg base N qual scope f cdv A outer s H E) [] σ' H' s'->RelV v u->Q v H'->CE outer P w H s Q u s' :=
  fun {σ' H' v u} J rv q=>⟨v,H',J.os,J.bare,J.base,J.hok,rv,q⟩
 cases fl with
 | ret u =>
  obtain ⟨v,σ',H',J,rv,q⟩:=hs
  exact fin J rv q
 | next =>
  obtain ⟨σ',H',J,q⟩:=hs
  exact fin (v:=V.non) (u:=Value.none) J rfl q
 | brk =>
  obtain ⟨_,_,_,q⟩:=hs
  exact False.elim q
 | cont =>
  obtain ⟨_,_,_,q⟩:=hs
  exact False.elim q
section
variable {X:Cx} {x:Str} {p pos:Pos} {e:Expr} {es:List Expr} {t:TA} {id T:String} {r:List V->Hp->VK->Prop}
def tCB (r:List V->Hp->VK->Prop) (t:TA):TE:=fun σ H Q=>t σ H fun vs H1=>r vs H1 Q
theorem pe_callB (hc:CallR X (.builtin id) r) (hg:Gl X x) (hm:X.mg x=none) (hv:bootBuiltins x=some (.builtin id)) (ha:PA X (e::es) t) (hn:x≠"__name__" := by decide) (hdb:(x == ("__debug__" : Str))=false:=by decide)
  (he:starEach (e::es) X.env=(false,eval e X.env)::starEach es X.env:=by rfl) (hpl:(backTo pos (starEach es X.env)).any (·.1)=false:=by rfl):PE X (.Call (.Name x p) (e::es) [] pos) (tCB r t):=by
 intro pins s σ H Q I h
 refine wpAny_Call_Name_kw (ld_blt I hg hm hv ?_ hn hdb)
 exact PyProof.Rows.callWith_builtin1 (thn (ha pos pins s σ H _ I h) fun us s1 ⟨vs,H1,I1,r1,q1⟩=>hc pins s1 σ H1 vs us Q I1 r1 q1) he hpl
theorem pe_callTy (hc:CallR X (.type T) r) (hg:Gl X x) (hm:X.mg x=none) (hv:bootBuiltins x=some (.type T)) (ha:PA X (e::es) t) (hn:x≠"__name__" := by decide) (hdb:(x == ("__debug__" : Str))=false:=by decide)
  (he:starEach (e::es) X.env=(false,eval e X.env)::starEach es X.env:=by rfl) (hpl:(backTo pos (starEach es X.env)).any (·.1)=false:=by rfl):PE X (.Call (.Name x p) (e::es) [] pos) (tCB r t):=by
 intro pins s σ H Q I h
 refine wpAny_Call_Name_kw (ld_blt I hg hm hv ?_ hn hdb)
 exact PyProof.Rows.callWith_type1 (thn (ha pos pins s σ H _ I h) fun us s1 ⟨vs,H1,I1,r1,q1⟩=>hc pins s1 σ H1 vs us Q I1 r1 q1) he hpl
end
end L2
namespace HT
open PySem PyProof.Rows
section
open PySem.SeqAt
open PySem.AutoSeq1 (wpAny_loadPart')
open PySem.MeetsSeq PySem.MeetsSeq2 PySem.MeetsSeq3
end
section
variable {prog:Program} {w:World} {A:Around} {E:Value->Shared->Prop} {s:Shared}
def sIx (n d:Nat):Option Int->Nat
 | none=>d
 | some v=>if v < 0 then (v+(n:Int)).toNat else min v.toNat n
end
end HT
namespace L2
open PySem PySem.Spec PyProof.Rows
abbrev TO:=St->Hp->(Option Int->Hp->Prop)->Prop
def PO (X:Cx) (e:Option Expr) (t:TO):Prop :=
 ∀ (pins:List (Addr × Obj)) (s:Shared) (σ:St) (H:Hp) (Q:Option Int->Hp->Prop),Inv X pins σ H s->t σ H Q ->
  wpAny (model X.prog X.w) X.A (evalPart e X.env) (fun u s'=>∃ o H',Inv X pins σ H' s'/\IsPart u o/\Q o H') X.xe s
def tNoPart:TO:=fun _ H Q=>Q none H
def tPart (t:TE):TO:=fun σ H Q=>t σ H fun x H1=>∃ i,x=.int i/\Q (some i) H1
section
variable {X:Cx} {e:Expr} {te:TE} {lo hi:Option Expr} {tl th:TO} {pos p2:Pos}
theorem po_none:PO X none tNoPart:=by
 intro pins s σ H Q I h
 rw [evalPart_none]
 exact wpAny_pure ⟨none,H,I,.none,h⟩
theorem po_some (h:PE X e te):PO X (some e) (tPart te):=by
 intro pins s σ H Q I hw
 rw [evalPart_some]
 refine thn (h pins s σ H _ I hw) fun u s1 ⟨x,H1,I1,r1,q1⟩=>?_
 obtain ⟨i,rfl,q⟩:=q1
 obtain ⟨t,rfl⟩:=r1
 exact ⟨some i,H1,I1,.int i t,q⟩
def SlR (X:Cx) (r:V->Option Int->Option Int->Hp->VK->Prop):Prop :=
 ∀ (pins:List (Addr × Obj)) (s:Shared) (σ:St) (H:Hp) (x:V) (v vl vu:Value) (lo hi:Option Int) (sl:Addr) (Q:VK),Inv X pins σ H s->RelV x v->s.heap.IsSliceOf sl vl vu .none->IsPart vl lo->IsPart vu hi->r x lo hi H Q ->
  ∃ T id,typeLookup (.type T) "__getitem__" = pure (some (.builtin id))/\s.TypeIs v T/\wpAny (model X.prog X.w) X.A (getItem v (.ref sl)) (EP X pins σ Q) X.xe s
def tSl (r:V->Option Int->Option Int->Hp->VK->Prop) (te:TE) (tl th:TO):TE:=fun σ H Q=>te σ H fun x H1=>tl σ H1 fun l H2=>th σ H2 fun u H3=>r x l u H3 Q
theorem pe_slice {r:V->Option Int->Option Int->Hp->VK->Prop} (hr:SlR X r) (he:PE X e te) (hl:PO X lo tl) (hu:PO X hi th):PE X (.Subscript e (.Slice lo hi none p2) pos) (tSl r te tl th):=by
 intro pins s σ H Q I h
 refine Subscript_ (thn (he pins s σ H _ I h) fun v s1 ⟨x,H1,I1,r1,q1⟩=>?_)
 refine wpAny_Slice (thn (hl pins s1 σ H1 _ I1 q1) fun vl s2 ⟨l,H2,I2,pl,q2⟩=>thn (hu pins s2 σ H2 _ I2 q2) fun vu s3 ⟨u,H3,I3,pu,q3⟩=>?_)
 rw [evalPart_none]
 refine wpAny_pure ?_
 have I4:Inv X pins σ H3 { s3 with heap:=s3.heap.push { cls:=.type "slice",data:=.fields #[vl,vu,.none] } }:=I3.kept (t':=s3.toks) fun b ob q=>Heap.get?_push_of_some _ q
 obtain ⟨T,id,hT,ht,hg⟩:=hr pins { s3 with heap:=s3.heap.push { cls:=.type "slice",data:=.fields #[vl,vu,.none] } } σ H3 x v vl vu l u s3.heap.objs.size Q I4 r1 (Heap.IsSliceOf.new ..) pl pu q3
 show wpAny (model X.prog X.w) X.A (subscriptTail e (.Slice lo hi none p2) v (.ref s3.heap.objs.size)) (EP X pins σ Q) X.xe { s3 with heap:=s3.heap.push { cls:=.type "slice",data:=.fields #[vl,vu,.none] } }
 exact tail_any (ops:=[.ref s3.heap.objs.size,v]) ht hT hg (by with_unfolding_all rfl)
def cutV (xs:List V) (lo hi:Option Int):List V:=(xs.drop (HT.sIx xs.length 0 lo)).take (HT.sIx xs.length xs.length hi - HT.sIx xs.length 0 lo)
theorem cutV_length (xs:List V) (lo hi:Option Int):(cutV xs lo hi).length<=xs.length:=by
 unfold cutV
 rw [List.length_take,List.length_drop]
 omega
end
def ixN (n:Nat) (i:Int):Option Nat:=if 0<=i then (if i < n then some i.toNat else none) else if -(n:Int)<=i then some (i+n).toNat else none
def atI {α:Type} (xs:List α) (i:Int):Option α:=(ixN xs.length i).bind fun j=>xs[j]?
theorem ixN_seq {n:Nat} {i:Int} {j:Nat} (h:ixN n i=some j):seqIndex? i n=some j/\j < n/\-(n:Int)<=i/\i < n:=by
 unfold ixN at h
 by_cases h0:0<=i
 ·rw [if_pos h0] at h
  by_cases h1:i < n
  ·rw [if_pos h1] at h
   have e:i.toNat=j:=Option.some.inj h
   exact ⟨by rw [seqIndex_of h0 h1,e],by omega,by omega,h1⟩
  ·rw [if_neg h1] at h;cases h
 ·rw [if_neg h0] at h
  by_cases h1:-(n:Int)<=i
  ·rw [if_pos h1] at h
   have e:(i+n).toNat=j:=Option.some.inj h
   exact ⟨by rw [seqIndex_neg (by omega) h1,e],by omega,h1,by omega⟩
  ·rw [if_neg h1] at h;cases h
theorem atI_get {α:Type} {xs:List α} {i:Int} {v:α} (h:atI xs i=some v):∃ j,seqIndex? i xs.length=some j/\xs[j]?=some v/\j < xs.length/\-(xs.length:Int)<=i/\i < xs.length:=by
 unfold atI at h
 cases e:ixN xs.length i with
 | none=>rw [e] at h;cases h
 | some j =>
  rw [e] at h
  obtain ⟨h1,h2,h3,h4⟩:=ixN_seq e
  exact ⟨j,h1,h,h2,h3,h4⟩
theorem atI_nat {α:Type} {xs:List α} {j:Nat} {v:α} (h:xs[j]?=some v):atI xs (j:Int)=some v:=by
 have hj:j < xs.length:=(List.getElem?_eq_some_iff.mp h).1
 have e:ixN xs.length (j:Int)=some j:=by
  unfold ixN
  rw [if_pos (by omega),if_pos (by omega)];simp
 unfold atI;rw [e];exact h
def PlainIx (b:Expr):Prop:=∀ o i,subscripted b false o i=operate [o,i] (getItem o i)
def IxR (X:Cx) (r:R2):Prop :=
 ∀ (value slice:Expr) (pins:List (Addr × Obj)) (s:Shared) (σ:St) (H:Hp) (x y:V) (v u:Value) (Q:VK),Inv X pins σ H s->RelV x v->RelV y u->r x y H Q ->
  subscripted slice false v u=operate [v,u] (getItem v u)->wpAny (model X.prog X.w) X.A (subscriptTail value slice v u) (EP X pins σ Q) X.xe s
def MtR (X:Cx) (id:String) (r:V->List V->Hp->VK->Prop):Prop :=
 ∀ (pins:List (Addr × Obj)) (s:Shared) (σ:St) (H:Hp) (x:V) (xs:List V) (v:Value) (us:List Value) (Q:VK),Inv X pins σ H s->RelV x v->Vals xs us->r x xs H Q ->
  wpAny (model X.prog X.w) X.A (call (.builtin id) (v::us)) (EP X pins σ Q) X.xe s
section
variable {X:Cx} {a b:Expr} {ta tb:TE} {pos:Pos}
theorem pe_ix {r:R2} (hr:IxR X r) (ha:PE X a ta) (hb:PE X b tb) (hs:PlainIx b):PE X (.Subscript a b pos) (tOp r ta tb):=by
 intro pins s σ H Q I h
 exact Subscript_ (binT ha hb I h fun v u s2 x y H2 I2 rx ry q=>hr a b pins s2 σ H2 x y v u Q I2 rx ry q (hs _ _))
def rIxL (K:PySem.W.Frag):R2:=fun x y H Q=>∃ p xs i v,x=.ref p/\y=.int i/\SqL K H p xs/\atI xs i=some v/\Q v H
def rIxT (K:PySem.W.Frag):R2:=fun x y H Q=>∃ p xs i v,x=.ref p/\y=.int i/\SqT K H p xs/\atI xs i=some v/\Q v H
def rIxS:R2:=fun x y H Q=>∃ z i c,x=.str z/\y=.int i/\z.length<=sizeLine/\atI z.cps.toList i=some c/\Q (.str ⟨#[c]⟩) H
theorem ix_list:IxR X (rIxL X.K):=by
 intro value slice pins s σ H x y v u Q I rx ry h hs
 obtain ⟨p,xs,i,z,rfl,rfl,hq,he,q⟩:=h
 cases rx
 obtain ⟨t,rfl⟩:=ry
 obtain ⟨its,r,pl,hz⟩:=I.list hq
 obtain ⟨j,h1,h2,h3,h4,h5⟩:=atI_get he
 obtain ⟨w,ew,rw'⟩:=r.get h2
 have hl:=r.length
 have hn:=line63
 have fin:EP X pins σ Q w s:=⟨z,H,I,rw',q⟩
 by_cases h0:0<=i
 ·have hj:i.toNat=j:=by
   rw [seqIndex_of h0 h5] at h1
   exact Option.some.inj h1
  exact item_listR pl.isList h0 (by omega) (by rw [hj];simpa using ew) fin hs
 ·have hj:(i+(its.toArray.size:Int)).toNat=j:=by
   rw [seqIndex_neg (by omega) h4] at h1
   rw [List.size_toArray,<- hl]
   exact Option.some.inj h1
  exact subscriptTail_builtinR (x:=w) pl.isList.typeIs slot_list_getitem.lookup
   (wpAny_getItem_list_neg (Q:=fun r s'=>r=w/\EP X pins σ Q r s') pl.isList (by omega) (by rw [List.size_toArray]<;>omega) (by omega) (by rw [hj];simpa using ew) ⟨rfl,fin⟩) hs
theorem ix_tup:IxR X (rIxT X.K):=by
 intro value slice pins s σ H x y v u Q I rx ry h hs
 obtain ⟨p,xs,i,z,rfl,rfl,hq,he,q⟩:=h
 cases rx
 obtain ⟨t,rfl⟩:=ry
 obtain ⟨its,r,pl,hz⟩:=I.tuple hq
 obtain ⟨j,h1,h2,h3,h4,h5⟩:=atI_get he
 obtain ⟨w,ew,rw'⟩:=r.get h2
 have hl:=r.length
 have hn:=line63
 have fin:EP X pins σ Q w s:=⟨z,H,I,rw',q⟩
 exact subscriptTail_builtinR (x:=w) pl.typeIs slot_tuple_getitem.lookup
  (getItem_tuple (j:=j) (Q:=fun r s'=>r=w/\EP X pins σ Q r s') pl (by omega) (by omega) (by rw [List.size_toArray,<- hl];exact h1) (by simpa using ew) ⟨rfl,fin⟩) hs
theorem ix_str:IxR X rIxS:=by
 intro value slice pins s σ H x y v u Q I rx ry h hs
 obtain ⟨z,i,c,rfl,rfl,hz,he,q⟩:=h
 obtain ⟨t,rfl⟩:=rx
 obtain ⟨t',rfl⟩:=ry
 obtain ⟨j,h1,h2,h3,h4,h5⟩:=atI_get he
 have hl:z.cps.toList.length=z.length:=by simp [Str.length]
 rw [hl] at h1 h4 h5
 have hn:=line63
 exact tail_any (typeIs_str s z t) slot_str_getitem.lookup (getItem_str (c:=c) (by
  have e1:decide (i < -(2 ^ 63:Int))=false:=decide_eq_false (by omega)
  have e2:decide (i ≥ 2 ^ 63)=false:=decide_eq_false (by omega)
  rw [e1,e2,Bool.or_false]) (by rw [h1];simpa using h2) ⟨.str ⟨#[c]⟩,H,I.tok _,⟨_,rfl⟩,q⟩) hs
theorem mapSeq_set (its:List Value) (n j:Nat) (u:Value):Obj.mapSeq (·.setIfInBounds j u) { cls:=.type "list",data:=.seq its.toArray n }={ cls:=.type "list",data:=.seq (its.set j u).toArray n }:=by
 simp [Obj.mapSeq]
theorem Inv.lst {pins:List (Addr × Obj)} {σ:St} {H:Hp} {s:Shared} {p:Addr} {xs:List V} (I:Inv X pins σ H s) (h:H p=some (.lst xs)) :
  ∃ (its:List Value) (n:Nat),Vals xs its/\s.heap.get? p=some { cls:=.type "list",data:=.seq its.toArray n }/\xs.length<=sizeLine:=by
 obtain ⟨z,its,n,r,e⟩:=I.hok p _ h
 exact ⟨its,n,r,e,z⟩
theorem Inv.lstUpd {pins:List (Addr × Obj)} {σ:St} {H:Hp} {s:Shared} {p:Addr} {xs ys:List V} {its its':List Value} {n n':Nat} {f:Obj->Obj} (I:Inv X pins σ H s) (h:H p=some (.lst xs))
  (ho:s.heap.get? p=some { cls:=.type "list",data:=.seq its.toArray n }) (hf:f { cls:=.type "list",data:=.seq its.toArray n }={ cls:=.type "list",data:=.seq its'.toArray n' }) (r:Vals ys its') (hz:ys.length<=sizeLine) (t:Nat) :
  Inv X pins σ (upd H p (.lst ys)) { s with heap:=s.heap.update p f,toks:=t }:=by
 have e:(s.heap.update p f).get? p=some { cls:=.type "list",data:=.seq its'.toArray n' }:=by
  rw [Heap.get?_update_self f ho (by rw [hf]<;>rfl),hf]
 refine I.write (x:=p) (e:=p) (by rw [h];trivial) (.inl rfl) (fun b u hb q=>(Heap.get?_update_other _ _ (Ne.symm hb)).trans q) ⟨_,e⟩ ?_
 exact ⟨hz,its',n',r,e⟩
def rSetL:V->V->V->Hp->(Hp->Prop)->Prop:=fun o i v H Q=>∃ p xs k j,o=.ref p/\i=.int k/\H p=some (.lst xs)/\ixN xs.length k=some j/\Q (upd H p (.lst (xs.set j v)))
theorem set_list:PSet X rSetL:=by
 intro pins s σ H o i v ov iv u Q I ro ri rv h
 obtain ⟨p,xs,k,j,rfl,rfl,hp,hj,q⟩:=h
 cases ro
 obtain ⟨t,rfl⟩:=ri
 obtain ⟨its,n,r,ho,hz⟩:=I.lst hp
 obtain ⟨h1,h2,h3,h4⟩:=ixN_seq hj
 have hl:=r.length
 have hn:=line63
 have I':Inv X pins σ (upd H p (.lst (xs.set j v))) { s with heap:=s.heap.update p (Obj.mapSeq (·.setIfInBounds j u)) } :=
  I.lstUpd hp ho (mapSeq_set its n j u) (r.set rv j) (by rw [List.length_set];exact hz) s.toks
 by_cases h0:0<=k
 ·have hk:k.toNat=j:=by
   rw [seqIndex_of h0 h4] at h1
   exact Option.some.inj h1
  exact PySem.W.ki_setAt ho h0 (by omega) (by rw [List.size_toArray,<- hl];exact h4) (by rw [hk];exact ⟨_,I',q⟩)
 ·have hk:(k+(its.toArray.size:Int)).toNat=j:=by
   rw [seqIndex_neg (by omega) h3] at h1
   rw [List.size_toArray,<- hl]
   exact Option.some.inj h1
  exact PySem.W.ki_setBack ho (by omega) (by rw [List.size_toArray,<- hl];exact h3) (by omega) (by rw [hk];exact ⟨_,I',q⟩)
theorem slice_bounds (lo hi:Option Int) (n:Nat):(sliceBounds lo hi none n).1=((HT.sIx n 0 lo:Nat):Int)/\(sliceBounds lo hi none n).2.1=((HT.sIx n n hi:Nat):Int)/\(sliceBounds lo hi none n).2.2=1:=by
 refine ⟨?_,?_,rfl⟩
 ·cases lo with
  | none=>simp [sliceBounds,HT.sIx]
  | some i =>
   simp only [sliceBounds,HT.sIx,Option.getD_none,show (1:Int) > 0 by decide,if_true]
   by_cases h:i < 0
   ·simp only [h,if_true]<;>omega
   ·simp only [h,if_false]<;>omega
 ·cases hi with
  | none=>simp [sliceBounds,HT.sIx]
  | some i =>
   simp only [sliceBounds,HT.sIx,Option.getD_none,show (1:Int) > 0 by decide,if_true]
   by_cases h:i < 0
   ·simp only [h,if_true]<;>omega
   ·simp only [h,if_false]<;>omega
theorem slicePick_cut (its:List Value) (lo hi:Option Int):slicePick its.toArray lo hi none=((its.drop (HT.sIx its.length 0 lo)).take (HT.sIx its.length its.length hi - HT.sIx its.length 0 lo)).toArray:=by
 obtain ⟨h1,h2,h3⟩:=slice_bounds lo hi its.toArray.size
 unfold slicePick
 rw [h1,h2,h3]
 simp only [sliceRange_one,pick_run,List.size_toArray]<;>rfl
def rSlL (K:PySem.W.Frag):V->Option Int->Option Int->Hp->VK->Prop:=fun x lo hi H Q=>∃ a xs,x=.ref a/\SqL K H a xs/\∀ p,H p=none->Q (.ref p) (upd H p (.lst (cutV xs lo hi)))
theorem sl_list:SlR X (rSlL X.K):=by
 intro pins s σ H x v vl vu lo hi sl Q I rx hs pl pu h
 obtain ⟨a,xs,rfl,hx,q⟩:=h
 cases rx
 obtain ⟨its,r,ht,hz⟩:=I.list hx
 have hlen:=r.length
 refine ⟨"list",_,slot_list_getitem.lookup,ht.isList.typeIs,?_⟩
 refine wpAny_getItem_list_slice ht.isList hs pl pu .none (by simp) ?_ (by rw [List.size_toArray]<;>omega)
 rw [slicePick_cut,<- hlen]
 refine ⟨.ref s.heap.objs.size,_,I.laid (t':=s.toks) (o:=.lst (cutV xs lo hi)) (fun b ob q=>Heap.get?_push_of_some _ q) (Nat.le_refl _) ?_,rfl,q _ (I.hok.fresh (Nat.le_refl _))⟩
 exact ⟨Nat.le_trans (cutV_length xs lo hi) hz,_,0,(r.drop (HT.sIx xs.length 0 lo)).take (HT.sIx xs.length xs.length hi - HT.sIx xs.length 0 lo),Heap.get?_push_size _ rfl⟩
def flatV:V->Bool
 | .non=>true
 | .bl _=>true
 | .int _=>true
 | .str _=>true
 | _=>false
def eqV:V->V->Bool
 | .non,.non=>true
 | .bl a,.bl b=>a == b
 | .bl a,.int b=>(if a then 1 else 0) == b
 | .int a,.bl b=>a == (if b then 1 else 0)
 | .int a,.int b=>a == b
 | .str a,.str b=>a == b
 | _,_=>false
theorem eqAt_V {A:Around} {s:Shared} {y x:V} {u v:Value} (ry:RelV y u) (rx:RelV x v) (fy:flatV y=true) (fx:flatV x=true):SeqAt.EqAt A s u v (eqV y x):=by
 cases y with
 | non =>
  cases ry
  cases x with
  | non=>cases rx;exact SeqAt.EqAt.same _
  | bl b=>cases rx;exact SeqAt.EqAt.none_bool b
  | int b=>obtain ⟨t,rfl⟩:=rx;exact SeqAt.EqAt.none_int b t
  | str b=>obtain ⟨t,rfl⟩:=rx;exact SeqAt.EqAt.none_str b t
  | _=>exact absurd (show false=true from fx) Bool.false_ne_true
 | bl a =>
  cases ry
  cases x with
  | non=>cases rx;exact SeqAt.EqAt.bool_none a
  | bl b=>cases rx;exact SeqAt.EqAt.bool_bool a b
  | int b=>obtain ⟨t,rfl⟩:=rx;exact SeqAt.EqAt.bool_int a b t
  | str b=>obtain ⟨t,rfl⟩:=rx;exact SeqAt.EqAt.bool_str a b t
  | _=>exact absurd (show false=true from fx) Bool.false_ne_true
 | int a =>
  obtain ⟨t',rfl⟩:=ry
  cases x with
  | non=>cases rx;exact SeqAt.EqAt.int_none a t'
  | bl b=>cases rx;exact SeqAt.EqAt.int_bool a t' b
  | int b=>obtain ⟨t,rfl⟩:=rx;exact SeqAt.EqAt.int_int a t' b t
  | str b=>obtain ⟨t,rfl⟩:=rx;exact SeqAt.EqAt.int_str a t' b t
  | _=>exact absurd (show false=true from fx) Bool.false_ne_true
 | str a =>
  obtain ⟨t',rfl⟩:=ry
  cases x with
  | non=>cases rx;exact SeqAt.EqAt.str_none a t'
  | bl b=>cases rx;exact SeqAt.EqAt.str_bool a t' b
  | int b=>obtain ⟨t,rfl⟩:=rx;exact SeqAt.EqAt.str_int a t' b t
  | str b=>obtain ⟨t,rfl⟩:=rx;exact SeqAt.EqAt.str_str a t' b t
  | _=>exact absurd (show false=true from fx) Bool.false_ne_true
 | _=>exact absurd (show false=true from fy) Bool.false_ne_true
def eqU (x:V) (u:Value):Bool:=match u with
 | .none=>eqV .non x
 | .bool b=>eqV (.bl b) x
 | .int i _=>eqV (.int i) x
 | .str z _=>eqV (.str z) x
 | _=>false
theorem eqU_of {x y:V} {u:Value} (r:RelV y u) (f:flatV y=true):eqU x u=eqV y x:=by
 cases y with
 | non=>cases r;rfl
 | bl b=>cases r;rfl
 | int i=>obtain ⟨t,rfl⟩:=r;rfl
 | str z=>obtain ⟨t,rfl⟩:=r;rfl
 | _=>exact absurd (show false=true from f) Bool.false_ne_true
theorem any_eqU {x:V}:∀ {xs:List V} {us:List Value},Vals xs us->xs.all flatV=true->us.any (eqU x)=xs.any fun y=>eqV y x
 | _,_,.nil,_=>rfl
 | y::xs,u::us,.cons r t,f=>by
  rw [List.all_cons,Bool.and_eq_true] at f
  rw [List.any_cons,List.any_cons,eqU_of r f.1,any_eqU t f.2]
theorem mem_eqAt {A:Around} {s:Shared} {x:V} {v:Value} (rx:RelV x v) (fx:flatV x=true):∀ {xs:List V} {us:List Value},Vals xs us->xs.all flatV=true->∀ u∈us,SeqAt.EqAt A s u v (eqU x u)
 | _,_,.nil,_=>fun u hu=>by cases hu
 | y::xs,u::us,.cons r t,f=>fun u' hu=>by
  rw [List.all_cons,Bool.and_eq_true] at f
  rcases List.mem_cons.mp hu with rfl | hu
  ·rw [eqU_of r f.1];exact eqAt_V r rx f.1 fx
  ·exact mem_eqAt rx fx t f.2 u' hu
def inV (x:V) (xs:List V):Bool:=xs.any fun y=>eqV y x
def rIn (K:PySem.W.Frag) (neg:Bool):R2:=fun x y H Q=>∃ p xs,y=.ref p/\(SqL K H p xs\/SqT K H p xs)/\flatV x=true/\xs.all flatV=true/\Q (.bl (if neg then !inV x xs else inV x xs)) H
theorem op_in_seq:OpR X (compareOp .In) (rIn X.K false):=by
 intro pins s σ H x y v u Q I rx ry h
 obtain ⟨p,xs,rfl,hq,fx,fs,q⟩:=h
 cases ry
 rcases hq with hq | hq
 ·obtain ⟨its,r,pl,hz⟩:=I.list hq
  refine SeqAt.in_listAt (eqU x) pl.isList (fun w hw=>mem_eqAt rx fx r fs w (by simpa using hw)) ⟨.bl _,H,I,rfl,?_⟩
  rw [show its.toArray.any (eqU x)=its.any (eqU x) by simp,any_eqU r fs]
  exact q
 ·obtain ⟨its,r,pl,hz⟩:=I.tuple hq
  refine SeqAt.in_tupleAt (eqU x) pl (fun w hw=>mem_eqAt rx fx r fs w (by simpa using hw)) ⟨.bl _,H,I,rfl,?_⟩
  rw [show its.toArray.any (eqU x)=its.any (eqU x) by simp,any_eqU r fs]
  exact q
theorem op_notIn_seq:OpR X (compareOp .NotIn) (rIn X.K true):=by
 intro pins s σ H x y v u Q I rx ry h
 obtain ⟨p,xs,rfl,hq,fx,fs,q⟩:=h
 cases ry
 rcases hq with hq | hq
 ·obtain ⟨its,r,pl,hz⟩:=I.list hq
  refine SeqAt.notIn_listAt (eqU x) pl.isList (fun w hw=>mem_eqAt rx fx r fs w (by simpa using hw)) ⟨.bl _,H,I,rfl,?_⟩
  rw [show its.toArray.any (eqU x)=its.any (eqU x) by simp,any_eqU r fs]
  exact q
 ·obtain ⟨its,r,pl,hz⟩:=I.tuple hq
  refine SeqAt.notIn_tupleAt (eqU x) pl (fun w hw=>mem_eqAt rx fx r fs w (by simpa using hw)) ⟨.bl _,H,I,rfl,?_⟩
  rw [show its.toArray.any (eqU x)=its.any (eqU x) by simp,any_eqU r fs]
  exact q
theorem call_len_seq:CallR X (.builtin "len") (fun xs H Q=>∃ p ys,xs=[.ref p]/\(SqL X.K H p ys\/SqT X.K H p ys)/\Q (.int ys.length) H):=by
 intro pins s σ H xs us Q I r h
 obtain ⟨p,ys,rfl,hq,q⟩:=h
 obtain ⟨u,rfl,rx⟩:=vals1 r
 cases rx
 have hn:=line63
 rcases hq with hq | hq
 ·obtain ⟨its,r',pl,hz⟩:=I.list hq
  have hlen:=r'.length
  exact Calls.call_len_list pl.isList (by simp only [List.size_toArray]<;>omega) ⟨.int ys.length,H,I.tok _,⟨s.toks+1,by rw [List.size_toArray,hlen]⟩,q⟩
 ·obtain ⟨its,r',pl,hz⟩:=I.tuple hq
  have hlen:=r'.length
  exact len_tuple pl (by simp only [List.size_toArray]<;>omega) ⟨.int ys.length,H,I.tok _,⟨s.toks+1,by rw [List.size_toArray,hlen]⟩,q⟩
theorem call_len_str:CallR X (.builtin "len") (fun xs H Q=>∃ z,xs=[.str z]/\z.length<=sizeLine/\Q (.int z.length) H):=by
 intro pins s σ H xs us Q I r h
 obtain ⟨z,rfl,hz,q⟩:=h
 obtain ⟨u,rfl,t,rfl⟩:=vals1 r
 have hn:=line63
 exact len_str (by omega) ⟨.int z.length,H,I.tok _,⟨_,rfl⟩,q⟩
theorem call_list_of:CallR X (.type "list") (fun xs H Q=>∃ p ys,xs=[.ref p]/\(SqL X.K H p ys\/SqT X.K H p ys)/\∀ l,H l=none->Q (.ref l) (upd H l (.lst ys))):=by
 intro pins s σ H xs us Q I r h
 obtain ⟨p,ys,rfl,hq,q⟩:=h
 obtain ⟨u,rfl,rx⟩:=vals1 r
 cases rx
 have fin:∀ (its:List Value),Vals ys its->ys.length<=sizeLine->∀ (h':Heap) (c':Nat),(∀ b o',s.heap.get? b=some o'->h'.get? b=some o') ->
   h'.get? s.heap.objs.size=some { cls:=.type "list",dict:=none,data:=.seq its.toArray c',slots:=#[] }->EP X pins σ Q (.ref s.heap.objs.size) { s with heap:=h' }:=fun its r' hz h' c' kp e =>
  ⟨.ref s.heap.objs.size,_,I.laid (t':=s.toks) kp (Nat.le_refl _) (show ObjOk X.prog X.w _ h' _ (.lst ys) from ⟨hz,its,c',r',e⟩),rfl,q _ (I.hok.fresh (Nat.le_refl _))⟩
 rcases hq with hq | hq
 ·obtain ⟨its,r',pl,hz⟩:=I.list hq
  have hlen:=r'.length
  obtain ⟨o,ho,hc,n,hd⟩:=pl.isList
  exact call_list_seq p (.inl rfl) ho hc hd (fun h' c' kp e=>fin its r' hz h' c' kp e) (by simp only [List.size_toArray]<;>omega)
 ·obtain ⟨its,r',pl,hz⟩:=I.tuple hq
  have hlen:=r'.length
  obtain ⟨o,ho,hc,n,hd⟩:=pl
  exact call_list_seq p (.inr rfl) ho hc hd (fun h' c' kp e=>fin its r' hz h' c' kp e) (by simp only [List.size_toArray]<;>omega)
theorem call_tuple_of:CallR X (.type "tuple") (fun xs H Q=>∃ p ys,xs=[.ref p]/\((SqL X.K H p ys/\∀ l,H l=none->Q (.ref l) (upd H l (.tup ys)))\/(SqT X.K H p ys/\Q (.ref p) H))):=by
 intro pins s σ H xs us Q I r h
 obtain ⟨p,ys,rfl,h⟩:=h
 obtain ⟨u,rfl,rx⟩:=vals1 r
 cases rx
 rcases h with ⟨hq,q⟩ | ⟨hq,q⟩
 ·obtain ⟨its,r',pl,hz⟩:=I.list hq
  have hlen:=r'.length
  refine call_tuple_list pl.isList (fun h' kp=>?_) (by simp only [List.size_toArray]<;>omega)
  have I1:Inv X pins σ H { s with heap:=h' }:=I.kept (t':=s.toks) kp
  have I2:Inv X pins σ (upd H h'.objs.size (.tup ys)) { s with heap:=h'.push { cls:=.type "tuple",data:=.seq its.toArray } } :=
   I1.laid (t':=s.toks) (fun b o e=>Heap.get?_push_of_some _ e) (Nat.le_refl _) (show ObjOk X.prog X.w _ _ _ (.tup ys) from ⟨hz,its,r',IsTup.new _ _⟩)
  exact ⟨.ref h'.objs.size,_,I2,rfl,q _ (I1.hok.fresh (Nat.le_refl _))⟩
 ·obtain ⟨its,r',pl,hz⟩:=I.tuple hq
  exact call_tuple_same pl ⟨.ref p,H,I,rfl,q⟩
def tyV (K:PySem.W.Frag) (T:String) (x:V) (H:Hp):Prop:=match x with
 | .str _=>T="str"
 | .int _=>T="int"
 | .ref p=>(T="list" /\ ∃ xs,SqL K H p xs)\/(T="tuple" /\ ∃ o,K.lookup p=some o/\o.cls=.type "tuple" /\ o.dict=none) \/
   (T="dict" /\ ((∃ kvs,H p=some (.dK kvs))\/∃ kvs,H p=some (.dT kvs)))\/(T="set" /\ ∃ S n,H p=some (.set S n))
 | _=>False
theorem tyV_is {pins:List (Addr × Obj)} {σ:St} {H:Hp} {s:Shared} {T:String} {x:V} {v:Value} (I:Inv X pins σ H s) (r:RelV x v) (ty:tyV X.K T x H) :
  s.TypeIs v T/\∀ a,v=.ref a->∃ ob,s.heap.get? a=some ob/\ob.dict=none:=by
 cases x with
 | str z =>
  obtain ⟨t,rfl⟩:=r
  cases (show T="str" from ty)
  exact ⟨typeIs_str s z t,fun _ e=>nomatch e⟩
 | int i =>
  obtain ⟨t,rfl⟩:=r
  cases (show T="int" from ty)
  exact ⟨typeIs_int s i t,fun _ e=>nomatch e⟩
 | ref p =>
  cases r
  rcases ty with ⟨rfl,xs,hq⟩ | ⟨rfl,o,hk,hc,hd⟩ | ⟨rfl,hk⟩ | ⟨rfl,S,n,hk⟩
  ·obtain ⟨its,_,pl,_⟩:=I.list hq
   refine ⟨pl.isList.typeIs,fun a e=>?_⟩
   cases e
   obtain ⟨o,n,e,c,hd,_⟩:=pl
   exact ⟨o,e,hd⟩
  ·refine ⟨⟨o,I.kIn p o hk,hc⟩,fun a e=>?_⟩
   cases e
   exact ⟨o,I.kIn _ o hk,hd⟩
  ·have z:∃ o,s.heap.get? p=some o/\o.ExactDict:=by
    rcases hk with ⟨kvs,hk⟩ | ⟨kvs,hk⟩
    ·obtain ⟨_,_,_,_,o,_,_,e,ex,_⟩:=I.hok p _ hk
     exact ⟨o,e,ex⟩
    ·obtain ⟨_,_,_,_,o,_,_,e,ex,_⟩:=I.hok p _ hk
     exact ⟨o,e,ex⟩
   obtain ⟨o,e,ex⟩:=z
   refine ⟨⟨o,e,ex.1⟩,fun a e2=>?_⟩
   cases e2
   exact ⟨o,e,ex.2.1⟩
  ·obtain ⟨o,_,_,_,e,ex,_⟩:=I.hok p _ hk
   refine ⟨⟨o,e,ex.1⟩,fun a e2=>?_⟩
   cases e2
   exact ⟨o,e,ex.2.1⟩
 | _=>exact False.elim ty
def tBM0 (K:PySem.W.Frag) (T:String) (r:V->List V->Hp->VK->Prop) (to:TE):TE:=fun σ H Q=>to σ H fun x H1=>tyV K T x H1/\r x [] H1 Q
def tBM (K:PySem.W.Frag) (T:String) (r:V->List V->Hp->VK->Prop) (to:TE) (t:TA):TE:=fun σ H Q=>to σ H fun x H1=>tyV K T x H1/\t σ H1 fun xs H2=>r x xs H2 Q
variable {o e:Expr} {es:List Expr} {to:TE} {t:TA} {name:Str} {apos cpos:Pos} {T id:String} {r:V->List V->Hp->VK->Prop}
theorem pe_bm0 (pa:PlainAttrs T) (slot:Slot T name id) (hty:typeOf (.builtin id)=pure (.type "method_descriptor")) (hm:MtR X id r) (ho:PE X o to)
  (hbase:attributeBase o name X.env (eval o X.env)=eval o X.env:=by rfl) (hline:(apos.endLine == cpos.line)=true:=by rfl):PE X (.Call (.Attribute o name apos) [] [] cpos) (tBM0 X.K T r to):=by
 intro pins s σ H Q I h
 refine wpAny_Call_method0_late hbase hline (thn (ho pins s σ H _ I h) fun v s1 ⟨x,H1,I1,r1,ty,q1⟩=>?_)
 obtain ⟨h1,h2⟩:=tyV_is I1 r1 ty
 exact ⟨T,id,pa,slot,hty,h1,h2,Calls.callWith_builtin rfl (PySem.evalArgs_none (hm pins s1 σ H1 x [] v [] Q I1 r1 .nil q1))⟩
theorem pe_bm (pa:PlainAttrs T) (slot:Slot T name id) (hty:typeOf (.builtin id)=pure (.type "method_descriptor")) (hm:MtR X id r) (ho:PE X o to) (ha:PA X (e::es) t)
  (hbase:attributeBase o name X.env (eval o X.env)=eval o X.env:=by rfl)
  (hfew:((backTo cpos (starEach (e::es) X.env)).all (fun x=>!x.1) && (backToKw cpos (keywordEach [] X.env)).all (fun x=>x.1.isSome)
   && decide ((e::es).length+([]:List Keyword).length+(if ([]:List Keyword).isEmpty then 0 else 1) < 30))=true:=by rfl)
  (hline:(apos.endLine == cpos.line)=true:=by rfl) (hs:starEach (e::es) X.env=(false,eval e X.env)::starEach es X.env:=by rfl) (hplain:(backTo cpos (starEach es X.env)).any (·.1)=false:=by rfl) :
  PE X (.Call (.Attribute o name apos) (e::es) [] cpos) (tBM X.K T r to t):=by
 intro pins s σ H Q I h
 refine wpAny_Call_method_late hbase hfew hline rfl (thn (ho pins s σ H _ I h) fun v s1 ⟨x,H1,I1,r1,ty,q1⟩=>?_)
 obtain ⟨h1,h2⟩:=tyV_is I1 r1 ty
 refine ⟨T,id,pa,slot,hty,h1,h2,?_⟩
 have hA:=ha cpos pins s1 σ H1 _ I1 q1
 rw [hs] at hA ⊢
 refine Calls.callWith_builtin (by show (false || (backTo cpos (starEach es X.env)).any (·.1))=false;rw [hplain]<;>rfl) (Calls.evalArgs_plain ?_)
 exact thn hA fun us s2 ⟨vs,H2,I2,r2,q2⟩=>hm pins s2 σ H2 x vs v us Q I2 r1 r2 q2
end
def MtM (X:Cx) (id:String) (r:V->List V->Hp->VK->Prop):Prop :=
 ∀ (pins:List (Addr × Obj)) (s:Shared) (σ:St) (H:Hp) (x:V) (xs:List V) (v:Value) (us:List Value) (Q:VK),Inv X pins σ H s->RelV x v->Vals xs us->r x xs H Q ->
  wpAny (model X.prog X.w) X.A (call (.builtin id) (v::us)) (EP X pins σ Q) X.xe s
theorem Vals.one:∀ {x:V} {us:List Value},Vals [x] us->∃ u,us=[u]/\RelV x u
 | _,_,.cons r .nil=>⟨_,rfl,r⟩
section
variable {X:Cx} {pins:List (Addr × Obj)} {σ:St} {H:Hp} {s:Shared} {l b:Addr} {xs ys zs:List V}
theorem Inv.lset {its its':List Value} {n:Nat} {f:Array Value->Array Value} {t':Nat} (I:Inv X pins σ H s) (hH:H l=some (.lst xs))
  (e:s.heap.get? l=some { cls:=.type "list",data:=.seq its.toArray n }) (hf:f its.toArray=its'.toArray) (hv:Vals ys its') (hz:ys.length<=sizeLine) :
  Inv X pins σ (upd H l (.lst ys)) { s with heap:=s.heap.update l (Obj.mapSeq f),toks:=t' }:=by
 have q:=PySem.IsL.update e f
 rw [hf] at q
 refine I.write (x:=l) (e:=l) (by rw [hH];exact trivial) (.inl rfl) (fun b' u hb hu=>(Heap.get?_update_other s.heap (Obj.mapSeq f) (Ne.symm hb)).trans hu) ⟨_,q⟩ ?_
 exact ⟨hz,its',_,hv,q⟩
theorem Inv.lnew {its:List Value} {t':Nat} (I:Inv X pins σ H s) (hv:Vals ys its) (hz:ys.length<=sizeLine) :
  Inv X pins σ (upd H s.heap.objs.size (.lst ys)) { s with heap:=s.heap.push { cls:=.type "list",data:=.seq its.toArray },toks:=t' } :=
 I.laid (fun _ _ q=>Heap.get?_push_of_some _ q) (Nat.le_refl _) ⟨hz,its,0,hv,Heap.get?_push_size _ rfl⟩
theorem Inv.fresh (I:Inv X pins σ H s):H s.heap.objs.size=none:=I.hok.fresh (Nat.le_refl _)
theorem Inv.lstM (I:Inv X pins σ H s) (hH:H l=some (.lst xs)):xs.length<=sizeLine/\∃ (its:List Value) (n:Nat),Vals xs its/\xs.length=its.length/\s.heap.get? l=some { cls:=.type "list",data:=.seq its.toArray n }:=by
 obtain ⟨z,its,n,r,e⟩:=I.hok l _ hH
 exact ⟨z,its,n,r,r.length,e⟩
end
section
variable {X:Cx}
def rAppend:V->List V->Hp->VK->Prop:=fun x vs H Q=>∃ l xs y,x=.ref l/\vs=[y]/\H l=some (.lst xs)/\xs.length < sizeLine/\Q .non (upd H l (.lst (xs++[y])))
theorem mt_append:MtM X "list.append" rAppend:=by
 intro pins s σ H x vs v us Q I rx rv h
 obtain ⟨l,xs,y,rfl,rfl,hH,hz,q⟩:=h
 cases rx
 obtain ⟨u,rfl,ru⟩:=rv.one
 obtain ⟨z,its,n,r,hl,e⟩:=I.lstM hH
 refine call_meets F.slot_list_append ⟨_,e,rfl⟩ F.entry_list_append (F.args_list_append_2 _ _) (PySem.list_append l its.toArray n u (by rw [List.size_toArray];omega)) ⟨e,?_⟩
 refine ⟨.non,_,I.lset (its':=its++[u]) hH e (by simp) (r.append (.cons ru .nil)) ?_,rfl,q⟩
 rw [List.length_append,List.length_singleton]
 omega
def rCat:R2:=fun x y H Q=>∃ l b xs zs,x=.ref l/\y=.ref b/\H l=some (.lst xs)/\H b=some (.lst zs)/\xs.length+zs.length<=sizeLine/\∀ p,H p=none->Q (.ref p) (upd H p (.lst (xs++zs)))
theorem op_cat:OpR X (binaryOp .Add) rCat:=by
 intro pins s σ H x y v u Q I rx ry h
 obtain ⟨l,b,xs,zs,rfl,rfl,hH,hB,hz,q⟩:=h
 cases rx
 cases ry
 obtain ⟨z,its,n,r,hl,e⟩:=I.lstM hH
 obtain ⟨z2,its2,n2,r2,hl2,e2⟩:=I.lstM hB
 refine PySem.P.add_list e e2 ?_ (by rw [List.size_toArray,List.size_toArray];omega)
 have ea:its.toArray++its2.toArray=(its++its2).toArray:=by simp
 rw [ea]
 exact ⟨.ref _,_,I.lnew (t':=s.toks) (r.append r2) (by rw [List.length_append];omega),rfl,q _ I.fresh⟩
end
section
variable {prog:Program} {w:World} {A:Around} {E:Value->Shared->Prop} {s:Shared}
set_option maxRecDepth 100000 in
end
section
variable {X:Cx}
end
end L2
namespace Att
open PySem PySem.W PySem.Calls PyProof.Rows
theorem ints_of_wellAll {P:Params} {h:Heap}:∀ (ns:List Int) (vs:List Value),WellAll P h vs (ns.map WData.int)->IntsAre vs ns:=by
 intro ns
 induction ns with
 | nil =>
  intro vs w
  rw [List.map_nil] at w
  cases w
  exact .nil
 | cons n ns ih =>
  intro vs w
  rw [List.map_cons] at w
  cases w with
  | cons a b =>
   cases a
   exact .cons _ _ (ih _ b)
theorem script_of {l:OpenLaw} {n:Nat} (hn:l.most=some n) {P:Params} {h:Heap} {args:List WData} {vals:List Value}
  (hpre:l.row.toRowW.claim.pre args=true) (hwl:WellAll P h vals args) :
  ∃ a vs ns,vals=[Value.ref a]/\args=[WData.list (ns.map WData.int)]/\h.get? a=some { cls:=.type "list",data:=.seq vs.toArray }/\IntsAre vs ns/\ns.length<=n:=by
 have hsh:WShape.hasAll [] args [.list .int]=true:=(pre_splitW hpre).1
 have hc:l.pre.holds [] { args:=args }=true:=(pre_splitW hpre).2
 obtain ⟨d,r,rfl,h1,h2⟩:=hasAllW_cons hsh
 obtain rfl:=hasAllW_nil h2
 obtain ⟨xs,rfl,h3⟩:=hasW_list h1
 obtain ⟨ns,rfl⟩:=items_int h3
 have hlen:ns.length<=n:=by
  unfold OpenLaw.pre at hc
  have h4:(WTm.not (.lt (.lit (.int (n:Int))) (.len (.arg 0)))).holds [] { args:=[.list (ns.map .int)] }=true:=by
   have h4:=(holds_andW hc).1
   rw [hn] at h4
   exact h4
  have h5:=condW_of h4 (w_not (w_lt w_lit (w_len_list (w_arg rfl))))
  rw [List.length_map] at h5
  refine Nat.le_of_not_lt fun q=>?_
  have q':(n:Int) < ((ns.length:Nat):Int):=by omega
  first
   | (rw [decide_eq_true q'] at h5;exact absurd h5 (by decide))
   | (simp at h5;omega)
 cases hwl with
 | cons w1 w2 =>
  cases w2
  cases w1 with
  | list ho hall=>exact ⟨_,_,ns,rfl,rfl,ho,ints_of_wellAll ns _ hall,hlen⟩
theorem post_true (l:OpenLaw) (args:List WData):l.row.toRowW.claim.post args (.bool true) args=true :=
 postW_of (r:=l.row.toRowW) (X:=(true == true))
  (show WShape.has [] (.bool true) .bool=true by first | rfl | decide | simp [WShape.has,WShape.arms,WShape.armsAll])
  (show (WTm.eq .res (.lit (.bool true))).value [] { args:=args,res:=some (.bool true),after:=args }=some (.bool (true == true)) from w_eq_bool (w_res rfl) w_lit) rfl
theorem attach_call {l:OpenLaw} {n:Nat} {q:Program} {loose:List Str} {XP:(Str->Option Value)->Heap->Prop} {YP:World->Heap->Prop} {d:DefRec}
  (hn:l.most=some n) (hdf:d.params.defaults=[])
  (call:∀ (w:World) (s₀ s₁:Shared) (mg mb:Str->Option Value) (fa:Addr) (o:Obj) (pm cd doc:Value) (a:Addr) (vs:List Value) (ns:List Int),
   Ground q loose [] XP w s₀ mg mb s₁.heap->YP w s₁.heap ->
   s₁.heap.get? fa=some o->o.data=.func (docDef d.name d.params d.body d.scope pm cd doc)->s₁.heap.CodeRec cd d.name->mg d.name=some (.ref fa) ->
   s₁.heap.get? a=some { cls:=.type "list",data:=.seq vs.toArray }->IntsAre vs ns->ns.length<=n->s₁.gens=#[] ->
   codeAny (model l.prog w) callerA (.call (.ref fa) ⟨[.ref a],[]⟩) (fun r s'=>r=.ok (.ret (.bool true))/\OldK s₁.heap s'.heap/\s'.os=s₁.os/\AllBare s'.gens) s₁) :
  WalkO q loose XP YP l.row.toRowW d [] (fun f vs=>PySem.call f vs):=by
 intro w s₀ s₁ mg mb G Y fa o pm cd doc dV kV ho hd hcd hD hmg hg args vals as hpre hlay hrd hwl hlo
 obtain rfl:dV=.none:=Dflts.none hD hdf
 obtain rfl:kV=.none:=Dflts.noKw hD
 obtain ⟨a,vs,ns,rfl,rfl,hobj,hints,hlen⟩:=script_of hn hpre hwl
 refine enter_call (codeAny_mono (call w s₀ s₁ mg mb fa o pm cd doc a vs ns G Y ho (fd_plain hd) hcd hmg hobj hints hlen hg) fun r s' hq=>?_)
 obtain ⟨rfl,h2,h3,h4⟩:=hq
 exact ⟨.inl ⟨.bool true,.bool true,[],rfl,fun _=>rfl,.bool true,post_true l _,fun _=>⟨List.Pairwise.nil,fun _ hm=>(nomatch hm)⟩⟩,h2,h3,h4⟩
section
variable {prog:Program} {w:World} {A:Around} {E:Value->Shared->Prop} {s:Shared} {K:Frag}
def ledger (h:Heap) (L d:Addr):List (Addr × Obj):=(List.range h.objs.size).filterMap fun a=>if a=L\/a=d then none else (h.get? a).map fun o=>(a,o)
end
end Att
namespace L2
open PySem PySem.Spec PyProof.Rows
theorem vals_ints:∀ {vs:List Value} {ns:List Int},IntsAre vs ns->Vals (ns.map V.int) vs
 | _,_,.nil=>.nil
 | _,_,.cons n t h=>.cons ⟨t,rfl⟩ (vals_ints h)
def Only (H:Hp):Prop:=∀ b,H b=none\/∃ o xs,H b=some (.frz o (.lst xs))
theorem law_call {P:Program} {w:World} {K:PySem.W.Frag} {mg mb:Str->Option Value} {CX:CXT} {k:Nat} {fa a:Addr} {fd:FuncData} {x:Str} {sp:Sp} {s₁:Shared} {vs:List Value} {ns:List Int}
  (KX:K.In s₁.heap) (hns:s₁.heap.Ns mainGlobals mg) (hb:s₁.heap.Ns builtinsNs mb) (hbb:∀ x:Str,x≠"__name__" -> mb x=bootBuiltins x) (hlim:s₁.heap.NoLimit) (hg:s₁.gens=#[])
  (ha:s₁.heap.get? a=some { cls:=.type "list",data:=.seq vs.toArray }) (hi:IntsAre vs ns) (hl:ns.length<=sizeLine) (hr:Room k callerA)
  (F:∀ base:Heap,K.In base->base.Ns mainGlobals mg->FnOk P w K mg base CX k fa fd [x] sp) (hbind:∀ (s:Shared) (u:Value),BindsTo s fd ⟨[u],[]⟩ [(x,u)])
  (hsp:∀ H:Hp,Only H->SqL K H a (ns.map V.int)->sp [.ref a] H (fun v _=>v=.bl true) fun _ _ _=>False)
  (hCX:∀ H e s',CX [] H s₁ (fun _ _ _=>False) e s'->False) :
  codeAny (model P w) callerA (.call (.ref fa) ⟨[.ref a],[]⟩) (fun r s'=>r=.ok (.ret (.bool true))/\OldK s₁.heap s'.heap/\s'.os=s₁.os/\AllBare s'.gens) s₁:=by
 have rv:=vals_ints hi
 have lenV:=hi.length
 have core:∀ H:Hp,Only H->SqL K H a (ns.map V.int)->HOk P w H s₁.heap->(∀ b,H b≠none->b=a)->(H a≠none->K.lookup a=none) ->
   codeAny (model P w) callerA (.call (.ref fa) ⟨[.ref a],[]⟩) (fun r s'=>r=.ok (.ret (.bool true))/\OldK s₁.heap s'.heap/\s'.os=s₁.os/\AllBare s'.gens) s₁:=by
  intro H hO hS hok hA hK
  have base_of:∀ {b:Addr} {o:Obj},s₁.heap.get? b=some o->H b=none->(hidT s₁.heap H).get? b=some o:=fun e n=>hidT_get e n
  have noA:∀ {b:Addr} {o:Obj} {es:Array DictEntry} {ep:Nat},s₁.heap.get? b=some o->o.data=.dict es ep->H b=none:=fun {b o es ep} e d=>by
   cases q:H b with
   | none=>rfl
   | some u =>
    have e':b=a:=hA b (by rw [q];simp)
    subst e'
    rw [ha] at e;cases e
    have d':Data.seq vs.toArray _=Data.dict es ep:=d
    cases d'
  have nsK:∀ {b:Addr} {m:Str->Option Value},s₁.heap.Ns b m->(hidT s₁.heap H).Ns b m:=fun {b m} ⟨o,es,ep,e,d,r⟩=>⟨o,es,ep,base_of e (noA e d),d,r⟩
  have hKb:K.In (hidT s₁.heap H):=fun b o e=>base_of (KX b o e) (by
   cases q:H b with
   | none=>rfl
   | some u =>
    have e':b=a:=hA b (by rw [q];simp)
    subst e'
    rw [hK (by rw [q];simp)] at e;cases e)
  have hM:Mod K mg (hidT s₁.heap H):=⟨hKb,nsK hns,⟨mb,nsK hb,hbb⟩,let ⟨mc,h1,h2⟩:=hlim;⟨mc,nsK h1,h2⟩⟩
  have e0:Env0 P w K mg (hidT s₁.heap H) callerA [] s₁ H:=⟨rfl,hM,fun b o e=>of_hidT e,Nat.le_of_eq (hidT_size _ _),trivial,fun b hb=>absurd (show b∈([]:List Addr) from hb) (by simp),hok,.of_eq hg⟩
  refine codeAny_mono ((F _ hKb (nsK hns)).run callerA [] s₁ H ⟨[.ref a],[]⟩ [.ref a] [.ref a] _ _ hr e0 (hbind s₁ (.ref a)) (.cons rfl .nil) (hsp H hO hS)) fun r s' h=>?_
  cases r with
  | error e=>exact (hCX H e s' h).elim
  | ok fl =>
   cases fl with
   | next=>exact False.elim h
   | brk=>exact False.elim h
   | cont=>exact False.elim h
   | ret u =>
    obtain ⟨v,H',os,bare,un,hok',r',q⟩:=h
    have q':v=.bl true:=q
    subst q'
    obtain rfl:u=Value.bool true:=r'
    refine ⟨rfl,OldK.of_keep fun b o e=>?_,os,bare⟩
    cases q:H b with
    | none=>exact un.keep b o e q (by intro z;exact absurd (show b∈([]:List Addr) from z) (by simp)) (by simp)
    | some u =>
     rcases hO b with z | ⟨ob,xs,z⟩
     ·rw [q] at z;cases z
     ·have z2:=un.frzs b ob _ z
      obtain ⟨e1,_⟩:=hok b _ z
      obtain ⟨e2,_⟩:=hok' b _ z2
      rw [e] at e1;cases e1
      exact e2
 cases hk:K.lookup a with
 | some o =>
  have e:=KX a o hk
  rw [ha] at e
  cases e
  refine core (fun _=>none) (fun _=>.inl rfl) (.inr ⟨_,vs.toArray,_,hk,rfl,rfl,rfl,by rw [List.size_toArray,lenV];exact hl,by simpa using rv⟩) (fun b u z=>by have z':(none:Option HO)=some u:=z;cases z') (fun b z=>absurd rfl z) fun z=>absurd rfl z
 | none =>
  refine core (fun b=>if b=a then some (.frz { cls:=.type "list",data:=.seq vs.toArray } (.lst (ns.map V.int))) else none) (fun b=>?_) (.inl (.inr ⟨{ cls:=.type "list",data:=.seq vs.toArray },if_pos rfl⟩)) (fun b u z=>?_) (fun b z=>?_) fun _=>hk
  ·by_cases hb:b=a
   ·exact .inr ⟨_,_,if_pos hb⟩
   ·exact .inl (if_neg hb)
  ·by_cases hb:b=a
   ·have z':=(if_pos hb).symm.trans z
    cases z'
    subst hb
    exact ⟨ha,by rw [List.length_map];exact hl,vs,_,rv,ha⟩
   ·have z':=(if_neg hb).symm.trans z
    cases z'
  ·by_cases hb:b=a
   ·exact hb
   ·exact absurd (if_neg hb) z
abbrev KOf {K:PySem.W.Frag} {h:Heap} (_:K.In h):PySem.W.Frag:=K
theorem walk_of {l:PySem.W.OpenLaw} {n k:Nat} {q:Program} {loose:List Str} {XP:(Str->Option Value)->Heap->Prop} {YP:World->Heap->Prop} {d:DefRec} {K:Params->PySem.W.Frag} {CX:World->CXT} {sp:World->Sp} {x:Str}
  (hn:l.most=some n) (hn2:n<=sizeLine) (hdf:d.params.defaults=[]) (hr:Room k callerA)
  (hY:∀ (w:World) (h:Heap),YP w h->(K w.params).In h)
  (F:∀ (w:World) (mg:Str->Option Value) (fa:Addr) (h:Heap),(K w.params).In h->h.Ns mainGlobals mg->mg d.name=some (.ref fa) ->
   ∃ fd:FuncData,(∀ (s:Shared) (u:Value),BindsTo s fd ⟨[u],[]⟩ [(x,u)]) /\
    ∀ base:Heap,(K w.params).In base->base.Ns mainGlobals mg->FnOk l.prog w (K w.params) mg base (CX w) k fa fd [x] (sp w))
  (hsp:∀ (w:World) (H:Hp) (a:Addr) (ns:List Int),ns.length<=n->Only H->SqL (K w.params) H a (ns.map V.int)->sp w [.ref a] H (fun v _=>v=.bl true) fun _ _ _=>False)
  (hCX:∀ (w:World) (H:Hp) (s:Shared) (e:Value) (s':Shared),CX w [] H s (fun _ _ _=>False) e s'->False) :
  PySem.W.WalkO q loose XP YP l.row.toRowW d [] (fun f vs=>PySem.call f vs):=by
 refine Att.attach_call hn hdf fun w s₀ s₁ mg mb fa o pm cd doc a vs ns G Y ho hd hcd hmg hobj hints hlen hg=>?_
 have KX:=hY w _ Y
 obtain ⟨fd,hb,hF⟩:=F w mg fa _ KX G.T.g hmg
 exact law_call KX G.T.g G.T.b G.T.builtins G.T.nolimit hg hobj hints (Nat.le_trans hlen hn2) hr hF hb (fun H hO hS=>hsp w H a ns hlen hO hS) fun H e s'=>hCX w H s₁ e s'
def inClass (s:Stmt) (j:Nat):Stmt:=match s with
 | .ClassDef _ _ _ body _ _ _ _ _ _ _=>body.getD j (.Pass ⟨0,0,0,0⟩)
 | _=>.Pass ⟨0,0,0,0⟩
def defArgs (s:Stmt):Arguments:=match s with
 | .FunctionDef _ a _ _ _ _ _ _ _ _=>a
 | _=>{ posonlyargs:=[],args:=[],vararg:=none,kwonlyargs:=[],kw_defaults:=[],kwarg:=none,defaults:=[] }
def defBody (s:Stmt):List Stmt:=match s with
 | .FunctionDef _ _ b _ _ _ _ _ _ _=>b
 | _=>[]
def defScope (s:Stmt):Scope:=match s with
 | .FunctionDef _ _ _ _ _ _ sc _ _ _=>sc
 | _=>{ kind:=.function,names:=[],isGenerator:=false,isCoroutine:=false }
abbrev CX0:CXT:=fun _ _ _ _ _ _=>False
abbrev E0:XK:=fun _ _ _=>False
theorem pass0 {X:Cx}:Passes CX0 X E0:=fun _ _ _ _ _ _ _ h=>h.elim
structure Fun (K:PySem.W.Frag) (x qual:Str) (st:Stmt) (f:Addr) (fd:FuncData):Prop where
 ex:∃ (oc:Value) (od:Option Addr) (kV doc pm:Value) (an:Option Addr) (cdv ct:Value) (osl:Array (Option Value)),
  fd=PySem.W.fnOf x qual (defArgs st) (defBody st) (defScope st) .none kV doc pm an cdv ct/\K.lookup f=some ⟨oc,od,.func fd,osl⟩/\PySem.W.codeIn K cdv qual=true
 kp:PySem.W.keepIn K (.ref f)=true
section
variable {P:Program} {w:World} {K:PySem.W.Frag} {mg:Str->Option Value} {base:Heap}
theorem Fun.ok {x qual:Str} {st:Stmt} {f:Addr} {fd:FuncData} {N ps:List Str} {k:Nat} {sp:Sp} (F:Fun K x qual st f fd) (S:FnScope N ps (defScope st)) (len:∀ vs H Q E,sp vs H Q E->vs.length=ps.length)
  (hbody:∀ (cdv:Value) (A:Around) (outer:List Env) (s:Shared) (H:Hp) (vs:List V) (Q:VK) (E:XK),Room k (A.deeper (envOfC qual (defScope st) s.heap.objs.size f cdv))->sp vs H Q E ->
   ∃ t,PSs (cxOf CX0 P w K mg base N qual (defScope st) f cdv A outer s H E).nox (defBody st) t/\t { nx:=fun _ H'=>Q .non H',rt:=Q } (start N vs) H):FnOk P w K mg base CX0 (k+1) f fd ps sp:=by
 obtain ⟨oc,od,kV,doc,pm,an,cdv,ct,osl,rfl,lk,hcd⟩:=F.ex
 refine fn_of lk hcd S len fun A outer s H vs Q E hr hsp=>?_
 obtain ⟨t,h,q⟩:=hbody cdv A outer s H vs Q E hr hsp
 exact ⟨t,h.nox,q⟩
theorem Fun.binds {x qual:Str} {st:Stmt} {f:Addr} {fd:FuncData} {ps:List Str} (F:Fun K x qual st f fd)
  (h:∀ (kV doc pm:Value) (an:Option Addr) (cdv ct:Value) (us:List Value),us.length=ps.length->bindArgs (PySem.W.fnOf x qual (defArgs st) (defBody st) (defScope st) .none kV doc pm an cdv ct) ⟨us,[]⟩=pure (ps.zip us)):Binds K fd ps []:=by
 obtain ⟨oc,od,kV,doc,pm,an,cdv,ct,osl,rfl,lk,hcd⟩:=F.ex
 exact .all (h kV doc pm an cdv ct)
theorem fun_mk {x qual:Str} {st:Stmt} {f:Addr} {oc:Value} {od an:Option Addr} {osl:Array (Option Value)} {kV doc pm cdv ct:Value} (l:K.lookup f=some ⟨oc,od,.func (PySem.W.fnOf x qual (defArgs st) (defBody st) (defScope st) .none kV doc pm an cdv ct),osl⟩)
  (c:W.codeIn K cdv qual=true) (k:W.keepIn K (.ref f)=true):Fun K x qual st f (W.fnOf x qual (defArgs st) (defBody st) (defScope st) .none kV doc pm an cdv ct):=⟨⟨oc,od,kV,doc,pm,an,cdv,ct,osl,rfl,l,c⟩,k⟩
end
theorem small1000 {n:Nat} (h:n<=1000):n < sizeLine:=Nat.lt_of_le_of_lt h (by decide)
section
variable {X:Cx}
theorem pv (i:Nat) {x:Str} {pos:Pos} (hN:X.N[i]?=some x:=by rfl) (hv:Vis X.env.scope x:=by first | exact Or.inl rfl | exact Or.inr (Or.inl rfl) | exact Or.inr (Or.inr rfl)) (hd:(x == ("__debug__" : Str))=false:=by decide)
  (hcd:(x == ("__classdict__" : Str))=false:=by decide):PE X (.Name x pos) (tVar i):=pe_var hN hv hd hcd
end
theorem iteF {A B:Prop} (h:B):if false=true then A else B:=by
 rw [if_neg Bool.false_ne_true]
 exact h
theorem iteT {A B:Prop} (h:A):if true=true then A else B:=by
 rw [if_pos rfl]
 exact h
theorem ite2 {c A B:Prop} [Decidable c] (h1:c->A) (h2:¬ c->B):if c then A else B:=by
 by_cases h:c
 ·rw [if_pos h]
  exact h1 h
 ·rw [if_neg h]
  exact h2 h
def Same (H H':Hp):Prop:=∀ b o,H b=some o->H' b=some o
theorem Same.refl (H:Hp):Same H H:=fun _ _ h=>h
theorem Same.trans {H H1 H2:Hp} (a:Same H H1) (b:Same H1 H2):Same H H2:=fun c o h=>b c o (a c o h)
theorem Same.free {H H':Hp} (e:Same H H') {l:Addr} (h:H' l=Option.none):H l=Option.none:=by
 cases q:H l with
 | none=>rfl
 | some o =>
  rw [e l o q] at h
  cases h
theorem Same.seq {K:PySem.W.Frag} {H H':Hp} {a:Addr} {xs:List V} (e:Same H H') (h:SqL K H a xs):SqL K H' a xs:=by
 rcases h with (h | ⟨o,h⟩) | h
 ·exact .inl (.inl (e _ _ h))
 ·exact .inl (.inr ⟨o,e _ _ h⟩)
 ·exact .inr h
end L2
set_option maxHeartbeats 4000000
namespace L2
open PySem PySem.Spec PyProof.Rows
section
variable {κ:Type} [DecidableEq κ]
def valV (kvs:List (κ × V)) (k:κ):Option V:=(kvs.find? fun kv=>decide (kv.1=k)).map (·.2)
def putK (kvs:List (κ × V)) (k:κ) (v:V):List (κ × V) :=
 if (kvs.any fun kv=>decide (kv.1=k))=true then kvs.map (fun kv=>if kv.1=k then (kv.1,v) else kv) else kvs++[(k,v)]
theorem valV_pos {p:κ × V} {r:List (κ × V)} {k:κ} (e:p.1=k):valV (p::r) k=some p.2:=by simp [valV,List.find?_cons,e]
theorem valV_neg {p:κ × V} {r:List (κ × V)} {k:κ} (e:¬ p.1=k):valV (p::r) k=valV r k:=by simp [valV,List.find?_cons,e]
theorem valV_any (k:κ):∀ kvs:List (κ × V),(kvs.any fun kv=>decide (kv.1=k))=(valV kvs k).isSome
 | []=>rfl
 | p::r=>by
  rw [List.any_cons]
  by_cases e:p.1=k
  ·simp only [valV_pos e,decide_eq_true e,Bool.true_or,Option.isSome_some]
  ·rw [valV_neg e,decide_eq_false e,Bool.false_or];exact valV_any k r
theorem length_putK (kvs:List (κ × V)) (k:κ) (v:V):(putK kvs k v).length<=kvs.length+1:=by
 unfold putK
 split
 ·rw [List.length_map];omega
 ·rw [List.length_append,List.length_cons,List.length_nil];omega
theorem RelO.isSome_eq {o:Option V} {u:Option Value} (r:RelO o u):o.isSome=u.isSome:=by
 cases o with
 | none=>cases u with
  | none=>rfl
  | some _=>exact (show False from r).elim
 | some _=>cases u with
  | none=>exact (show False from r).elim
  | some _=>rfl
theorem KV.val {kvs:List (κ × V)} {vs:List (κ × Value)} (r:KV kvs vs) (k:κ):RelO (valV kvs k) (valueAt vs k):=by
 unfold KV at r
 induction r with
 | nil=>exact True.intro
 | @cons p q ps qs h t ih =>
  obtain ⟨h1,h2⟩:=h
  by_cases e:p.1=k
  ·have e':q.1=k:=h1.symm.trans e
   have b:valueAt (q::qs) k=some q.2:=by simp [valueAt,List.find?_cons,e']
   rw [valV_pos e,b];exact h2
  ·have e':¬ q.1=k:=fun z=>e (h1.trans z)
   have b:valueAt (q::qs) k=valueAt qs k:=by simp [valueAt,List.find?_cons,e']
   rw [valV_neg e,b];exact ih
theorem KV.any {kvs:List (κ × V)} {vs:List (κ × Value)} (r:KV kvs vs) (k:κ):(kvs.any fun kv=>decide (kv.1=k))=vs.any fun kv=>decide (kv.1=k):=by
 unfold KV at r
 induction r with
 | nil=>rfl
 | cons h t ih=>rw [List.any_cons,List.any_cons,ih,h.1]
theorem KV.repl {kvs:List (κ × V)} {vs:List (κ × Value)} (r:KV kvs vs) (k:κ) {y:V} {u:Value} (ry:RelV y u) :
  KV (kvs.map fun kv=>if kv.1=k then (kv.1,y) else kv) (vs.map fun kv=>if kv.1=k then (kv.1,u) else kv):=by
 unfold KV at r ⊢
 induction r with
 | nil=>exact .nil
 | @cons p q ps qs h t ih =>
  rw [List.map_cons,List.map_cons]
  refine .cons ?_ ih
  obtain ⟨h1,h2⟩:=h
  by_cases e:p.1=k
  ·rw [if_pos e,if_pos (h1.symm.trans e)];exact ⟨h1,ry⟩
  ·rw [if_neg e,if_neg (fun z=>e (h1.trans z))];exact ⟨h1,h2⟩
theorem KV.put {kvs:List (κ × V)} {vs:List (κ × Value)} (r:KV kvs vs) (k:κ) {y:V} {u:Value} (ry:RelV y u):KV (putK kvs k y) (stored vs k u):=by
 unfold putK stored
 rw [r.any k]
 by_cases e:(vs.any fun kv=>decide (kv.1=k))=true
 ·rw [if_pos e,if_pos e];exact r.repl k ry
 ·rw [if_neg e,if_neg e];exact Paired.snoc r ⟨rfl,ry⟩
theorem KV.length {kvs:List (κ × V)} {vs:List (κ × Value)} (r:KV kvs vs):kvs.length=vs.length:=Paired.length r
end
theorem kV_is {P:Program} {w:World} {k:Key} {u:Value} (r:RelV (kV k) u):(mixKind P w).is k u=true:=by
 cases k with
 | inl i=>obtain ⟨t,e⟩:=(show ∃ t,u=Value.int i t from r);subst e;exact mixKind_int P w i t
 | inr x=>obtain ⟨t,e⟩:=(show ∃ t,u=Value.str x t from r);subst e;exact mixKind_str P w x t
theorem items_are {P:Program} {w:World}:∀ {ks:List Key} {us:List Value},Vals (ks.map kV) us->ItemsAre (mixKind P w) ks us
 | [],_,r=>by rw [List.map_nil] at r;cases r;exact .nil
 | k::ks,_,r=>by
  rw [List.map_cons] at r
  cases r with
  | cons h t=>exact .cons (kV_is h) (items_are t)
abbrev KT (H:Hp):List (List Key × V)->List (List Key × Addr × Value)->Prop:=Paired fun p q=>p.1=q.1/\H q.2.1=some (.tup (p.1.map kV))/\RelV p.2 q.2.2
theorem KT.val {H:Hp} {kvs:List (List Key × V)} {xs:List (List Key × Addr × Value)} (r:KT H kvs xs) (k:List Key):RelO (valV kvs k) ((atKey xs k).map (·.2)):=by
 induction r with
 | nil=>exact True.intro
 | @cons p q ps qs h t ih =>
  obtain ⟨h1,_,h2⟩:=h
  by_cases e:p.1=k
  ·have e':q.1=k:=h1.symm.trans e
   have b:atKey (q::qs) k=some q.2:=by simp [atKey,List.find?_cons,e']
   rw [valV_pos e,b];exact h2
  ·have e':¬ q.1=k:=fun z=>e (h1.trans z)
   have b:atKey (q::qs) k=atKey qs k:=by simp [atKey,List.find?_cons,e']
   rw [valV_neg e,b];exact ih
theorem KT.repl {H:Hp} {kvs:List (List Key × V)} {xs:List (List Key × Addr × Value)} (r:KT H kvs xs) (k:List Key) {y:V} {u:Value} (ry:RelV y u) :
  KT H (kvs.map fun kv=>if kv.1=k then (kv.1,y) else kv) (xs.map (putAt k u)):=by
 induction r with
 | nil=>exact .nil
 | @cons p q ps qs h t ih =>
  rw [List.map_cons,List.map_cons]
  refine .cons ?_ ih
  obtain ⟨h1,h2,h3⟩:=h
  unfold putAt
  by_cases e:p.1=k
  ·rw [if_pos e,if_pos (h1.symm.trans e)];exact ⟨h1,h2,ry⟩
  ·rw [if_neg e,if_neg (fun z=>e (h1.trans z))];exact ⟨h1,h2,h3⟩
theorem KT.put {H:Hp} {kvs:List (List Key × V)} {xs:List (List Key × Addr × Value)} (r:KT H kvs xs) (k:List Key) {b:Addr} {y:V} {u:Value} (hb:H b=some (.tup (k.map kV))) (ry:RelV y u) :
  KT H (putK kvs k y) (storedH xs k b u):=by
 have e:(kvs.any fun kv=>decide (kv.1=k))=(atKey xs k).isSome:=by
  rw [valV_any,(r.val k).isSome_eq,Option.isSome_map]
 unfold putK storedH
 rw [e]
 by_cases q:(atKey xs k).isSome=true
 ·rw [if_pos q,if_pos q];exact r.repl k ry
 ·rw [if_neg q,if_neg q];exact Paired.snoc r ⟨rfl,hb,ry⟩
theorem KT.keeps {H H':Hp} {kvs:List (List Key × V)} {xs:List (List Key × Addr × Value)} (r:KT H kvs xs) (ht:∀ b ys,H b=some (.tup ys)->H' b=some (.tup ys)):KT H' kvs xs :=
 Paired.mapP r fun _ _ z=>⟨z.1,ht _ _ z.2.1,z.2.2⟩
section
variable {P:Program} {w:World} {H:Hp} {h:Heap} {a:Addr}
theorem rd_of {u:HO} (ok:HOk P w H h) (e:Rd H a u):ObjOk P w H h a u:=e.ok ok
theorem dk_rd {kvs:List (Key × V)} (ok:HOk P w H h) (e:Rd H a (.dK kvs)):kvs.length<=sizeLine/\(a == sysModules)=false/\∃ vs,KV kvs vs/\h.DictOf (mixKind P w) a vs :=
 show ObjOk P w H h a (.dK kvs) from rd_of ok e
theorem dk_of {kvs:List (Key × V)} (ok:HOk P w H h) (e:H a=some (.dK kvs)):kvs.length<=sizeLine/\(a == sysModules)=false/\∃ vs,KV kvs vs/\h.DictOf (mixKind P w) a vs:=dk_rd ok (.inl e)
theorem key_of {ks:List Key} (ok:HOk P w H h) (e:H a=some (.tup (ks.map kV))):(tupleKind (mixKind P w)).is h ks a:=by
 obtain ⟨_,its,r,o,h1,h2,n,h3⟩:=(show ObjOk P w H h a (.tup (ks.map kV)) from ok a _ e)
 exact ⟨o,its.toArray,n,h1,h2,h3,by simpa using items_are r⟩
theorem dt_rd {kvs:List (List Key × V)} (ok:HOk P w H h) (e:Rd H a (.dT kvs)):kvs.length<=sizeLine/\(a == sysModules)=false /\
  ∃ xs,KT H kvs xs/\h.DictOfH (tupleKind (mixKind P w)) a xs:=by
 obtain ⟨z,y,xs,r,o,es,ep,h1,h2,h3,h4,h5⟩:=(show ObjOk P w H h a (.dT kvs) from rd_of ok e)
 refine ⟨z,y,xs,r,o,es,ep,h1,h2,h3,h4,fun x hx=>?_,h5⟩
 have all:∀ {l:List (List Key × V)} {m:List (List Key × Addr × Value)},KT H l m->∀ x∈m,(tupleKind (mixKind P w)).is h x.1 x.2.1:=by
  intro l m q
  induction q with
  | nil=>intro x hx;exact nomatch hx
  | @cons p q ps qs hq t ih =>
   intro x hx
   rcases List.mem_cons.mp hx with e | hx
   ·subst e
    exact key_of ok (by rw [<- hq.1];exact hq.2.1)
   ·exact ih x hx
 exact all r x hx
theorem dt_of {kvs:List (List Key × V)} (ok:HOk P w H h) (e:H a=some (.dT kvs)):kvs.length<=sizeLine/\(a == sysModules)=false /\
  ∃ xs,KT H kvs xs/\h.DictOfH (tupleKind (mixKind P w)) a xs:=dt_rd ok (.inl e)
end
def DGet (H:Hp) (a:Addr) (y:V) (r:Option V):Prop :=
 (∃ kvs k,Rd H a (.dK kvs)/\y=kV k/\r=valV kvs k)\/∃ kvs k b,Rd H a (.dT kvs)/\y=.ref b/\H b=some (.tup (k.map kV))/\r=valV kvs k
def DPut (H:Hp) (a:Addr) (y v:V) (H':Hp):Prop :=
 (∃ kvs k,H a=some (.dK kvs)/\y=kV k/\kvs.length < sizeLine/\H'=upd H a (.dK (putK kvs k v))) \/
 ∃ kvs k b,H a=some (.dT kvs)/\y=.ref b/\H b=some (.tup (k.map kV))/\kvs.length < sizeLine/\H'=upd H a (.dT (putK kvs k v))
theorem DPut.k {H:Hp} {a:Addr} {kvs:List (Key × V)} {k:Key} {v:V} (e:H a=some (.dK kvs)) (hl:kvs.length < sizeLine):DPut H a (kV k) v (upd H a (.dK (putK kvs k v))):=.inl ⟨kvs,k,e,rfl,hl,rfl⟩
section
variable {X:Cx} {pins:List (Addr × Obj)} {σ:St} {H:Hp} {s:Shared} {a:Addr} {y v:V} {u r:Value} {o:Option V} {A:Around} {E:Value->Shared->Prop}
theorem Inv.big (I:Inv X pins σ H s):sysModules < s.heap.objs.size:=by
 have h:mainGlobals < s.heap.objs.size:=(I.mod.glob.keeps I.bk).lt
 exact Nat.lt_trans (by decide) h
theorem d_getItem {Q:Value->Shared->Prop} (hu:A.units+1 < cLine) (I:Inv X pins σ H s) (g:DGet H a y (some v)) (ry:RelV y u) (h:∀ w' s',Inv X pins σ H s'->RelV v w'->Q w' s') :
  wpAny (model X.prog X.w) A (getItem (.ref a) u) Q E s:=by
 rcases g with ⟨kvs,k,e,ey,l⟩ | ⟨kvs,k,b,e,ey,eb,l⟩
 ·subst ey
  obtain ⟨z,hd,vs,rel,dd⟩:=dk_rd I.hok e
  obtain ⟨w',hw,rw'⟩:=RelO.some_of (v:=v) (o:=valueAt vs k) (by rw [l];exact rel.val k)
  exact wpAny_getItem_of (kV_is ry) dd.mapOf hw (h w' _ (I.tok _) rw')
 ·subst ey
  cases (show u=Value.ref b from ry)
  obtain ⟨z,hd,xs,rel,dd⟩:=dt_rd I.hok e
  obtain ⟨w',hw,rw'⟩:=RelO.some_of (v:=v) (o:=(atKey xs k).map (·.2)) (by rw [l];exact rel.val k)
  obtain ⟨p,hp,hp2⟩:=Option.map_eq_some_iff.mp hw
  refine wpAny_getItem_heap (tupleKind_room_in1 hu) (key_of I.hok eb) dd hp ?_
  rw [hp2]
  exact h w' _ (I.tok _) rw'
theorem d_notIn {Q:Value->Shared->Prop} (hu:A.units+1 < cLine) (I:Inv X pins σ H s) (g:DGet H a y o) (ry:RelV y u) (h:∀ s',Inv X pins σ H s'->Q (.bool (!o.isSome)) s') :
  wpAny (model X.prog X.w) A (compareOp .NotIn u (.ref a)) Q E s:=by
 rcases g with ⟨kvs,k,e,ey,l⟩ | ⟨kvs,k,b,e,ey,eb,l⟩
 ·subst ey
  obtain ⟨z,hd,vs,rel,dd⟩:=dk_rd I.hok e
  refine wpAny_notIn_of (kV_is ry) hd dd.mapOf ?_
  rw [<- (rel.val k).isSome_eq,<- l]
  exact h _ (I.tok _)
 ·subst ey
  cases (show u=Value.ref b from ry)
  obtain ⟨z,hd,xs,rel,dd⟩:=dt_rd I.hok e
  refine wpAny_notIn_heap (tupleKind_room_in1 hu) (key_of I.hok eb) hd dd ?_
  have q:=(rel.val k).isSome_eq
  rw [Option.isSome_map] at q
  rw [<- q,<- l]
  exact h _ (I.tok _)
theorem d_write {h':Heap} {t':Nat} {ob:HO} (I:Inv X pins σ H s) (mu:Mut (H a)) (hs:Heap.SameBut a s.heap h') (he:∃ q,h'.get? a=some q) (new:ObjOk X.prog X.w (upd H a ob) h' a ob) :
  Inv X pins σ (upd H a ob) { s with heap:=h',toks:=t' } :=
 I.write (x:=a) (e:=a) mu (.inl rfl) (fun b q hb z=>(hs.2 b hb).trans z) he new
theorem dk_new {P:Program} {w:World} {H':Hp} {h':Heap} {kvs:List (Key × V)} {vs:List (Key × Value)} (z:kvs.length<=sizeLine) (hd:(a == sysModules)=false) (rel:KV kvs vs) (dd:h'.DictOf (mixKind P w) a vs) :
  ObjOk P w H' h' a (.dK kvs):=⟨z,hd,vs,rel,dd⟩
theorem d_setItem {H':Hp} {Q:Unit->Shared->Prop} (hu:A.units+1 < cLine) (I:Inv X pins σ H s) (g:DPut H a y v H') (ry:RelV y u) (rv:RelV v r) (h:∀ s',Inv X pins σ H' s'->Q () s') :
  wpAny (model X.prog X.w) A (setItem (.ref a) u r) Q E s:=by
 rcases g with ⟨kvs,k,e,ey,l,eH⟩ | ⟨kvs,k,b,e,ey,eb,l,eH⟩
 ·subst ey eH
  obtain ⟨z,hd,vs,rel,dd⟩:=dk_of I.hok e
  have hz:vs.length<=sizeLine:=by rw [<- rel.length];exact z
  have hl:(putK kvs k v).length<=sizeLine:=by have:=length_putK kvs k v;omega
  refine wpAny_setItem_pairs (hsz:=hz) (kV_is ry) dd fun h' dd' hs=>h _ ?_
  have he:∃ q,h'.get? a=some q:=let ⟨q,_,_,hq,_⟩:=dd';⟨q,hq⟩
  exact d_write I (by rw [e];exact True.intro) hs he (dk_new hl hd (rel.put k rv) dd')
 ·subst ey eH
  cases (show u=Value.ref b from ry)
  obtain ⟨z,hd,xs,rel,dd⟩:=dt_of I.hok e
  have hz:xs.length<=sizeLine:=by rw [<- Paired.length rel];exact z
  have hl:(putK kvs k v).length<=sizeLine:=by have:=length_putK kvs k v;omega
  refine wpAny_setItem_heap (hsz:=hz) (tupleKind_room_in1 hu) (key_of I.hok eb) dd fun h' dd' hs=>h _ ?_
  obtain ⟨q,es,ep,hq,h2,h3,h4,_,h5⟩:=dd'
  refine d_write I (by rw [e];exact True.intro) hs ⟨q,hq⟩ ⟨hl,hd,_,(rel.put k eb rv).keeps fun c ys ec=>?_,q,es,ep,hq,h2,h3,h4,h5⟩
  rw [upd_ne (ne_of ec e (fun z=>nomatch z))]
  exact ec
end
section
variable {X:Cx} {pins:List (Addr × Obj)} {σ:St} {H:Hp} {s:Shared} {a:Addr} {kvs:List (Key × V)} {k:Key} {u:Value} {A:Around} {E:Value->Shared->Prop}
end
def NoSl (i:Expr):Prop:=∀ ov iv,subscripted i false ov iv=operate [ov,iv] (getItem ov iv)
theorem subD_of {prog:Program} {w:World} {A:Around} {E:Value->Shared->Prop} {s:Shared} {env:Env} {value slice:Expr} {pos:Pos} {T id:String} {Q:Value->Shared->Prop}
  (hl:typeLookup (.type T) "__getitem__" = pure (some (.builtin id))) (hs:NoSl slice)
  (h:wpAny (model prog w) A (eval value env) (fun o s₁=>wpAny (model prog w) A (eval slice env) (fun i s₂=>s₂.TypeIs o T/\wpAny (model prog w) A (getItem o i) Q E s₂) E s₁) E s) :
  wpAny (model prog w) A (eval (.Subscript value slice pos) env) Q E s:=by
 refine Subscript_ (wpAny_mono h (fun o s₁ h₁=>wpAny_mono h₁ (fun i s₂ h₂=>?_) fun _ _ x=>x) fun _ _ x=>x)
 obtain ⟨hT,h₂⟩:=h₂
 unfold subscriptTail
 refine wpAny_bind ?_
 rw [getitemInPython_of_ne hT.not_modules]
 refine wpAny_bind (wpAny_specialOf hT hl ?_)
 have fin:wpAny (model prog w) A (subscripted slice false o i) (fun r s₃=>wpAny (model prog w) A (letTemporaryGo value o r >>= fun _=>pure r) Q E s₃) E s₂:=by
  rw [hs o i]
  exact wpAny_operating (wpAny_mono h₂ (fun r s₃ h₃=>wpAny_bind (wpAny_letTemporaryGo (wpAny_pure h₃))) fun _ _ x=>x)
 first
  | exact wpAny_pure (wpAny_bind fin)
  | exact wpAny_bind (wpAny_pure (wpAny_bind fin))
  | exact wpAny_bind fin
theorem dict_typeIs {X:Cx} {pins:List (Addr × Obj)} {σ:St} {H:Hp} {s:Shared} {a:Addr} {y:V} {o:Option V} (I:Inv X pins σ H s) (g:DGet H a y o):s.TypeIs (.ref a) "dict" := by
 rcases g with ⟨kvs,k,e,_,_⟩ | ⟨kvs,k,b,e,_,_,_⟩
 ·obtain ⟨_,_,vs,_,dd⟩:=dk_rd I.hok e
  exact dd.typeIs
 ·obtain ⟨_,_,xs,_,dd⟩:=dt_rd I.hok e
  exact dd.typeIs
def tDGet (td ty:TE):TE:=fun σ H Q=>td σ H fun x H1=>ty σ H1 fun y H2=>∃ a v,x=.ref a/\DGet H2 a y (some v)/\Q v H2
def tDNotIn (ty td:TE):TE:=fun σ H Q=>ty σ H fun y H1=>td σ H1 fun x H2=>∃ a o,x=.ref a/\DGet H2 a y o/\Q (.bl (!o.isSome)) H2
def sDPut (td ty tv:TE):TS:=fun D σ H=>tv σ H fun v H1=>td σ H1 fun x H2=>ty σ H2 fun y H3=>∃ a H4,x=.ref a/\DPut H3 a y v H4/\D.nx σ H4
section
variable {X:Cx} {o i e value:Expr} {pos pos' tpos:Pos} {td ty tv:TE}
theorem pe_dget (hu:X.A.units+1 < cLine) (ho:PE X o td) (hi:PE X i ty) (hs:NoSl i):PE X (.Subscript o i pos) (tDGet td ty):=by
 intro pins s σ H Q I h
 refine subD_of PySem.F.slot_dict_getitem.lookup hs (thn (ho pins s σ H _ I h) fun u s1 ⟨x,H1,I1,rx,q1⟩=>thn (hi pins s1 σ H1 _ I1 q1) fun iv s2 ⟨y,H2,I2,ry,a,v,ex,g,q2⟩=>?_)
 subst ex
 obtain rfl:u=Value.ref a:=rx
 exact ⟨dict_typeIs I2 g,d_getItem hu I2 g ry fun w' s3 I3 rw'=>⟨v,H2,I3,rw',q2⟩⟩
theorem pc_dnotin (hu:X.A.units+1 < cLine) (hi:PE X i ty) (ho:PE X o td):PC X .NotIn i o (tDNotIn ty td):=by
 intro pins s σ H Q I h
 refine thn (hi pins s σ H _ I h) fun iv s1 ⟨y,H1,I1,ry,q1⟩=>thn (ho pins s1 σ H1 _ I1 q1) fun u s2 ⟨x,H2,I2,rx,a,ov,ex,g,q2⟩=>?_
 subst ex
 obtain rfl:u=Value.ref a:=rx
 exact d_notIn hu I2 g ry fun s3 I3=>⟨.bl (!ov.isSome),H2,I3,rfl,q2⟩
theorem ps_dput (hu:X.A.units+1 < cLine) (ho:PE X o td) (hi:PE X i ty) (hv:PE X value tv) (hs:swapsWith value (some (.Subscript o i pos')) pos.line X.env=pure false) :
  PS X (.Assign [.Subscript o i pos'] value pos) (sDPut td ty tv):=by
 intro pins s σ H D I h
 refine wpAny_Assign_Subscript (thn (hv pins s σ H _ I h) fun r s1 ⟨v,H1,I1,rv,q1⟩=>thn (ho pins s1 σ H1 _ I1 q1) fun u s2 ⟨x,H2,I2,rx,q2⟩=>thn (hi pins s2 σ H2 _ I2 q2) fun iv s3 ⟨y,H3,I3,ry,a,H4,ex,g,q3⟩=>?_) hs
 subst ex
 obtain rfl:u=Value.ref a:=rx
 exact d_setItem hu I3 g ry rv fun s4 I4=>⟨σ,H4,I4,q3⟩
end
theorem dk_empty {P:Program} {w:World} {H:Hp} (h:Heap) (hb:sysModules < h.objs.size):ObjOk P w H (h.push { cls:=.type "dict",data:=.dict #[] }) h.objs.size (.dK []) :=
 ⟨Nat.zero_le _,beq_eq_false_iff_ne.mpr (Ne.symm (Nat.ne_of_lt hb)),[],.nil,Heap.DictOf.new h⟩
def tDNewK:TE:=fun _ H Q=>∀ p,H p=none->Q (.ref p) (upd H p (.dK []))
section
variable {X:Cx} {pos:Pos}
theorem pe_dnewK:PE X (.Dict [] [] pos) tDNewK:=fun pins s σ H Q I h =>
 wpAny_Dict_empty ⟨.ref s.heap.objs.size,_,I.laid (a:=s.heap.objs.size) (o:=.dK []) (t':=s.toks) (fun _ _ q=>Heap.get?_push_of_some _ q) (Nat.le_refl _) (dk_empty s.heap I.big),rfl,h _ (I.hok.fresh (Nat.le_refl _))⟩
end
section
variable {X:Cx} {pins:List (Addr × Obj)} {σ:St} {H:Hp} {s:Shared} {a:Addr} {y d:V} {u r:Value} {o:Option V} {A:Around} {E:Value->Shared->Prop}
end
section
variable {X:Cx} {o e f:Expr} {apos cpos:Pos} {td ty tx:TE}
end
section
variable {X:Cx} {pins:List (Addr × Obj)} {σ:St} {H:Hp} {s:Shared} {a:Addr} {kvs:List (Key × V)} {A:Around} {E:Value->Shared->Prop}
end
section
variable {X:Cx} {pins:List (Addr × Obj)} {σ:St} {H:Hp} {s:Shared} {a:Addr} {y:V} {u:Value} {A:Around} {E:Value->Shared->Prop}
end
section
variable {X:Cx}
end
section
variable {κ:Type} [DecidableEq κ]
theorem nd_snoc:∀ {l:List κ} {k:κ},l.Nodup->¬ k∈l->(l++[k]).Nodup
 | [],k,_,_=>by simp
 | a::r,k,h,hk=>by
  obtain ⟨h1,h2⟩:=List.nodup_cons.mp h
  show (a::(r++[k])).Nodup
  refine List.nodup_cons.mpr ⟨fun m=>?_,nd_snoc h2 fun m=>hk (List.mem_cons.mpr (Or.inr m))⟩
  rcases List.mem_append.mp m with q | q
  ·exact h1 q
  ·exact hk (List.mem_cons.mpr (Or.inl (List.mem_singleton.mp q).symm))
end
section
variable {M:Model} {A:Around} {E:Value->Shared->Prop} {s:Shared}
def clOf (env:Env):List (Str × NameKind)->List (Str × Addr)->List (Str × Addr)
 | [],acc=>acc
 | (n,k)::r,acc=>if (k == NameKind.free)=true then clOf env r ((n,(env.cells.lookup n).getD 0)::acc) else clOf env r acc
theorem clOf_loop {env:Env} (f:Str × NameKind->List (Str × Addr)->Sem (ForInStep (List (Str × Addr))))
  (hf:∀ n k cs,f (n,k) cs=if (k == NameKind.free)=true then (do let a <- cellOf env n;pure (.yield ((n,a)::cs))) else pure (.yield cs)) :
  ∀ (names:List (Str × NameKind)) (acc:List (Str × Addr)),(∀ p∈names,p.2=.free->∃ c,env.cells.lookup p.1=some c)->forIn names acc f=pure (clOf env names acc)
 | [],acc,_=>by rw [List.forIn_nil];rfl
 | (n,k)::r,acc,h=>by
  have hr:∀ p∈r,p.2=.free->∃ c,env.cells.lookup p.1=some c:=fun p hp=>h p (List.mem_cons_of_mem _ hp)
  rw [List.forIn_cons,hf,clOf]
  by_cases hk:(k == NameKind.free)=true
  ·obtain ⟨c,hc⟩:=h (n,k) List.mem_cons_self (by simpa using hk)
   have hc':env.cells.lookup n=some c:=hc
   rw [if_pos hk,if_pos hk]
   have e:cellOf env n=pure c:=by unfold cellOf;rw [hc']
   rw [e,hc']
   exact clOf_loop f hf r _ hr
  ·rw [if_neg hk,if_neg hk]
   exact clOf_loop f hf r _ hr
theorem closureFor_of {sc:Scope} {env:Env} (h:∀ p∈sc.names,p.2=.free->∃ c,env.cells.lookup p.1=some c):closureFor sc env=pure (clOf env sc.names []):=by
 unfold closureFor
 have e:=clOf_loop (env:=env) (fun (x:Str × NameKind) (r:List (Str × Addr))=>if (x.2 == NameKind.free)=true then (do let a <- cellOf env x.1;pure (ForInStep.yield ((x.1,a)::r))) else pure (ForInStep.yield r)) (fun _ _ _=>rfl) sc.names [] h
 exact (congrArg (fun m=>m >>= fun cs=>pure cs) e)
theorem clOf_mem {env:Env} {x:Str} {c:Addr}:∀ {names:List (Str × NameKind)} {acc:List (Str × Addr)},(x,c)∈clOf env names acc->(x,c)∈acc\/((x,NameKind.free)∈names/\c=(env.cells.lookup x).getD 0)
 | [],_,h=>.inl h
 | (n,k)::r,acc,h=>by
  unfold clOf at h
  split at h
  ·rename_i hk
   have hk':k=.free:=by simpa using hk
   rcases clOf_mem h with q | ⟨q,e⟩
   ·rcases List.mem_cons.mp q with q | q
    ·cases q;exact .inr ⟨by rw [hk'];exact List.mem_cons_self,rfl⟩
    ·exact .inl q
   ·exact .inr ⟨List.mem_cons_of_mem _ q,e⟩
  ·rcases clOf_mem h with q | ⟨q,e⟩
   ·exact .inl q
   ·exact .inr ⟨List.mem_cons_of_mem _ q,e⟩
theorem lookup_mem_some {β:Type} {x:Str} {c:β}:∀ {l:List (Str × β)},(x,c)∈l->∃ c',l.lookup x=some c'
 | [],h=>nomatch h
 | (n,k)::r,h=>by
  cases hx:x == n with
  | true=>exact ⟨k,by simp [List.lookup_cons,hx]⟩
  | false =>
   rcases List.mem_cons.mp h with q | q
   ·cases q;simp at hx
   ·obtain ⟨c',e⟩:=lookup_mem_some q
    exact ⟨c',by simp [List.lookup_cons,hx,e]⟩
theorem clOf_has {env:Env} {x:Str}:∀ {names:List (Str × NameKind)} {acc:List (Str × Addr)},((x,NameKind.free)∈names\/∃ c,(x,c)∈acc)->∃ c,(x,c)∈clOf env names acc
 | [],acc,h=>by
  rcases h with h | ⟨c,h⟩
  ·exact nomatch h
  ·exact ⟨c,h⟩
 | (n,k)::r,acc,h=>by
  unfold clOf
  split
  ·rename_i hk
   apply clOf_has
   rcases h with h | ⟨c,h⟩
   ·rcases List.mem_cons.mp h with q | q
    ·cases q;exact .inr ⟨_,List.mem_cons_self⟩
    ·exact .inl q
   ·exact .inr ⟨c,List.mem_cons_of_mem _ h⟩
  ·rename_i hk
   apply clOf_has
   rcases h with h | ⟨c,h⟩
   ·rcases List.mem_cons.mp h with q | q
    ·cases q;simp at hk
    ·exact .inl q
   ·exact .inr ⟨c,h⟩
theorem cellsFrom_append:∀ (names:List (Str × NameKind)) (n:Nat) (acc:List (Str × Addr)),cellsFrom n names acc=cellsFrom n names []++acc
 | [],_,_=>rfl
 | (x,k)::r,n,acc=>by
  unfold cellsFrom
  split
  ·rw [cellsFrom_append r (n+1) ((x,n)::acc),cellsFrom_append r (n+1) [(x,n)]];simp
  ·exact cellsFrom_append r n acc
theorem cellsFrom_mem {x:Str} {c:Addr}:∀ {names:List (Str × NameKind)} {n:Nat} {acc:List (Str × Addr)},(x,c)∈cellsFrom n names acc->(x,c)∈acc\/(x,NameKind.cell)∈names
 | [],_,_,h=>.inl h
 | (m,k)::r,n,acc,h=>by
  unfold cellsFrom at h
  split at h
  ·rename_i hk
   have hk':k=.cell:=by simpa using hk
   rcases cellsFrom_mem h with q | q
   ·rcases List.mem_cons.mp q with q | q
    ·cases q;exact .inr (by rw [hk'];exact List.mem_cons_self)
    ·exact .inl q
   ·exact .inr (List.mem_cons_of_mem _ q)
  ·rcases cellsFrom_mem h with q | q
   ·exact .inl q
   ·exact .inr (List.mem_cons_of_mem _ q)
theorem cellsFrom_has {x:Str}:∀ {names:List (Str × NameKind)} {n:Nat} {acc:List (Str × Addr)},((x,NameKind.cell)∈names\/∃ c,(x,c)∈acc)->∃ c,(x,c)∈cellsFrom n names acc
 | [],n,acc,h=>by
  rcases h with h | ⟨c,h⟩
  ·exact nomatch h
  ·exact ⟨c,h⟩
 | (m,k)::r,n,acc,h=>by
  unfold cellsFrom
  split
  ·apply cellsFrom_has
   rcases h with h | ⟨c,h⟩
   ·rcases List.mem_cons.mp h with q | q
    ·cases q;exact .inr ⟨_,List.mem_cons_self⟩
    ·exact .inl q
   ·exact .inr ⟨c,List.mem_cons_of_mem _ h⟩
  ·rename_i hk
   apply cellsFrom_has
   rcases h with h | ⟨c,h⟩
   ·rcases List.mem_cons.mp h with q | q
    ·cases q;simp at hk
    ·exact .inl q
   ·exact .inr ⟨c,h⟩
theorem lookup_app {β:Type} {x:Str}:∀ (l1 l2:List (Str × β)),(l1++l2).lookup x=(l1.lookup x).or (l2.lookup x)
 | [],_=>by simp
 | (n,k)::r,l2=>by
  cases hx:x == n with
  | true=>simp [List.lookup_cons,hx]
  | false=>simp [List.lookup_cons,hx,lookup_app r l2]
theorem newEnv_comp {scope:Scope} {globals:Addr} {cl:List (Str × Addr)} {qual:Str} {env:Env} {Q:Env->Shared->Prop}
  (hQ:Q { scope,locals:=s.heap.objs.size,globals,cells:=cellsFrom (s.heap.objs.size+1) scope.names cl,qual,func:=none,code:=env.code,frame:=env.frame,builtins:=env.builtins }
   { s with heap:=pushCells (s.heap.push { cls:=.type "dict",data:=.dict #[] }) scope.names }) :
  wpAny M A (newFunctionEnv scope globals cl [] qual none .none (some env)) Q E s:=by
 have z:(s.heap.push { cls:=.type "dict",data:=.dict #[] }).objs.size=s.heap.objs.size+1:=Heap.size_push ..
 show wpAny M A (alloc { cls:=.type "dict",data:=.dict #[] } >>= _) Q E s
 apply wpAny_bind;apply wpAny_alloc;apply wpAny_bind
 refine wpAny_layCells _ (fun _ k _=>by by_cases y:k=NameKind.cell<;>simp [y]) _ _ _ _ ?_
 dsimp only
 rw [List.forIn_nil,z]
 exact wpAny_bind (wpAny_pure (wpAny_pure hQ))
theorem lookup_relabel {env:Env} {x:Str}:∀ (names:List (Str × NameKind)),
  (names.map fun (n,k)=>if (k == NameKind.free && env.scope.kind == .function && env.kindOf n == some .cell) then (n,NameKind.cell) else (n,k)).lookup x =
   (names.lookup x).map fun k=>if (k == NameKind.free && env.scope.kind == .function && env.kindOf x == some .cell)=true then NameKind.cell else k
 | []=>by simp
 | (n,k)::r=>by
  have ih:=lookup_relabel (env:=env) (x:=x) r
  cases hx:x == n with
  | true =>
   have e:x=n:=by simpa using hx
   subst e
   rw [List.map_cons]
   dsimp only
   by_cases hc:(k == NameKind.free && env.scope.kind == .function && env.kindOf x == some .cell)=true
   ·rw [if_pos hc,List.lookup_cons,List.lookup_cons,hx];dsimp only [Option.map_some];rw [if_pos hc]
   ·rw [if_neg hc,List.lookup_cons,List.lookup_cons,hx];dsimp only [Option.map_some];rw [if_neg hc]
  | false =>
   rw [List.map_cons]
   dsimp only
   by_cases hc:(k == NameKind.free && env.scope.kind == .function && env.kindOf n == some .cell)=true
   ·rw [if_pos hc,List.lookup_cons,List.lookup_cons,hx];exact ih
   ·rw [if_neg hc,List.lookup_cons,List.lookup_cons,hx];exact ih
end
def cxC (X:Cx) (own:List Str) (fr:List Nat) (scope:Scope) (s2:Shared) (H2:Hp) (fp:List Addr):Cx where
 prog:=X.prog
 w:=X.w
 K:=X.K
 mg:=X.mg
 base:=X.base
 A:=X.A
 N:=own++fr.map (fun i=>X.N.getD i Str.empty)
 s₀:=s2
 H₀:=H2
 env:={ scope:=relabel scope X.env,locals:=s2.heap.objs.size+1,globals:=X.env.globals,cells:=cellsFrom (s2.heap.objs.size+2) scope.names (clOf X.env scope.names []),qual:=X.env.qual,func:=none,code:=X.env.code,frame:=X.env.frame,builtins:=X.env.builtins }
 outer:=X.stack
 stack:=X.stack
 ex:=fp
 fn:=fun x=>scope.names.lookup x == some .cell
 calm:=X.calm
 pn:=[]
 xe:=fun _ _=>False
def cSt (own:List Str) (fr:List Nat) (σ:St):St:=List.replicate own.length none++fr.map fun i=>(σ[i]?).join
def compOk (osc:List (Str × NameKind)) (N:List Str) (own:List Str) (fr:List Nat) (sc:Scope):Bool :=
 decide (sc.kind=.function) && decide ((sc.names.map (·.1)).Nodup) &&
 sc.names.all (fun y=>!(y.2 == .free) || (osc.lookup y.1 == some .cell || osc.lookup y.1 == some .free)) &&
 fr.all (fun i=>decide (i < N.length) && (sc.names.lookup (N.getD i Str.empty) == some .free))
structure CompSc (X:Cx) (own:List Str) (fr:List Nat) (sc:Scope):Prop where
 kind:sc.kind=.function
 nd:(sc.names.map (·.1)).Nodup
 fre:∀ y∈sc.names,y.2=.free->X.env.scope.names.lookup y.1=some .cell\/X.env.scope.names.lookup y.1=some .free
 frl:∀ i∈fr,i < X.N.length
 frv:∀ i∈fr,sc.names.lookup (X.N.getD i Str.empty)=some .free
theorem compSc {X:Cx} {own:List Str} {fr:List Nat} {sc:Scope} {osc:List (Str × NameKind)} {N:List Str} (h1:X.env.scope.names=osc) (h2:X.N=N) (h:compOk osc N own fr sc=true):CompSc X own fr sc:=by
 unfold compOk at h
 simp only [Bool.and_eq_true,decide_eq_true_eq,List.all_eq_true] at h
 obtain ⟨⟨⟨h3,h4⟩,h5⟩,h6⟩:=h
 refine ⟨h3,h4,fun y hy hf=>?_,fun i hi=>?_,fun i hi=>?_⟩
 ·have:=h5 y hy
  rw [h1]
  simpa [hf] using this
 ·rw [h2];exact (h6 i hi).1
 ·rw [h2];simpa using (h6 i hi).2
theorem lookup_of_mem_nd {x:Str} {k:NameKind}:∀ {l:List (Str × NameKind)},(l.map (·.1)).Nodup->(x,k)∈l->l.lookup x=some k
 | [],_,h=>nomatch h
 | (n,q)::r,nd,h=>by
  rcases List.mem_cons.mp h with e | e
  ·cases e;simp [List.lookup_cons]
  ·have nd':=List.nodup_cons.mp nd
   have hne:(x == n)=false:=by
    have:x≠n:=fun z=>nd'.1 (by rw [<- z];exact List.mem_map.mpr ⟨_,e,rfl⟩)
    simpa using this
   rw [List.lookup_cons,hne]
   exact lookup_of_mem_nd nd'.2 e
section
variable {X:Cx} {pins:List (Addr × Obj)} {σ:St} {H:Hp} {s:Shared} {own:List Str} {fr:List Nat} {sc:Scope} {fp:List Addr}
abbrev hC (s:Shared) (sc:Scope) (h1:Heap):Heap:=pushCells (h1.push { cls:=.type "dict",data:=.dict #[] }) sc.names
theorem inv_comp (I : Inv X pins σ H s) (S : CompSc X own fr sc) (hfp : ∀ b ∈ fp, FpOk X pins H b) {h1 : Heap} (hz : h1.objs.size = s.heap.objs.size + 1) (hk : ∀ b o, s.heap.get? b = some o → h1.get? b = some o) (hfl : ∀ b ∈ fp, @LT.lt Nat _ b s.heap.objs.size) :
    Inv (cxC X own fr sc s H fp) [] (cSt own fr σ) H { s with heap := hC s sc h1 } := by
  have kk : ∀ b o, s.heap.get? b = some o → (hC s sc h1).get? b = some o := fun b o e => pushCells_keeps _ _ b o (Heap.get?_push_of_some _ (hk b o e))
  have nsC : (hC s sc h1).Ns (s.heap.objs.size + 1) (fun _ => none) := by
    have q := (Heap.Ns.new h1 (.type "dict")).keeps (pushCells_keeps sc.names _)
    rw [hz] at q
    exact q
  have ok := cellsFrom_ok sc.names (h1.push { cls := .type "dict", data := .dict #[] }) (s.heap.objs.size + 2) [] ⟨fun _ _ hm => (nomatch hm), List.Pairwise.nil⟩ (by rw [Heap.size_push, hz]; exact Nat.le_refl _)
  rw [Heap.size_push, hz] at ok
  have fcell : ∀ y ∈ sc.names, y.2 = .free → ∃ c, X.env.cells.lookup y.1 = some c := fun y hy hf => I.ok.has y.1 (by
    rcases S.fre y hy hf with q | q
    · exact .inl q
    · exact .inr q)
  have old : ∀ x c, (clOf X.env sc.names []).lookup x = some c → X.env.cells.lookup x = some c ∧ (x, NameKind.free) ∈ sc.names := fun x c e => by
    rcases clOf_mem (PySem.mem_of_lookup e) with q | ⟨q, e2⟩
    · exact nomatch q
    · obtain ⟨c', e3⟩ := fcell _ q rfl
      have e3' : X.env.cells.lookup x = some c' := e3
      rw [e3'] at e2
      have : c = c' := e2
      subst this
      exact ⟨e3', q⟩
  have cs : ∀ x c, (cxC X own fr sc s H fp).env.cells.lookup x = some c → ((cellsFrom (s.heap.objs.size + 2) sc.names []).lookup x = some c ∧ @LE.le Nat _ (s.heap.objs.size + 2) c) ∨ (X.env.cells.lookup x = some c ∧ (x, NameKind.free) ∈ sc.names ∧ @LT.lt Nat _ c s.heap.objs.size) := fun x c e => by
    have e' : (cellsFrom (s.heap.objs.size + 2) sc.names (clOf X.env sc.names [])).lookup x = some c := e
    rw [cellsFrom_append, lookup_app] at e'
    cases q : (cellsFrom (s.heap.objs.size + 2) sc.names []).lookup x with
    | some c' =>
      rw [q] at e'
      have : c' = c := by simpa using e'
      subst this
      exact .inl ⟨rfl, (ok.empty x c' (PySem.mem_of_lookup q)).2⟩
    | none =>
      rw [q] at e'
      obtain ⟨e1, e2⟩ := old x c (by simpa using e')
      obtain ⟨v, hv⟩ := I.cell x c e1
      exact .inr ⟨e1, e2, hv.lt⟩
  have okY : (cxC X own fr sc s H fp).Ok := by
    refine ⟨I.ok.mod, S.kind, I.ok.glob, I.ok.blt, Nat.le_succ _, fun x y c h1 h2 => ?_, fun x hx => ?_, fun x c hf e => ?_, I.ok.hd, I.ok.frames, .inl rfl, fun b hb => ⟨?_, fun x c e => ?_⟩, fun b o e => I.bs b o e, Nat.le_trans I.ok.bsz I.sz, fun b o e hb => ?_, fun b hb z => ?_, I.stack, I.stkFree⟩
    · rcases cs x c h1 with ⟨q1, g1⟩ | ⟨q1, _, g1⟩
      · rcases cs y c h2 with ⟨q2, g2⟩ | ⟨q2, _, g2⟩
        · exact name_of_addr ok.apart (PySem.mem_of_lookup q1) (PySem.mem_of_lookup q2)
        · omega
      · rcases cs y c h2 with ⟨q2, g2⟩ | ⟨q2, _, g2⟩
        · omega
        · exact I.ok.inj x y c q1 q2
    · -- a cell or free name of the block has its cell
      have hx' : (relabel sc X.env).names.lookup x = some .cell ∨ (relabel sc X.env).names.lookup x = some .free := hx
      have hl : sc.names.lookup x = some .cell ∨ sc.names.lookup x = some .free := by
        unfold relabel at hx'
        rw [lookup_relabel] at hx'
        cases q : sc.names.lookup x with
        | none => rw [q] at hx'; simp at hx'
        | some k =>
          rw [q] at hx'
          cases k <;> simp at hx' ⊢
      have hm : ∃ c, (x, c) ∈ cellsFrom (s.heap.objs.size + 2) sc.names (clOf X.env sc.names []) := by
        rcases hl with hl | hl
        · exact cellsFrom_has (.inl (PySem.mem_of_lookup hl))
        · exact cellsFrom_has (.inr (clOf_has (.inl (PySem.mem_of_lookup hl))))
      obtain ⟨c, hm⟩ := hm
      exact lookup_mem_some hm
    · have hf' : sc.names.lookup x = some .cell := by simpa using (show (sc.names.lookup x == some .cell) = true from hf)
      show @LE.le Nat _ s.heap.objs.size c
      rcases cs x c e with ⟨_, g⟩ | ⟨_, q, _⟩
      · omega
      · rw [lookup_of_mem_nd S.nd q] at hf'; cases hf'
    · have := hfl b hb
      show @Ne Nat b (s.heap.objs.size + 1)
      omega
    · intro z
      subst z
      rcases cs x c e with ⟨_, g⟩ | ⟨q, _, _⟩
      · have := hfl c hb; omega
      · exact (hfp c hb).2.2.2.2.1 x c q rfl
    · rcases (hfp b hb).2.2.2.1 with z | z
      · exact I.ok.noex b o e z
      · have z1 : @LT.lt Nat _ b X.base.objs.size := Heap.lt_size e
        have z2 : X.base.objs.size ≤ X.s₀.heap.objs.size := I.ok.bsz
        have z3 : @LE.le Nat _ X.s₀.heap.objs.size b := z
        omega
    · rcases List.mem_cons.mp (I.stkSub b z) with e | e
      · exact (hfp b hb).2.1 e
      · exact (hfp b hb).2.2.1 e
  refine ⟨okY, rfl, I.bare, Un.kept kk, ⟨_, nsC, fun i x v h1 h2 h3 => ?_⟩, fun x c e => ?_, I.hok.fresh (Nat.le_succ _), fun x c e => ?_, fun p hp => absurd (show p ∈ ([] : List (Addr × Obj)) from hp) (by simp), I.hok.kept kk, ?_⟩
  · -- an outer name that is read
    have hi : own.length ≤ i := by
      by_cases hi : i < own.length
      · exfalso
        unfold cSt at h2
        rw [List.getElem?_append_left (by simpa using hi), List.getElem?_replicate] at h2
        split at h2 <;> cases h2
      · omega
    have h1' : (own ++ fr.map (fun i => X.N.getD i Str.empty))[i]? = some x := h1
    rw [List.getElem?_append_right hi, List.getElem?_map] at h1'
    unfold cSt at h2
    rw [List.getElem?_append_right (by simpa using hi), List.getElem?_map, List.length_replicate] at h2
    cases e : fr[i - own.length]? with
    | none => rw [e] at h1'; cases h1'
    | some k =>
      rw [e] at h1' h2
      have hkm : k ∈ fr := List.mem_of_getElem? e
      have ex : X.N.getD k Str.empty = x := by simpa using h1'
      have ev : (σ[k]?).join = some v := by simpa using h2
      have hkl := S.frl k hkm
      have eN : X.N[k]? = some x := by rw [← ex]; simp [List.getD, hkl]
      have eσ : σ[k]? = some (some v) := by
        cases q : σ[k]? with
        | none => rw [q] at ev; cases ev
        | some o => rw [q] at ev; cases o with
          | none => cases ev
          | some v' => have : v' = v := by simpa using ev
                       subst this; rfl
      have hfr := S.frv k hkm
      rw [ex] at hfr
      have hmem : (x, NameKind.free) ∈ sc.names := PySem.mem_of_lookup hfr
      have hkd := S.fre _ hmem rfl
      have hkd' : X.env.scope.names.lookup x = some .cell ∨ X.env.scope.names.lookup x = some .free := hkd
      obtain ⟨m, hn, hl⟩ := I.loc
      obtain ⟨u, r, l⟩ := hl k x v eN eσ (hkd'.elim (fun z => .inr (.inl z)) fun z => .inr (.inr z))
      refine ⟨u, r, ?_⟩
      rcases l with ⟨z, _⟩ | ⟨_, c, hc, hcell⟩
      · exfalso
        have z' : X.env.scope.names.lookup x = some .local := z
        rcases hkd' with q | q <;> (rw [q] at z'; cases z')
      · refine .inr ⟨?_, c, ?_, hcell.keeps kk⟩
        · show (relabel sc X.env).names.lookup x = some .cell ∨ (relabel sc X.env).names.lookup x = some .free
          unfold relabel
          rw [lookup_relabel, hfr]
          simp only [Option.map_some]
          split
          · exact .inl rfl
          · exact .inr rfl
        · show (cellsFrom (s.heap.objs.size + 2) sc.names (clOf X.env sc.names [])).lookup x = some c
          rw [cellsFrom_append, lookup_app]
          have h0 : (cellsFrom (s.heap.objs.size + 2) sc.names []).lookup x = none := by
            cases q : (cellsFrom (s.heap.objs.size + 2) sc.names []).lookup x with
            | none => rfl
            | some c' =>
              exfalso
              rcases cellsFrom_mem (PySem.mem_of_lookup q) with z | z
              · exact nomatch z
              · rw [lookup_of_mem_nd S.nd z] at hfr; cases hfr
          rw [h0]
          obtain ⟨c', hm'⟩ := clOf_has (env := X.env) (acc := []) (.inl hmem)
          obtain ⟨c2, e2⟩ := lookup_mem_some hm'
          obtain ⟨e3, _⟩ := old x c2 e2
          rw [hc] at e3
          rw [e2]
          simpa using e3.symm
  · rcases cs x c e with ⟨q, _⟩ | ⟨q, _, _⟩
    · exact ⟨_, (ok.empty x c (PySem.mem_of_lookup q)).1⟩
    · obtain ⟨v, hv⟩ := I.cell x c q
      exact ⟨v, hv.keeps kk⟩
  · rcases cs x c e with ⟨_, g⟩ | ⟨q, _, _⟩
    · exact I.hok.fresh (by omega)
    · exact I.freeC x c q
  · unfold cSt
    show _ = (own ++ fr.map (fun i => X.N.getD i Str.empty)).length
    simp
theorem inv_back {own:List Str} {fr:List Nat} {sc:Scope} {fp:List Addr} {H1:Hp} {s1:Shared} {σ1:St} {pins1:List (Addr × Obj)} {h':Heap} {o:HO} {D:Addr}
  (I:Inv X pins σ H s) (hfp:∀ b∈fp,FpOk X pins H b) (I1:Inv (cxC X own fr sc s H fp) pins1 σ1 H1 s1) (hD:@LE.le Nat _ s.heap.objs.size D) (hDn:H1 D=none) (hDC:D≠s.heap.objs.size+1)
  (hs:Heap.SameBut (s.heap.objs.size+1) s1.heap h') (hO:ObjOk X.prog X.w (upd H1 D o) h' D o) (tk:Nat):Inv X pins σ (upd H1 D o) { s1 with heap:=h',toks:=tk }:=by
 have u:=I1.base
 have hCn:H1 (s.heap.objs.size+1)=none:=I1.free
 have hDo:∀ b ob,s.heap.get? b=some ob->b≠D:=fun b ob e z=>by
  have:=Heap.lt_size e
  have z':@Eq Nat b D:=z
  have q:@LT.lt Nat _ b s.heap.objs.size:=this
  omega
 have hCo:∀ b ob,s.heap.get? b=some ob->b≠s.heap.objs.size+1:=fun b ob e z=>by
  have q:@LT.lt Nat _ b s.heap.objs.size:=Heap.lt_size e
  have z':@Eq Nat b (s.heap.objs.size+1):=z
  omega
 have hDs:H D=none:=I.hok.fresh hD
 have cut:∀ b ob,s.heap.get? b=some ob->∀ oc,s1.heap.get? b=some oc->h'.get? b=some oc:=fun b ob e oc q=>(hs.2 b (hCo b ob e)).trans q
 refine Inv.call' (ch:=fp) I (s':={ s1 with heap:=h',toks:=tk }) I1.os ?_ ?_ I1.bare fun b hb=>⟨(hfp b hb).2.2.2.1,(hfp b hb).2.1,(hfp b hb).2.2.2.2.1,(hfp b hb).2.2.2.2.2⟩
 ·refine ⟨fun b ob e n hb hx=>cut b ob e _ (u.keep b ob e n hb hx),fun b ob e n hb hx=>?_,fun b ob e n hx=>?_,fun b ob e hx=>?_,fun b xs e=>?_,fun b ob xs e=>?_,fun b ps e=>?_⟩
  ·obtain ⟨sl,q⟩:=u.slot b ob e n hb hx
   exact ⟨sl,cut b ob e _ q⟩
  ·rw [upd_ne (hDo b ob e)];exact u.free b ob e n hx
  ·obtain ⟨o',q⟩:=u.there b ob e hx
   exact ⟨o',cut b ob e _ q⟩
  ·rw [upd_ne (ne_of_none e hDs)];exact u.tups b xs e
  ·rw [upd_ne (ne_of_none e hDs)];exact u.frzs b ob xs e
  ·rw [upd_ne (ne_of_none e hDs)];exact u.tbls b ps e
 ·intro b ob e
  by_cases hb:b=D
  ·subst hb;rw [upd_same] at e;cases e;exact hO
  ·rw [upd_ne hb] at e
   refine (I1.hok b ob e).stay (fun c q hc g=>?_) (fun c q=>by rw [upd_ne (ne_of_none q hDn)];exact q) fun c xs q=>by rw [upd_ne (ne_of_none q hDn)];exact q
   refine (hs.2 c ?_).trans g
   rcases hc with z | z
   ·rw [z];exact ne_of_none e hCn
   ·exact ne_of_none z hCn
end
abbrev Nev:Value->Shared->Prop:=fun _ _=>False
def oneTest (env:Env) (c:Expr) (b:Bool):Sem (ForInStep Bool) :=
 if b=true then (isTrue c env (eval c env) >>= fun b'=>pure (.yield b')) else pure (.yield b)
def allTests (env:Env) (cs:List Expr):Sem Bool:=forIn cs true (oneTest env)
structure Blk where
 add:Expr
 tgt:Expr
 src:Expr
 cs:List Expr
 sc:Scope
 pos:Pos
namespace Blk
variable (B:Blk)
abbrev expr:Expr:=.ListComp B.add [⟨B.tgt,B.src,B.cs,0⟩] B.sc B.pos
section
variable (prog:Program) (w:World) (A:Around) (env:Env) (it acc:Value)
abbrev Tame {α:Type} (e:Sem α) (Q:α->Shared->Prop) (s:Shared):Prop:=wpAny (model prog w) A e Q Nev s
def Lays (J:Shared->Prop):Bool->Shared->Prop
 | false,s=>J s
 | true,s=>Tame prog w A (eval B.add env) (fun x=>Tame prog w A (call (.builtin "list.append") [acc,x]) fun _=>J) s
def Takes (J:Shared->Prop) (v:Value):Shared->Prop :=
 Tame prog w A (letOwnedTupleGo B.tgt it v) fun _=>Tame prog w A (assign B.tgt env v) fun _=>Tame prog w A (allTests env B.cs) (B.Lays prog w A env acc J)
def Next (D J:Shared->Prop):Option Value->Shared->Prop
 | none=>D
 | some v=>B.Takes prog w A env it acc J v
end
theorem loops {B:Blk} {prog:Program} {w:World} {A:Around} {env:Env} {it acc:Value} {R:Result->Shared->Prop} (G:Nat->Shared->Prop)
  (turn:∀ k t,G k t->Tame prog w A (pyNext it) (B.Next prog w A env it acc (R (.ok .next)) fun u=>∃ j,j < k/\G j u) t)
  {k:Nat} {t:Shared} (g:G k t):codeAny (model prog w) A (.compLoop B.expr 0 it acc env) R t:=by
 have one:∀ k t,G k t->Tame prog w A (compTurn B.expr 0 it acc env) (fun x t'=>match x with | .done r=>R (.ok r) t' | .again c=>c=.compLoop B.expr 0 it acc env/\∃ j,j < k/\G j t') t:=by
  intro k t g
  rw [show B.expr=.ListComp B.add [⟨B.tgt,B.src,B.cs,0⟩] B.sc B.pos from rfl,compTurn_list]
  apply wpAny_bind;apply wpAny_standAt;apply wpAny_bind
  refine thn (turn k t g) fun x t1 h1=>?_
  match x,h1 with
  | none,h1=>exact wpAny_pure h1
  | some v,h1 =>
   apply wpAny_bind;refine thn h1 fun _ t2 h2=>?_
   apply wpAny_bind;refine thn h2 fun _ t3 h3=>?_
   apply wpAny_bind;refine thn h3 fun b t4 h4=>?_
   match b,h4 with
   | false,h4=>exact wpAny_pure ⟨rfl,h4⟩
   | true,h4 =>
    apply wpAny_bind;apply wpAny_bind
    refine thn h4 fun y t5 h5=>?_
    apply wpAny_bind
    refine thn h5 fun _ t6 h6=>?_
    exact wpAny_pure (wpAny_pure ⟨rfl,h6⟩)
 exact codeAny_loop rfl G (fun k t g=>wpAny_noted (wpAny_mono (one k t g) (fun _ _ q=>q) fun _ _ f=>f.elim)) k g
end Blk
def PIfs (X:Cx) (ifs:List Expr) (t:TT):Prop :=
 ∀ (pins:List (Addr × Obj)) (s:Shared) (σ:St) (H:Hp) (Q:Bool->Hp->Prop),Inv X pins σ H s->t σ H Q ->
  wpAny (model X.prog X.w) X.A (allTests X.env ifs) (TP X pins σ Q) X.xe s
def tYes:TT:=fun _ H Q=>Q true H
theorem pifs_nil {X:Cx}:PIfs X [] tYes:=fun _ _ _ H _ I h=>wpAny_tests_nil ⟨H,I,h⟩
theorem pifs_one {X:Cx} {c:Expr} {t:TT} (h:PT X c t):PIfs X [c] t:=fun pins s σ H Q I q=>wpAny_tests_one (h pins s σ H Q I q)
def GK (n:Nat) (g:TG):Prop:=∀ v σ H Q,g v σ H Q->g v σ H fun σ' H'=>Q σ' H'/\σ'.length=σ.length/\∀ j,n<=j->σ'[j]?=σ[j]?
def GKs (n:Nat) (g:TGs):Prop:=∀ vs σ H Q,g vs σ H Q->g vs σ H fun σ' H'=>Q σ' H'/\σ'.length=σ.length/\∀ j,n<=j->σ'[j]?=σ[j]?
theorem gk_name {n i:Nat} (h:i < n):GK n (gName i):=fun v σ H Q q=>⟨q,by simp,fun j hj=>by rw [List.getElem?_set_ne (by omega)]⟩
theorem gks_nil {n:Nat}:GKs n gNil:=fun vs σ H Q q=>⟨q.1,q.2,rfl,fun _ _=>rfl⟩
theorem gks_cons {n:Nat} {t:TG} {u:TGs} (m:∀ v σ H Q Q',(∀ σ' H',Q σ' H'->Q' σ' H')->t v σ H Q->t v σ H Q') (mu:∀ v σ H Q Q',(∀ σ' H',Q σ' H'->Q' σ' H')->u v σ H Q->u v σ H Q') (h1:GK n t) (h2:GKs n u):GKs n (gCons t u):=fun vs σ H Q ⟨v,r,e,q⟩ =>
 ⟨v,r,e,m _ _ _ _ _ (fun σ' H' ⟨q',l1,k1⟩=>mu _ _ _ _ _ (fun σ2 H2 ⟨q2,l2,k2⟩=>⟨q2,l2.trans l1,fun j hj=>(k2 j hj).trans (k1 j hj)⟩) (h2 _ _ _ _ q')) (h1 _ _ _ _ q)⟩
theorem gk_tup {K:PySem.W.Frag} {n k:Nat} {t:TGs} (h:GKs n t):GK n (gTup K k t):=fun v σ H Q ⟨a,xs,e,sq,l,q⟩=>⟨a,xs,e,sq,l,h _ _ _ _ q⟩
theorem gn_mono {i:Nat}:∀ v σ H Q Q',(∀ σ' H',Q σ' H'->Q' σ' H')->gName i v σ H Q->gName i v σ H Q':=fun _ _ _ _ _ m q=>m _ _ q
theorem gnil_mono:∀ v σ H Q Q',(∀ σ' H',Q σ' H'->Q' σ' H')->gNil v σ H Q->gNil v σ H Q':=fun _ _ _ _ _ m q=>⟨q.1,m _ _ q.2⟩
theorem gcons_mono {t:TG} {u:TGs} (m:∀ v σ H Q Q',(∀ σ' H',Q σ' H'->Q' σ' H')->t v σ H Q->t v σ H Q') (mu:∀ v σ H Q Q',(∀ σ' H',Q σ' H'->Q' σ' H')->u v σ H Q->u v σ H Q'):∀ v σ H Q Q',(∀ σ' H',Q σ' H'->Q' σ' H')->gCons t u v σ H Q->gCons t u v σ H Q' :=
 fun _ _ _ _ _ mq ⟨v,r,e,q⟩=>⟨v,r,e,m _ _ _ _ _ (fun _ _ q'=>mu _ _ _ _ _ mq q') q⟩
theorem gk_two {K:PySem.W.Frag} {n k i j:Nat} (h1:i < n) (h2:j < n):GK n (gTup K k (gCons (gName i) (gCons (gName j) gNil))) :=
 gk_tup (gks_cons gn_mono (gcons_mono gn_mono gnil_mono) (gk_name h1) (gks_cons gn_mono gnil_mono (gk_name h2) gks_nil))
def lcLoop (own : List Str) (fr : List Nat) (g : TG) (tt : TT) (te : TE) (σ : St) (Q : VK) (J : It) (H1 : Hp) : Prop :=
  ∃ W : Nat → Nat → List V → Hp → Prop, (∃ m, W 0 m [] H1) ∧ ∀ i m ys H2, W i m ys H2 → ys.length ≤ sizeLine ∧
    ((J.stop i H2 ∧ ∀ D, H2 D = none → Q (.ref D) (upd H2 D (.lst ys))) ∨
     (J.go i H2 ∧ ∀ x H3, J.yld i H2 x H3 → g x (cSt own fr σ) H3 fun σ4 H4 => tt σ4 H4 fun b H5 => if b = true then te σ4 H5 fun y H6 => ∃ m', m' < m ∧ W (i + 1) m' (ys ++ [y]) H6 else ∃ m', m' < m ∧ W (i + 1) m' ys H5))
def tLC (own:List Str) (fr:List Nat) (wi:TI) (g:TG) (tt:TT) (te:TE):TE:=fun σ H Q=>wi σ H (lcLoop own fr g tt te σ Q)
section
variable {X:Cx} {own:List Str} {fr:List Nat} {sc:Scope} {tg iter elt:Expr} {ifs:List Expr} {pos:Pos} {wi:TI} {g:TG} {tt:TT} {te:TE}
theorem lc_core {pins:List (Addr × Obj)} {σ:St} {H2:Hp} {s2:Shared} {Q:VK} {it:Addr} {fp:List Addr} {tn:Nat->Heap->Prop} {J:It} {RR:Value->Addr->Result->Shared->Prop} {E:Value->Shared->Prop} (hc:X.calm=true) (S:CompSc X own fr sc) (gk:GK own.length g)
  (hg:∀ s H fp,PG (cxC X own fr sc s H fp) tg g) (ht:∀ s H fp,PIfs (cxC X own fr sc s H fp) ifs tt) (he:∀ s H fp,PE (cxC X own fr sc s H fp) elt te)
  (I2:Inv X pins σ H2 s2) (T:Turn X.prog X.w X.K tg J fp it tn) (st2:tn 0 s2.heap) (f2:∀ b∈fp,FpOk X pins H2 b) (L:lcLoop own fr g tt te σ Q J H2)
  (hRR:∀ D C s',(∃ m,s'.heap.Ns C m)->@LE.le Nat _ s2.heap.objs.size C->(∃ H',H' C=none/\Q (.ref D) H'/\∀ h' tk,Heap.SameBut C s'.heap h'->Inv X pins σ H' { s' with heap:=h',toks:=tk })->RR (.ref D) C (.ok .next) s') :
  wpAny (model X.prog X.w) X.A (newList []) (fun acc s₃=>wpAny (model X.prog X.w) X.A (newFunctionEnv sc X.env.globals (clOf X.env sc.names []) [] X.env.qual none .none (some X.env)) (fun cenv s₄ =>
   codeAny (model X.prog X.w) X.A (.compStart (.ListComp elt [⟨tg,iter,ifs,0⟩] sc pos) 0 (.ref it) acc { cenv with scope:=relabel sc X.env }) (RR acc cenv.locals) s₄) E s₃) E s2:=by
 obtain ⟨W,⟨m0,w0⟩,turn⟩:=L
 refine wpAny_newObj_type (newEnv_comp ?_)
 dsimp only
 generalize hh1:s2.heap.push { cls:=.type "list",dict:=none,data:=.seq ([]:List Value).toArray }=h1
 have hz:h1.objs.size=s2.heap.objs.size+1:=by rw [<- hh1,Heap.size_push]
 have hk1:∀ b o,s2.heap.get? b=some o->h1.get? b=some o:=fun b o e=>by rw [<- hh1];exact Heap.get?_push_of_some _ e
 have hD1:h1.get? s2.heap.objs.size=some { cls:=.type "list",data:=.seq ([]:List Value).toArray }:=by rw [<- hh1];exact Heap.get?_push_size _ rfl
 have hfl:∀ b∈fp,@LT.lt Nat _ b s2.heap.objs.size:=fun b hb=>by
  obtain ⟨o,e,_⟩:=T.obj _ _ st2 b hb
  exact Heap.lt_size e
 have I3:=inv_comp I2 S f2 hz hk1 hfl
 rw [hz]
 generalize hY:cxC X own fr sc s2 H2 fp=Y at I3
 have hD3:(hC s2 sc h1).get? s2.heap.objs.size=some { cls:=.type "list",data:=.seq ([]:List Value).toArray }:=pushCells_keeps _ _ _ _ (Heap.get?_push_of_some _ hD1)
 have st3:tn 0 (hC s2 sc h1):=T.keep _ _ _ st2 fun b _ o e=>pushCells_keeps _ _ _ _ (Heap.get?_push_of_some _ (hk1 b o e))
 have eP:Y.prog=X.prog:=by rw [<- hY];rfl
 have eW:Y.w=X.w:=by rw [<- hY];rfl
 have eK:Y.K=X.K:=by rw [<- hY];rfl
 have eA:Y.A=X.A:=by rw [<- hY];rfl
 have eX:Y.xe=Nev:=by rw [<- hY];rfl
 have ecm:Y.calm=true:=by rw [<- hY];exact hc
 have eEnv:({ scope:=relabel sc X.env,locals:=s2.heap.objs.size+1,globals:=X.env.globals,cells:=cellsFrom (s2.heap.objs.size+1+1) sc.names (clOf X.env sc.names []),qual:=X.env.qual,func:=none,code:=X.env.code,frame:=X.env.frame,builtins:=X.env.builtins }:Env)=Y.env:=by rw [<- hY];rfl
 have eL:Y.env.locals=s2.heap.objs.size+1:=by rw [<- hY];rfl
 rw [eEnv]
 have hg':PG Y tg g:=hY ▸ hg s2 H2 fp
 have ht':PIfs Y ifs tt:=hY ▸ ht s2 H2 fp
 have he':PE Y elt te:=hY ▸ he s2 H2 fp
 have dfp:s2.heap.objs.size ∉ fp:=fun z=>Nat.lt_irrefl _ (hfl _ z)
 have dC:s2.heap.objs.size≠s2.heap.objs.size+1:=Nat.ne_of_lt (Nat.lt_succ_self _)
 have cellN:∀ x c,Y.env.cells.lookup x=some c->c≠s2.heap.objs.size:=fun x c e z=>by
  obtain ⟨v,o,q,d⟩:=I3.cell x c e
  rw [z] at q
  have q':=hD3.symm.trans q
  cases q'
  cases d
 have hDfs:s2.heap.objs.size ∉ Y.fs:=by
  rw [<- hY]
  intro z
  rcases List.mem_cons.mp (I2.stkSub _ z) with e | e
  ·exact Nat.lt_irrefl _ (by have:=I2.lt;rw [<- e] at this;exact this)
  ·exact I2.nofs (Nat.le_refl _) e
 have hD0:@LE.le Nat _ Y.s₀.heap.objs.size s2.heap.objs.size:=by rw [<- hY];exact Nat.le_refl _
 have fpY:∀ {H':Hp} {pp:List (Addr × Obj)},(∀ b∈fp,H' b=none)->(∀ p∈pp,p.1 ∉ fp)->∀ b∈fp,FpOk Y pp H' b:=fun {H' pp} hn hp b hb=>by
  refine ⟨hn b hb,?_,?_,?_,?_,fun p hq z=>?_⟩
  ·have:=hfl b hb;rw [eL];intro z;have z':@Eq Nat b (s2.heap.objs.size+1):=z;omega
  ·rw [<- hY]
   intro z
   rcases List.mem_cons.mp (I2.stkSub _ z) with e | e
   ·exact (f2 b hb).2.1 e
   ·exact (f2 b hb).2.2.1 e
  ·exact .inl (by rw [<- hY];exact hb)
  ·exact (I3.ok.exf b (by rw [<- hY];exact hb)).2
  ·rcases List.mem_append.mp hq with q | q
   ·have:p∈([]:List (Addr × Obj)):=by rw [<- hY] at q;exact q
    exact nomatch this
   ·exact hp p q (z ▸ hb)
 have pinD:∀ {H':Hp} {s':Shared} {σ':St} {ob:Obj},Inv Y [] σ' H' s'->H' s2.heap.objs.size=none->s'.heap.get? s2.heap.objs.size=some ob->(∀ v,ob.data≠.cell v)->Inv Y [(s2.heap.objs.size,ob)] σ' H' s':=fun {H' s' σ' ob} J0 hn e d =>
  J0.pins_of fun p hp=>by
   have:p=(s2.heap.objs.size,ob):=by simpa using hp
   subst this
   exact ⟨e,hn,by rw [eL];exact dC,hDfs,d⟩
 have fpp:∀ {ob:Obj} (p:Addr × Obj),p∈[(s2.heap.objs.size,ob)]->p.1 ∉ fp:=fun {ob} p hp=>by
  have:p=(s2.heap.objs.size,ob):=by simpa using hp
  subst this;exact dfp
 have loop:codeAny (model X.prog X.w) X.A (.compLoop (.ListComp elt [⟨tg,iter,ifs,0⟩] sc pos) 0 (.ref it) (.ref s2.heap.objs.size) Y.env) (RR (.ref s2.heap.objs.size) (s2.heap.objs.size+1)) { s2 with heap:=hC s2 sc h1 }:=by
  refine Blk.loops (B:=⟨elt,tg,iter,ifs,sc,pos⟩) (fun n s'=>∃ i ys us k H',W i n ys H'/\Inv Y [] (cSt own fr σ) H' s'/\tn i s'.heap/\(∀ b∈fp,H' b=none)/\H' s2.heap.objs.size=none/\s'.heap.get? s2.heap.objs.size=some { cls:=.type "list",data:=.seq (List.toArray us) k }/\Vals ys us) ?_ (k:=m0)
   ⟨0,[],[],_,H2,w0,I3,st3,fun b hb=>(f2 b hb).1,I2.hok.fresh (Nat.le_refl _),hD3,.nil⟩
  rintro n s' ⟨i,ys,us,k,H',w',J0,st',fr',hDn,hDo,rv⟩
  obtain ⟨hyl,cases'⟩:=turn i n ys H' w'
  have J1:=pinD J0 hDn hDo (fun v z=>nomatch z)
  rcases cases' with ⟨stop,fin⟩ | ⟨go,step⟩
  ·have d0:=T.done Y eP eW eK ecm i _ s' _ H' Nev J1 (fpY fr' fpp) st' stop
   rw [eA] at d0
   refine wpAny_mono d0 (fun r s4 ⟨hr,J4⟩=>?_) fun _ _ z=>z
   subst hr
   have pD:=(J4.pin (s2.heap.objs.size,_) (List.mem_append_right _ List.mem_cons_self)).1
   refine hRR _ _ s4 ?_ (Nat.le_succ _) ⟨upd H' s2.heap.objs.size (.lst ys),?_,fin _ hDn,fun h' tk hs=>?_⟩
   ·obtain ⟨m,hn,_⟩:=J4.loc
    rw [eL] at hn
    exact ⟨m,hn⟩
   ·rw [upd_ne (Ne.symm dC),<- eL];exact J4.free
   ·subst hY
    have hO:ObjOk X.prog X.w (upd H' s2.heap.objs.size (.lst ys)) h' s2.heap.objs.size (.lst ys):=⟨hyl,us,k,rv,(hs.2 _ dC).trans pD⟩
    exact inv_back I2 f2 J4 (Nat.le_refl _) hDn dC hs hO tk
  ·have d0:=T.item Y eP eW eK ecm i _ s' _ H' Nev J1 (fpY fr' fpp) st' go
   rw [eA] at d0
   refine wpAny_mono d0 (fun r s4 ⟨u,hr,h4⟩=>?_) fun _ _ z=>z
   subst hr
   refine wpAny_mono h4 (fun _ s5 ⟨x,H5,J5,r5,y5,st5,fr5⟩=>?_) fun _ _ z=>z
   have J5':=J5.pinned (fpY fr5 fpp) (T.obj _ _ st5)
   have s1:=hg' _ s5 _ H5 x u _ J5' r5 (gk _ _ _ _ (step x H5 y5))
   rw [eP,eW,eA,eX] at s1
   refine wpAny_mono s1 (fun _ s6 ⟨σ6,H6,J6,q6,kp6⟩=>?_) fun _ _ z=>z
   have s2':=ht' _ s6 σ6 H6 _ J6 q6
   rw [eP,eW,eA,eX] at s2'
   refine wpAny_mono s2' (fun ok s7 ⟨H7,J7,q7⟩=>?_) fun _ _ z=>z
   have low:∀ {H8:Hp} {s8:Shared},Inv Y ([(s2.heap.objs.size,({ cls:=.type "list",data:=.seq (List.toArray us) k }:Obj))]++pinsAt fp s5.heap) σ6 H8 s8 ->
     Inv Y (pinsAt fp s5.heap) σ6 H8 s8/\H8 s2.heap.objs.size=none/\s8.heap.get? s2.heap.objs.size=some { cls:=.type "list",data:=.seq (List.toArray us) k }/\(∀ b∈fp,H8 b=none)/\tn (i+1) s8.heap:=fun {H8 s8} J8=>by
    have p8:=J8.pin (s2.heap.objs.size,_) (List.mem_append_right _ (List.mem_append_left _ List.mem_cons_self))
    refine ⟨J8.pins_of fun p hp=>J8.pin p (List.mem_append_right _ (List.mem_append_right _ hp)),p8.2.1,p8.1,fun b hb=>?_,T.keep _ _ _ st5 fun b hb o e=>(J8.pin (b,o) (List.mem_append_right _ (List.mem_append_right _ (mem_pinsAt hb e)))).1⟩
    obtain ⟨o,e,d⟩:=T.obj _ _ st5 b hb
    exact (J8.pin (b,o) (List.mem_append_right _ (List.mem_append_right _ (mem_pinsAt hb e)))).2.1
   have weak:∀ {H8:Hp} {s8:Shared} {pp:List (Addr × Obj)},Inv Y pp σ6 H8 s8->Inv Y [] (cSt own fr σ) H8 s8:=fun {H8 s8 pp} J8=>(J8.weak kp6.1.symm (fun j v e=>by
    by_cases hj:j < own.length
    ·exfalso
     unfold cSt at e
     rw [List.getElem?_append_left (by simpa using hj),List.getElem?_replicate] at e
     split at e<;>cases e
    ·rw [kp6.2 j (Nat.not_lt.mp hj)];exact e)).pins_of fun p hp=>nomatch hp
   cases ok with
   | false =>
    obtain ⟨m',hm,w7⟩:=(show ∃ m',m' < n/\W (i+1) m' ys H7 by simpa using q7)
    obtain ⟨_,l1,l2,l3,l4⟩:=low J7
    exact ⟨m',hm,i+1,ys,us,k,H7,w7,weak J7,l4,l3,l1,l2,rv⟩
   | true =>
    have q7':te σ6 H7 fun y H6=>∃ m',m' < n/\W (i+1) m' (ys++[y]) H6:=by simpa using q7
    have s3:=he' _ s7 σ6 H7 _ J7 q7'
    rw [eP,eW,eA,eX] at s3
    show wpAny _ _ _ _ _ _
    refine wpAny_mono s3 (fun xv s8 ⟨y,H8,J8,r8,m',hm,w8⟩=>?_) fun _ _ z=>z
    obtain ⟨J8a,l1,l2,l3,l4⟩:=low J8
    refine append_at (hsz:=by rw [List.size_toArray,<- rv.length];exact hyl) l2 fun h' hs' hD'=>?_
    have J9:Inv Y [] (cSt own fr σ) H8 { s8 with heap:=h' }:=by
     refine (weak J8a).turned (t':=s8.toks) (it:=s2.heap.objs.size) (fun b o hb e=>(hs'.2 b hb).trans e) l1 (by rw [eL];exact dC) (.inr hD0) cellN fun p hp=>?_
     have:p∈([]:List (Addr × Obj)):=by rw [<- hY] at hp;exact hp
     exact nomatch this
    refine ⟨m',hm,i+1,ys++[y],us++[xv],k+1,H8,w8,J9,?_,l3,l1,?_,rv.append (.cons r8 .nil)⟩
    ·exact T.keep _ _ _ l4 fun b hb o e=>(hs'.2 b (fun z=>dfp (z ▸ hb))).trans e
    ·rw [hD'];simp
 exact codeAny_compStart_list loop (T.self X.A 0 _ _ _ st3 loop)
theorem pe_lc (own:List Str) (fr:List Nat) (hc:X.calm=true) (S:CompSc X own fr sc) (gk:GK own.length g) (hi:PI X tg iter wi)
  (hg:∀ s H fp,PG (cxC X own fr sc s H fp) tg g) (ht:∀ s H fp,PIfs (cxC X own fr sc s H fp) ifs tt) (he:∀ s H fp,PE (cxC X own fr sc s H fp) elt te)
  (hs:∀ x,foldedSetIterable iter X.env x=pure x:=by intro _;rfl):PE X (.ListComp elt [⟨tg,iter,ifs,0⟩] sc pos) (tLC own fr wi g tt te):=by
 intro pins s σ H Q I h
 rw [eval_ListComp]
 have hclos:closureFor sc X.env=pure (clOf X.env sc.names []):=closureFor_of fun y hy hf=>I.ok.has y.1 (by
  rcases S.fre y hy hf with q | q
  ·exact .inl q
  ·exact .inr q)
 refine wpAny_comprehension_free (use:=none) rfl hs hclos S.kind (fun y hy hl=>lookup_of_mem_nd S.nd (by rw [<- hl];exact hy)) ?_
 refine thn (hi pins s σ H _ I h) fun v s1 h1=>thn h1 fun itv s2 h2=>?_
 obtain ⟨it,fp,tn,J,H2,e,I2,T,st2,f2,L⟩:=h2
 subst e
 exact lc_core hc S gk hg ht he I2 T st2 f2 L fun D C s' ⟨m,hn⟩ _ ⟨H',_,q,hi⟩=>⟨m,hn,fun h' hs'=>⟨.ref D,H',hi h' s'.toks hs',rfl,q⟩⟩
end
theorem stored_use {X:Cx} {pins:List (Addr × Obj)} {σ:St} {H2:Hp} {s2 s':Shared} {i:Nat} {x:Str} {pos':Pos} {D:Addr} {C:Addr} {R:St->Hp->Prop} {E:Value->Shared->Prop} (I2:Inv X pins σ H2 s2) (hN:X.N.Nodup) (hi:X.N[i]?=some x) (hx:X.env.scope.names.lookup x=some .local)
  (ns:∃ m,s'.heap.Ns C m) (le:@LE.le Nat _ s2.heap.objs.size C) (h:∃ H',H' C=none/\R (σ.set i (some (.ref D))) H'/\∀ h' tk,Heap.SameBut C s'.heap h'->Inv X pins σ H' { s' with heap:=h',toks:=tk }) :
  wpAny (model X.prog X.w) X.A (assign (.Name x pos') X.env (.ref D)) (fun _ s''=>∃ m,s''.heap.Ns C m/\∀ h',Heap.SameBut C s''.heap h'->∃ σ1 H1,Inv X pins σ1 H1 { s'' with heap:=h' }/\R σ1 H1) E s':=by
 obtain ⟨H',hC,q,hv⟩:=h
 have I':Inv X pins σ H' s':=hv s'.heap s'.toks (Heap.SameBut.refl _ _)
 have lt:∀ {b:Addr} {o:Obj},s2.heap.get? b=some o->b≠C:=fun {b o} e z=>by
  have l1:@LT.lt Nat _ b s2.heap.objs.size:=Heap.lt_size e
  have z':@Eq Nat b C:=z
  omega
 have hLC:X.env.locals≠C:=by
  obtain ⟨m,⟨o,_,_,e,_⟩,_⟩:=I2.loc
  exact lt e
 have hcell:∀ y c,X.env.cells.lookup y=some c->c≠C:=fun y c e=>by
  obtain ⟨v,o,e1,_⟩:=I2.cell y c e
  exact lt e1
 refine wpAny_assign_Name (store_ok2 I' hN hi (.inl hx) (show RelV (.ref D) (.ref D) from rfl) (fun s3 I3 ⟨a,hs,ha⟩=>?_) (.inr hx))
 have aC:a≠C:=by
  rcases ha with e | e
  ·rw [e];exact hLC
  ·exact hcell _ _ e
 obtain ⟨m,hn⟩:=ns
 refine ⟨m,hn.sameBut hs (Ne.symm aC),fun h' hs'=>⟨_,H',?_,q⟩⟩
 refine I3.turned (t':=s3.toks) (it:=C) (fun b o hb e=>(hs'.2 b hb).trans e) hC (Ne.symm hLC) (.inr ?_) hcell fun p hp=>?_
 ·have:=I2.sz
  exact Nat.le_trans this le
 ·exact lt (I2.pin p hp).1
theorem ps_setL {X:Cx} {sc:Scope} {tg iter elt:Expr} {ifs:List Expr} {pos spos pos':Pos} {wi:TI} {g:TG} {tt:TT} {te:TE} {i:Nat} {x:Str} (own:List Str) (fr:List Nat) (hN:X.N.Nodup) (hix:X.N[i]?=some x) (hx:X.env.scope.names.lookup x=some .local) (hc:X.calm=true) (S:CompSc X own fr sc) (gk:GK own.length g) (hi:PI X tg iter wi)
  (hg:∀ s H fp,PG (cxC X own fr sc s H fp) tg g) (ht:∀ s H fp,PIfs (cxC X own fr sc s H fp) ifs tt) (he:∀ s H fp,PE (cxC X own fr sc s H fp) elt te)
  (hsw:swapsWith (.ListComp elt [⟨tg,iter,ifs,0⟩] sc pos) (some (.Name x pos')) spos.line X.env=pure true:=by rfl)
  (hs:∀ x,foldedSetIterable iter X.env x=pure x:=by intro _;rfl):PS X (.Assign [.Name x pos'] (.ListComp elt [⟨tg,iter,ifs,0⟩] sc pos) spos) (tAsg (tLC own fr wi g tt te) (gName i)):=by
 intro pins s σ H D I h
 rw [exec_Assign_Name_used _ _ _ _ hsw]
 apply wpAny_bind;apply wpAny_standAt;apply wpAny_bind
 show wpAny _ _ (comprehension (.ListComp elt [⟨tg,iter,ifs,0⟩] sc pos) sc X.env _ (newList []) false (eval iter X.env) (some (assign (.Name x pos') X.env)) >>= _) _ _ s
 apply wpAny_bind
 have hclos:closureFor sc X.env=pure (clOf X.env sc.names []):=closureFor_of fun y hy hf=>I.ok.has y.1 (by
  rcases S.fre y hy hf with q | q
  ·exact .inl q
  ·exact .inr q)
 refine wpAny_mono (wpAny_comprehension_free (use:=some (assign (.Name x pos') X.env)) (Q:=fun _ s'=>SP X pins D .next s') rfl hs hclos S.kind (fun y hy hl=>lookup_of_mem_nd S.nd (by rw [<- hl];exact hy)) ?_) (fun _ s' q=>wpAny_pure (wpAny_pure q)) fun _ _ z=>z
 refine thn (hi pins s σ H _ I h) fun v s1 h1=>thn h1 fun itv s2 h2=>?_
 obtain ⟨it,fp,tn,J,H2,e,I2,T,st2,f2,L⟩:=h2
 subst e
 exact lc_core hc S gk hg ht he I2 T st2 f2 L fun D0 C s' ns le h=>stored_use (R:=D.nx) I2 hN hix hx ns le h
def Its (x:Str):It:=⟨fun i _=>i < x.cps.size,fun i H v H'=>H'=H/\∃ c,x.cps[i]?=some c/\v=.str ⟨#[c]⟩,fun i _=>i=x.cps.size⟩
theorem go_str {M:Model} {A:Around} {E:Value->Shared->Prop} {s:Shared} {tg:Expr} {it:Addr} {x:Str} {t:Tok} {Q:Unit->Shared->Prop} (hQ:Q () s):wpAny M A (letOwnedTupleGo tg (.ref it) (.str x t)) Q E s:=by
 unfold letOwnedTupleGo
 cases tg<;>exact wpAny_pure hQ
theorem turn_str {P:Program} {w:World} {K:PySem.W.Frag} {tg:Expr} {it:Addr} {x:Str} {t:Tok} {ty:String} (W:∀ A:Around,A.handled=none->Walks P w A it [it] [it] x.cps.size (SignAt x) (fun i h=>h.IsStrIter it ty x t i))
  (hself:∀ (A:Around) (i:Nat) (s:Shared) (Q:Value->Shared->Prop) (E:Value->Shared->Prop),s.heap.IsStrIter it ty x t i->Q (.ref it) s->wpAny (model P w) A (pyIter (.ref it)) Q E s) :
  Turn P w K tg (Its x) [it] it (fun i h=>h.IsStrIter it ty x t i) where
 mem:=by simp
 obj:=fun i h st b hb=>by
  have e:b=it:=by simpa using hb
  subst e
  obtain ⟨o,e,c,d⟩:=st
  exact ⟨o,e,fun v z=>by rw [d] at z;cases z⟩
 keep:=fun i h h' st k=>by
  obtain ⟨o,e,r⟩:=st
  exact ⟨o,k it (by simp) o e,r⟩
 item:=by
  intro X hP hw hK hc i pins s σ H E I hf st hg
  subst hP hw hK
  obtain ⟨f0,f1,f2,f3,f4,f5⟩:=hf it (by simp)
  refine (W X.A (I.ok.hd hc)).item i s _ _ hg st fun v h' tk hv st' kk=>?_
  obtain ⟨c,u,hx,rfl⟩:=hv
  have I1:Inv X pins σ H { s with heap:=h',toks:=tk }:=I.turned (fun b o hb e=>kk b o (by simpa using hb) e) f0 f1 f3 f4 f5
  exact ⟨_,rfl,go_str ⟨.str ⟨#[c]⟩,H,I1,⟨u,rfl⟩,⟨rfl,c,hx,rfl⟩,st',fun b hb=>(hf b hb).1⟩⟩
 done:=by
  intro X hP hw hK hc i pins s σ H E I hf st hg
  subst hP hw hK
  obtain ⟨f0,f1,f2,f3,f4,f5⟩:=hf it (by simp)
  have hg':i=x.cps.size:=hg
  subst hg'
  exact (W X.A (I.ok.hd hc)).done s _ _ st fun h' tk kk=>⟨rfl,I.turned (fun b o hb e=>kk b o (by simpa using hb) e) f0 f1 f3 f4 f5⟩
 self:=hself
section
variable {X:Cx} {tg:Expr}
def iStr (tl:TE):TI:=fun σ H R=>tl σ H fun x H1=>∃ z,x=.str z/\R (Its z) H1
theorem pi_str {l:Expr} {tl:TE} (hl:PE X l tl):PI X tg l (iStr tl):=by
 intro pins s σ H R I h
 refine thn (hl pins s σ H _ I h) fun v s1 ⟨x,H1,I1,r1,q1⟩=>?_
 obtain ⟨z,rfl,q⟩:=q1
 obtain ⟨t,rfl⟩:=r1
 have fin:∀ ty:String,(∀ A:Around,A.handled=none->Walks X.prog X.w A s1.heap.objs.size [s1.heap.objs.size] [s1.heap.objs.size] z.cps.size (SignAt z) (fun i h=>h.IsStrIter s1.heap.objs.size ty z t i)) ->
   (∀ (A:Around) (i:Nat) (s:Shared) (Q:Value->Shared->Prop) (E:Value->Shared->Prop),s.heap.IsStrIter s1.heap.objs.size ty z t i->Q (.ref s1.heap.objs.size) s->wpAny (model X.prog X.w) A (pyIter (.ref s1.heap.objs.size)) Q E s) ->
   PIE X pins σ tg R (.ref s1.heap.objs.size) { s1 with heap:=s1.heap.push { cls:=.type ty,data:=.fields #[.str z t,.int 0 0] } }:=fun ty W hself=>by
  refine ⟨s1.heap.objs.size,[s1.heap.objs.size],_,_,H1,rfl,I1.kept (t':=s1.toks) fun b o e=>Heap.get?_push_of_some _ e,turn_str W hself,⟨_,Heap.get?_push_size _ rfl,rfl,rfl⟩,fun b hb=>?_,q⟩
  have e:b=s1.heap.objs.size:=by simpa using hb
  subst e
  exact I1.fpOk (Nat.le_refl _) (I1.hok.fresh (Nat.le_refl _))
 cases ha:z.cps.all (· < 128)
 ·exact wpAny_pyIter_wide ha (fin _ (fun A hA=>Walks.strWide hA _ z t) fun A i s Q E st q=>wpAny_pyIter_striter_wide st q)
 ·exact wpAny_pyIter_ascii ha (fin _ (fun A hA=>Walks.strAscii hA _ z t) fun A i s Q E st q=>wpAny_pyIter_striter_ascii st q)
theorem vals_bl_get:∀ {bs:List Bool} {us:List Value} {i:Nat} {u:Value},Vals (bs.map V.bl) us->us[i]?=some u->∃ b,bs[i]?=some b/\u=.bool b
 | [],_,i,u,.nil,e=>by simp at e
 | b::bs,_,0,u,.cons r _,e=>by simp at e;subst e;exact ⟨b,rfl,r⟩
 | b::bs,_,i+1,u,.cons _ t,e=>by
  obtain ⟨b',h1,h2⟩:=vals_bl_get (i:=i) (u:=u) t (by simpa using e)
  exact ⟨b',by simpa using h1,h2⟩
theorem range_all (bs:List Bool):((List.range bs.length).all fun i=>bs.getD i false)=bs.all id:=by
 induction bs with
 | nil=>rfl
 | cons b bs ih =>
  rw [List.length_cons,List.range_succ_eq_map,List.all_cons,List.all_map,List.all_cons]
  have e:((fun i=>(b::bs).getD i false) ∘ Nat.succ)=fun i=>bs.getD i false:=by funext i;simp
  rw [e,ih];simp
theorem call_all (hc:X.calm=true):CallR X (.builtin "all") (fun xs H Q=>∃ (p:Addr) (bs:List Bool),xs=[.ref p]/\SqL X.K H p (bs.map V.bl)/\Q (.bl (bs.all id)) H):=by
 intro pins s σ H xs us Q I r h
 obtain ⟨p,bs,rfl,hq,q⟩:=h
 obtain ⟨u,rfl,rx⟩:=vals1 r
 cases rx
 obtain ⟨its,rv,pl,hz⟩:=I.list hq
 have hlt:p < s.heap.objs.size:=by obtain ⟨o,n,e,_⟩:=pl;exact Heap.lt_size e
 have hlen:its.length=bs.length:=by rw [<- rv.length,List.length_map]
 refine call_all_walk (wpAny_pyIter_list pl.isList ?_)
 refine ⟨s.heap.objs.size,_,_,its.toArray.size,_,_,fun i=>bs.getD i false,rfl,Walks.list (A:=X.A.in1) (I.ok.hd hc) s.heap.objs.size p (Nat.ne_of_lt hlt) its.toArray,⟨⟨_,Heap.get?_push_size _ rfl,rfl,rfl⟩,pl.isList.push _⟩,fun i v s' Q' E' hP hQ=>?_,fun h' tk hk=>?_⟩
 ·obtain ⟨b,h1,rfl⟩:=vals_bl_get rv (by simpa using hP)
  refine wpAny_truthy_bool ?_
  have e:bs.getD i false=b:=by rw [List.getD,h1];rfl
  rw [<- e];exact hQ
 ·rw [List.size_toArray,hlen,range_all]
  refine ⟨.bl _,H,?_,rfl,q⟩
  have J:Inv X pins σ H { s with heap:=h',toks:=tk }:=I.kept fun b o e=>hk b o (fun z=>absurd (Heap.lt_size e) (by rw [List.mem_singleton.mp z];exact Nat.lt_irrefl _)) (Heap.get?_push_of_some _ e)
  exact J
theorem call_isinst {T:String}:CallR X (.builtin "isinstance") (fun xs H Q=>∃ x t b,xs=[x,.ty T]/\TyOf X.K H x t/\PySem.W.kitOne X.K t (.type T)=some b/\Q (.bl b) H):=by
 intro pins s σ H xs us Q I r h
 obtain ⟨x,t,b,rfl,ty,e,q⟩:=h
 obtain ⟨u,v,rfl,ru,rv⟩:=vals2 r
 cases rv
 exact isinst_ok I ru ty e fun tk=>⟨.bl b,H,I.tok _,rfl,q⟩
theorem strs_of:∀ {ys:List Str} {us:List Value},Vals (ys.map V.str) us->StrsAre us ys
 | [],_,.nil=>.nil
 | y::ys,_,.cons r t=>by obtain ⟨k,rfl⟩:=(show ∃ k,_=Value.str y k from r);exact .cons y k (strs_of t)
theorem mt_join:MtR X "str.join" (fun x vs H Q=>∃ (sep:Str) (p:Addr) (ys:List Str),x=.str sep/\vs=[.ref p]/\SqL X.K H p (ys.map V.str)/\(ys.map (·.length)).sum+ys.length * sep.length<=16777216/\Q (.str (Txt.join sep ys)) H):=by
 intro pins s σ H x xs v us Q I rx r h
 obtain ⟨sep,p,ys,rfl,rfl,hq,hl,q⟩:=h
 obtain ⟨u,rfl,ru⟩:=vals1 r
 cases ru
 obtain ⟨t,rfl⟩:=rx
 obtain ⟨its,rv,pl,hz⟩:=I.list hq
 exact join_list pl.isList (by simpa using strs_of rv) hl fun t' k=>⟨.str _,H,I.tok _,⟨t',rfl⟩,q⟩
theorem op_le_str:OpR X (compareOp .LtE) (fun x y H Q=>∃ i j,x=.str i/\y=.str j/\Q (.bl (!decide (j.cps.toList < i.cps.toList))) H):=by
 intro pins s σ H x y v u Q I rx ry h
 obtain ⟨i,j,rfl,rfl,q⟩:=h
 obtain ⟨t,rfl⟩:=rx
 obtain ⟨t',rfl⟩:=ry
 exact PySem.P.le_str ⟨.bl _,H,I,rfl,by simpa using q⟩
end
theorem lc_range {own:List Str} {fr:List Nat} {g:TG} {tt:TT} {te:TE} {σ:St} {Q:VK} {lo:Int} {n:Nat} {H:Hp} (Pv:Nat->List V->Hp->Prop) (h0:Pv 0 [] H) (hlen:∀ i ys H,i<=n->Pv i ys H->ys.length<=sizeLine)
  (hs:∀ i ys H (R:List V->Hp->Prop),i < n->Pv i ys H->(∀ ys' H',Pv (i+1) ys' H'->R ys' H')->g (.int (lo+i)) (cSt own fr σ) H fun σ4 H4=>tt σ4 H4 fun b H5=>if b=true then te σ4 H5 fun y H6=>R (ys++[y]) H6 else R ys H5)
  (hd:∀ ys H,Pv n ys H->∀ D,H D=none->Q (.ref D) (upd H D (.lst ys))):lcLoop own fr g tt te σ Q (Itr lo n) H:=by
 refine ⟨fun i m ys H=>m=n - i/\i<=n/\Pv i ys H,⟨n,rfl,Nat.zero_le _,h0⟩,?_⟩
 rintro i m ys H2 ⟨rfl,hi,p⟩
 refine ⟨hlen i ys H2 hi p,?_⟩
 by_cases h:i < n
 ·refine .inr ⟨h,fun x H3 hy=>?_⟩
  obtain ⟨rfl,rfl⟩:=hy
  exact hs i ys _ (fun ys' H'=>∃ m',m' < n - i/\(m'=n - (i+1)/\i+1<=n/\Pv (i+1) ys' H')) h p fun ys' H' q=>⟨n - (i+1),by omega,rfl,h,q⟩
 ·have e:i=n:=by omega
  subst e
  exact .inl ⟨Nat.le_refl _,hd ys H2 p⟩
theorem lc_list {K:PySem.W.Frag} {a:Addr} {xs:List V} {own:List Str} {fr:List Nat} {g:TG} {tt:TT} {te:TE} {σ:St} {Q:VK} {H:Hp} (Pv:Nat->List V->Hp->Prop) (h0:Pv 0 [] H) (hlen:∀ i ys H,i<=xs.length->Pv i ys H->ys.length<=sizeLine)
  (hl:∀ i ys H,i<=xs.length->Pv i ys H->SqL K H a xs)
  (hs:∀ i x ys H (R:List V->Hp->Prop),xs[i]?=some x->Pv i ys H->(∀ ys' H',Pv (i+1) ys' H'->R ys' H')->g x (cSt own fr σ) H fun σ4 H4=>tt σ4 H4 fun b H5=>if b=true then te σ4 H5 fun y H6=>R (ys++[y]) H6 else R ys H5)
  (hd:∀ ys H,Pv xs.length ys H->∀ D,H D=none->Q (.ref D) (upd H D (.lst ys))):lcLoop own fr g tt te σ Q (Itl K a) H:=by
 refine ⟨fun i m ys H=>m=xs.length - i/\i<=xs.length/\Pv i ys H,⟨xs.length,rfl,Nat.zero_le _,h0⟩,?_⟩
 rintro i m ys H2 ⟨rfl,hi,p⟩
 refine ⟨hlen i ys H2 hi p,?_⟩
 have q:=hl i ys H2 hi p
 by_cases h:i < xs.length
 ·refine .inr ⟨⟨xs,xs[i],q,by simp [h]⟩,fun x H3 hy=>?_⟩
  obtain ⟨rfl,hy⟩:=hy
  exact hs i x ys _ (fun ys' H'=>∃ m',m' < xs.length - i/\(m'=xs.length - (i+1)/\i+1<=xs.length/\Pv (i+1) ys' H')) (hy xs q) p fun ys' H' q=>⟨xs.length - (i+1),by omega,rfl,h,q⟩
 ·have e:i=xs.length:=by omega
  subst e
  exact .inl ⟨⟨xs,q,Nat.le_refl _⟩,hd ys H2 p⟩
theorem glue_size (sep:Str):∀ (rest:List Str) (acc:Array Nat),(rest.foldl (fun acc p=>acc++sep.cps++p.cps) acc).size=acc.size+(rest.map (·.length)).sum+rest.length * sep.length
 | [],acc=>by simp
 | p::r,acc=>by
  rw [List.foldl_cons,glue_size sep r,List.map_cons,List.sum_cons,List.length_cons,Array.size_append,Array.size_append]
  have e1:sep.length=sep.cps.size:=rfl
  have e2:p.length=p.cps.size:=rfl
  rw [e1,e2,Nat.add_mul]
  omega
theorem join_le (sep:Str) (ys:List Str):(Txt.join sep ys).length<=(ys.map (·.length)).sum+ys.length * sep.length:=by
 cases ys with
 | nil=>exact Nat.zero_le _
 | cons x r =>
  show (Builtin.Str.glued sep (x::r)).length<=_
  have q:(Builtin.Str.glued sep (x::r)).length=x.cps.size+(r.map (·.length)).sum+r.length * sep.length:=by
   show (r.foldl (fun acc p=>acc++sep.cps++p.cps) x.cps).size=_
   exact glue_size sep r x.cps
  rw [q,List.map_cons,List.sum_cons,List.length_cons,Nat.add_mul]
  have e2:x.length=x.cps.size:=rfl
  omega
section
variable {CX:CXT} {P:Program} {w:World} {K:PySem.W.Frag} {mg:Str->Option Value} {base:Heap} {N:List Str} {qual:Str} {scope:Scope} {f:Addr} {cdv:Value} {A:Around} {outer:List Env} {s s1 s2:Shared} {H H1 H2:Hp} {E:XK}
 {pins:List (Addr × Obj)} {σ:St} {a:Addr} {cls a0:Value} {B h':Heap}
end
abbrev TX:=St->Hp->VK->XK->Prop
section
variable {X:Cx} {k:Nat} {f C:Addr} {fd:FuncData} {ps:List Str} {sp:Sp} {dvs:List V} {ds:List Value} {x m:Str} {p pos apos:Pos} {e o:Expr} {es:List Expr} {ta:TE} {t:TA}
end
section
variable {X:Cx} {pins:List (Addr × Obj)} {σ:St} {H1 H2:Hp} {s1 s2:Shared} {a:Addr} {cls a0:Value} {B h':Heap}
end
section
variable {X:Cx} {e:Expr} {tx:TX} {ts:TS} {x n:Str} {c:Value} {i:Nat} {b₀:Stmt} {suite:List Stmt} {pos pos' np hpos:Pos}
end
section
variable {prog:Program} {w:World} {A:Around} {E:Value->Shared->Prop} {h:Heap} {g:Array GenState} {d:Drawn} {t:Nat} {os:OsState} {K:PySem.W.Frag} {a C:Addr} {o:Obj} {vs:Array Value}
end
section
variable {X:Cx}
end
def addS (σ:List Str) (z:Str):List Str:=if z∈σ then σ else z::σ
def dist (zs:List Str):List Str:=zs.foldl addS []
theorem mem_addS {σ:List Str} {z k:Str}:k∈addS σ z ↔ k∈σ\/k=z:=by
 unfold addS
 split
 ·exact ⟨.inl,fun h=>h.elim id fun e=>by rw [e];assumption⟩
 ·rw [List.mem_cons];exact or_comm
theorem len_addS (σ:List Str) (z:Str):(addS σ z).length=if z∈σ then σ.length else σ.length+1:=by
 unfold addS;split<;>simp
theorem dist_snoc (zs:List Str) (z:Str):dist (zs++[z])=addS (dist zs) z:=by simp [dist,List.foldl_append]
theorem fold_le:∀ (zs σ:List Str),(zs.foldl addS σ).length<=σ.length+zs.length
 | [],σ=>by simp
 | z::zs,σ=>by
  have h:=fold_le zs (addS σ z)
  rw [len_addS] at h
  simp only [List.foldl_cons,List.length_cons]
  split at h<;>omega
theorem dist_le (zs:List Str):(dist zs).length<=zs.length:=by
 have h:=fold_le zs []
 rw [List.length_nil,Nat.zero_add] at h
 exact h
theorem fold_nd:∀ (zs σ:List Str),zs.Nodup->(∀ z∈zs,z ∉ σ)->(zs.foldl addS σ).length=σ.length+zs.length
 | [],σ,_,_=>by simp
 | z::zs,σ,nd,h=>by
  rw [List.nodup_cons] at nd
  simp only [List.foldl_cons,List.length_cons]
  rw [fold_nd zs (addS σ z) nd.2 fun y hy q=>?_,len_addS,if_neg (h z List.mem_cons_self)]
  ·omega
  ·rcases mem_addS.mp q with q | q
   ·exact h y (List.mem_cons_of_mem _ hy) q
   ·exact nd.1 (q ▸ hy)
theorem dist_nd {zs:List Str} (nd:zs.Nodup):(dist zs).length=zs.length:=by
 have h:=fold_nd zs [] nd fun _ _ h=>nomatch h
 rw [List.length_nil,Nat.zero_add] at h
 exact h
theorem strs_at:∀ {its:List Value} {zs:List Str} {i:Nat} {v:Value},StrsAre its zs->its[i]?=some v->∃ z t,zs[i]?=some z/\v=.str z t:=by
 intro its zs i v h
 induction h generalizing i with
 | nil=>intro e;simp at e
 | cons z t _ ih =>
  intro e
  cases i with
  | zero=>simp at e;exact ⟨z,t,rfl,e.symm⟩
  | succ i=>exact ih (by simpa using e)
theorem strs_len:∀ {its:List Value} {zs:List Str},StrsAre its zs->its.length=zs.length:=by
 intro its zs h
 induction h with
 | nil=>rfl
 | cons z t _ ih=>simp [ih]
theorem of_strs:∀ {its:List Value} {zs:List Str},StrsAre its zs->Vals (zs.map V.str) its:=by
 intro its zs h
 induction h with
 | nil=>exact .nil
 | cons z t _ ih=>exact .cons ⟨t,rfl⟩ ih
section
variable {prog:Program} {w:World} {A:Around} {I S:Addr} {fp wr:List Addr} {G:Array GenState->Array GenState->Prop} {P:Nat->Value->Prop} {St:Nat->Shared->Prop} {zs:List Str} {R:Result->Shared->Prop}
abbrev TxtSet (prog:Program) (w:World) (h:Heap) (S:Addr) (zs:List Str):Prop:=h.SetOf (strKind prog w) S (fun k=>decide (k∈dist zs)) (dist zs).length
theorem TxtSet.keep {h h':Heap} (x:TxtSet prog w h S zs) (k:∀ o,h.get? S=some o->h'.get? S=some o):TxtSet prog w h' S zs:=by
 obtain ⟨o,es,ep,t,ho,r⟩:=x
 exact ⟨o,es,ep,t,k o ho,r⟩
theorem TxtSet.more {h:Heap} {z:Str} (x:h.SetOf (strKind prog w) S (fun k=>decide (k∈dist zs) || decide (k=z)) (if decide (z∈dist zs)=true then (dist zs).length else (dist zs).length+1)):TxtSet prog w h S (zs++[z]):=by
 have e1:(fun k=>decide (k∈dist (zs++[z])))=fun k=>decide (k∈dist zs) || decide (k=z):=by
  funext k;rw [dist_snoc,Bool.eq_iff_iff];simp [mem_addS]
 have e2:(dist (zs++[z])).length=if decide (z∈dist zs)=true then (dist zs).length else (dist zs).length+1:=by
  rw [dist_snoc,len_addS];simp
 unfold TxtSet
 rw [e1,e2];exact x
theorem texts_in (W:WalksS prog w A.in1 I fp wr G zs.length P St) (off:S ∉ fp) (hz:∀ i v,P i v->∃ z t,zs[i]?=some z/\v=.str z t) (small:zs.length+1 < scanBound) :
  ∀ (left i:Nat) (s:Shared),i+left=zs.length->St i s->TxtSet prog w s.heap S (zs.take i) ->
   (∀ s',Moved (S::wr) G s s'->TxtSet prog w s'.heap S zs->R (.ok (.ret .none)) s')->codeAny (model prog w) A (.builtin "set.update.loop" ⟨[.ref S,.ref I],[]⟩) R s
 | 0,i,s,hi,st,x,k=>by
  have e:zs.take i=zs:=List.take_of_length_le (by omega)
  rw [show i=zs.length by omega] at st
  refine codeAny_builtin F.entry_set_update_loop ?_
  rw [Around.under_plainId F.plain_set_update_loop _]
  apply wpAny_bind
  refine W.done s _ _ st fun s' m=>?_
  exact wpAny_pure (k s' (m.mono fun b hb=>List.mem_cons_of_mem _ hb) (by rw [e] at x;exact x.keep fun o ho=>m.heap S o (fun hs=>off (W.sub _ hs)) ho))
 | left+1,i,s,hi,st,x,k=>by
  refine codeAny_builtin F.entry_set_update_loop ?_
  rw [Around.under_plainId F.plain_set_update_loop _]
  apply wpAny_bind
  refine W.item i s _ _ (by omega) st fun v s1 p st1 m=>?_
  obtain ⟨z,t,ez,rfl⟩:=hz i v p
  have x1:=x.keep fun o ho=>m.heap S o (fun hs=>off (W.sub _ hs)) ho
  have et:zs.take (i+1)=zs.take i++[z]:=by rw [List.take_add_one,ez];rfl
  have yes:(strKind prog w).is z (.str z t)=true:=by show Value.isStrOf z (.str z t)=true;simp [Value.isStrOf]
  show wpAny _ A.in1 (holding [Value.str z t] (setAdd S (.str z t)) >>= _) _ _ s1
  apply wpAny_bind;apply wpAny_holding
  show wpAny _ A.in1 (holding _ _) _ _ _
  apply wpAny_holding;apply wpAny_bind
  refine (strKind prog w).pyHash yes ?_
  have few:=dist_le (zs.take i)
  rw [List.length_take] at few
  refine wpAny_setAddHashed_of (knd:=strKind prog w) (s:={ s1 with toks:=s1.toks+1 }) yes rfl x1 (by omega) fun h2 sb x2=>?_
  refine wpAny_pure ⟨plainId_quiet F.plain_set_update_loop _,texts_in W off hz small left (i+1) _ (by omega) ?_ (by rw [et];exact TxtSet.more x2) fun s3 m3 x3=>?_⟩
  ·exact W.frame _ s1 _ _ st1 (Nat.le_succ _) fun b hb o e=>(sb.2 b fun z'=>off (z' ▸ hb)).trans e
  ·refine k s3 (Moved.trans W.gtrans ((m.mono fun b hb=>List.mem_cons_of_mem _ hb).then_heap (Nat.le_succ _) fun b o hb e=>?_) m3) x3
   exact (sb.2 b fun z'=>hb (by rw [z'];exact List.mem_cons_self)).trans e
end
section
variable {prog:Program} {w:World} {A:Around} {E:Value->Shared->Prop} {s:Shared}
theorem made_by {T newId initId:String} {args:List Value} {Q:Value->Shared->Prop} (ft:TypeCalled T newId initId) (hc:checkTypeCall T ⟨args,[]⟩=pure ())
  (h:codeAny (model prog w) A.in1 (.call (.builtin newId) ⟨.type T::args,[]⟩) (wants (fun x t=>t.TypeIs x T/\codeAny (model prog w) A.in1 (.call (.builtin initId) ⟨x::args,[]⟩) (wants (fun r t'=>r=.none/\Q x t') E) t) E) s) :
  wpAny (model prog w) A (call (.type T) args) Q E s:=by
 have q1:=ft.made
 have q2:=ft.sub
 have q3:=ft.notType
 have q4:=ft.canCreate
 have q5:=ft.init.lookup
 obtain ⟨_,_,q6⟩:=ft.mro
 apply wpAny_call;apply codeAny_of_tree
 show wpAny _ _ (callAny (.type T) _) _ _ _
 apply wpAny_pure
 refine ⟨Code.quiet_builtin _ (by decide +kernel),codeAny_builtin PySem.F.entry_type_call ?_⟩
 rw [Around.under_plain (weight_type_call_type T args []) rfl]
 repeat (any_goals (first | wp_step | assumption))
 apply codeAny_mono h
 rintro (e | f) t k
 ·exact k
 cases f<;>first | exact k.elim | skip
 rename_i x
 have q7:=ft.init.bind x
 obtain ⟨ty,k⟩:=k
 repeat (any_goals (first | wp_step | assumption))
 apply codeAny_mono k
 rintro (e | f) t' k'
 ·exact k'
 cases f<;>first | exact k'.elim | skip
 obtain ⟨z,k'⟩:=k'
 cases z
 repeat (any_goals (first | wp_step | assumption))
theorem set_texts {l:Addr} {its:List Value} {zs:List Str} {Q:Value->Shared->Prop} (hh:A.handled=none) (hl:s.heap.IsList l its.toArray) (hz:StrsAre its zs) (small:zs.length+1 < scanBound)
  (h:∀ (h':Heap) (tk:Nat),TxtSet prog w h' s.heap.objs.size zs->(∀ b o,s.heap.get? b=some o->h'.get? b=some o)->Q (.ref s.heap.objs.size) { s with heap:=h',toks:=tk }) :
  wpAny (model prog w) A (call (.type "set") [.ref l]) Q E s:=by
 refine made_by PySem.F.called_set (PySem.F.typeCall_set_1 _) (code_set_new_1 (.ref l) fun led=>?_)
 generalize hh1:s.heap.push { cls:=.type "set",dict:=none,data:=.set #[] 0 (.fresh 0 0 led) }=h1
 have kp:∀ b o,s.heap.get? b=some o->h1.get? b=some o:=fun b o e=>by rw [<- hh1];exact Heap.get?_push_of_some _ e
 have sz:h1.objs.size=s.heap.objs.size+1:=by rw [<- hh1];exact Heap.size_push ..
 have new:h1.get? s.heap.objs.size=some { cls:=.type "set",dict:=none,data:=.set #[] 0 (.fresh 0 0 led) }:=by rw [<- hh1];exact Heap.get?_push_size _ rfl
 have ty:({ s with heap:=h1 }:Shared).TypeIs (.ref s.heap.objs.size) "set" := ⟨_,new,rfl⟩
 refine ⟨ty,codeAny_call_builtin PySem.F.called_set.init.plain PySem.F.entry_set_init (check_set_init_1 ty ?_)⟩
 have el:its.length=zs.length:=strs_len hz
 obtain ⟨⟨c,d,dt,sl⟩,ho,rfl,n,rfl⟩:=hl
 have ho1:=kp _ _ ho
 have lt:@LT.lt Nat _ l s.heap.objs.size:=Heap.lt_size ho
 have il:h1.IsList l its.toArray:=⟨_,ho1,rfl,n,rfl⟩
 have n1:=PySem.F.sub_list_set
 have n2:=PySem.F.sub_list_frozenset
 have n3:(Value.type "list" == Value.type "dict")=false:=by decide
 unfold Builtin.«set.__init__» noKeywords Builtin.Frozenset.updateFrom
 generalize pi:pyIter=it
 wp_walk
 subst pi
 apply wpAny_pyIter_list il
 apply wpAny_bind;apply wpAny_runValue
 have W:=(Walks.list (prog:=prog) (w:=w) (A:=A.in1.in1.in1) (by simpa using hh) h1.objs.size l (by rw [sz];exact Nat.ne_of_lt (Nat.lt_succ_of_lt lt)) its.toArray).toS
 have e0:its.toArray.size=zs.length:=by rw [List.size_toArray];exact el
 rw [e0] at W
 refine texts_in (zs:=zs) W ?_ (fun i v p=>?_) small zs.length 0 _ (Nat.zero_add _) ⟨⟨_,Heap.get?_push_size _ rfl,rfl,rfl⟩,il.push _⟩ ?_ fun t m x=>?_
 ·rw [sz]
  intro q
  rcases List.mem_cons.mp q with q | q
  ·exact absurd q (Nat.ne_of_lt (Nat.lt_succ_self _))
  ·exact absurd (List.mem_singleton.mp q) (Nat.ne_of_gt lt)
 ·have p':its[i]?=some v:=by simpa using p
  exact strs_at hz p'
 ·exact (setObjOf_fresh (knd:=strKind prog w) led).setOf (Heap.get?_push_of_some _ new) (by decide)
 ·obtain ⟨h2,g2,d2,t2,o2⟩:=t
  cases (show g2=s.gens from m.gens)
  cases (show d2=s.drawn from m.drawn)
  cases (show o2=s.os from m.os)
  apply wpAny_pure
  refine wpAny_pure ⟨rfl,h h2 t2 x fun b o e=>m.heap b o ?_ (Heap.get?_push_of_some _ (kp b o e))⟩
  have lb:@LT.lt Nat _ b s.heap.objs.size:=Heap.lt_size e
  rw [sz]
  intro q
  rcases List.mem_cons.mp q with q | q
  ·exact absurd q (Nat.ne_of_lt lb)
  ·exact absurd (List.mem_singleton.mp q) (Nat.ne_of_lt (Nat.lt_succ_of_lt lb))
end
def leS (a b:Str):Bool:=decide (a.cps.toList<=b.cps.toList)
theorem leS_iff {a b:Str}:leS a b=true ↔ a.cps.toList<=b.cps.toList:=by simp [leS]
theorem leS_trans {a b c:Str} (h:leS a b=true) (k:leS b c=true):leS a c=true:=leS_iff.mpr (List.le_trans (leS_iff.mp h) (leS_iff.mp k))
theorem leS_anti {a b:Str} (h:leS a b=true) (k:leS b a=true):a=b:=by
 have e:=List.le_antisymm (leS_iff.mp h) (leS_iff.mp k)
 cases a;cases b
 simp only [Str.mk.injEq]
 exact Array.toList_inj.mp e
theorem leS_total (a b:Str):(leS a b || leS b a)=true:=by
 rcases List.le_total a.cps.toList b.cps.toList with h | h
 ·simp [leS_iff.mpr h]
 ·simp [leS_iff.mpr h]
def srt (zs:List Str):List Str:=zs.mergeSort leS
theorem srt_perm (zs:List Str):(srt zs).Perm zs:=List.mergeSort_perm _ _
theorem srt_pw (zs:List Str):(srt zs).Pairwise fun a b=>leS a b=true:=List.pairwise_mergeSort (le:=leS) (fun _ _ _ h k=>leS_trans h k) leS_total zs
theorem rising_pw:∀ (l:List Str) (p:Str),risingS p l=true->(p::l).Pairwise fun a b=>leS a b=true
 | [],p,_=>by simp
 | x::r,p,h=>by
  have h':(!ltCps x.cps.toList p.cps.toList && risingS x r)=true:=h
  rw [Bool.and_eq_true] at h'
  have ih:=rising_pw r x h'.2
  have px:leS p x=true:=by
   have:=h'.1
   rw [ltCps_eq] at this
   refine leS_iff.mpr ?_
   intro q
   rw [decide_eq_true q] at this
   cases this
  refine List.pairwise_cons.mpr ⟨fun y hy=>?_,ih⟩
  rcases List.mem_cons.mp hy with rfl | hy
  ·exact px
  ·exact leS_trans px ((List.pairwise_cons.mp ih).1 y hy)
theorem sorted_pw:∀ (l:List Str),sortedS l=true->l.Pairwise fun a b=>leS a b=true
 | [],_=>.nil
 | x::r,h=>rising_pw r x h
theorem pw_uniq:∀ {l m:List Str},l.Perm m->(l.Pairwise fun a b=>leS a b=true)->(m.Pairwise fun a b=>leS a b=true)->l=m
 | [],m,p,_,_=>(List.nil_perm.mp p).symm
 | x::l,[],p,_,_=>absurd p (by simp)
 | x::l,y::m,p,a,b=>by
  have a':=List.pairwise_cons.mp a
  have b':=List.pairwise_cons.mp b
  have e:x=y:=by
   rcases List.mem_cons.mp (p.mem_iff.mp List.mem_cons_self) with q | q
   ·exact q
   rcases List.mem_cons.mp (p.mem_iff.mpr List.mem_cons_self) with q' | q'
   ·exact q'.symm
   ·exact leS_anti (a'.1 y q') (b'.1 x q)
  subst e
  rw [pw_uniq ((List.perm_cons _).mp p) a'.2 b'.2]
theorem srt_of {zs ss:List Str} (p:ss.Perm zs) (h:ss.Pairwise fun a b=>leS a b=true):ss=srt zs:=pw_uniq (p.trans (srt_perm zs).symm) h (srt_pw zs)
theorem srt_len (zs:List Str):(srt zs).length=zs.length:=(srt_perm zs).length_eq
section
variable {X:Cx}
theorem call_sorted_txt:CallR X (.builtin "sorted") (fun xs H Q=>∃ (p:Addr) (zs:List Str),xs=[.ref p]/\SqL X.K H p (zs.map V.str)/\zs.length < 64/\∀ l,H l=none->Q (.ref l) (upd H l (.lst ((srt zs).map V.str)))):=by
 intro pins s σ H xs us Q I r h
 obtain ⟨p,zs,rfl,hq,few,q⟩:=h
 obtain ⟨u,rfl,rx⟩:=vals1 r
 cases rx
 obtain ⟨its,rv,pl,hz⟩:=I.list hq
 have el:=strs_len (strs_of rv)
 refine sorted_strs pl.isList (strs_of rv) (by omega) fun out ss a1 a2 a3=>?_
 have e:=srt_of a2 (sorted_pw ss a3)
 subst e
 obtain ⟨n,hn⟩:=sortedAll_at s.heap its out
 have lb:((srt zs).map V.str).length<=sizeLine:=by
  rw [List.length_map,srt_len]
  exact Nat.le_trans (Nat.le_of_lt few) (by decide)
 refine ⟨.ref (s.heap.objs.size+1),_,I.laid (t':=s.toks) (o:=.lst ((srt zs).map V.str)) (fun b o e=>sortedAll_old e) (Nat.le_succ _) ?_,rfl,q _ (I.hok.fresh (Nat.le_succ _))⟩
 exact ⟨lb,out.toList,n,of_strs a1,by rw [hn]⟩
end
def Al (K:PySem.W.Frag) (H:Hp):Nat->V->V->Prop
 | 0,x,y=>flatV x=true/\x=y
 | n+1,x,y=>(flatV x=true/\x=y)\/∃ p q xs ys,x=.ref p/\y=.ref q/\((SqL K H p xs/\SqL K H q ys)\/(SqT K H p xs/\SqT K H q ys))/\xs.length=ys.length/\∀ (i:Nat) a b,xs[i]?=some a->ys[i]?=some b->Al K H n a b
def AlS (K:PySem.W.Frag) (H:Hp) (n:Nat) (x y:V):Prop :=
 ∃ p q xs ys,x=.ref p/\y=.ref q/\((SqL K H p xs/\SqL K H q ys)\/(SqT K H p xs/\SqT K H q ys))/\xs.length=ys.length/\∀ (i:Nat) a b,xs[i]?=some a->ys[i]?=some b->Al K H n a b
theorem AlS.al {K:PySem.W.Frag} {H:Hp} {n:Nat} {x y:V} (h:AlS K H n x y):Al K H (n+1) x y:=.inr h
theorem Al.txt {K:PySem.W.Frag} {H:Hp} {n:Nat} {z:Str}:Al K H n (.str z) (.str z):=by
 cases n
 ·exact ⟨rfl,rfl⟩
 ·exact .inl ⟨rfl,rfl⟩
theorem eqV_self {x:V} (h:flatV x=true):eqV x x=true:=by
 cases x<;>first | (exact absurd h Bool.false_ne_true) | simp [eqV]
theorem all_range (n:Nat):(List.range n).all (fun _=>true)=true:=by simp
section
variable {X:Cx} {pins:List (Addr × Obj)} {σ:St} {H:Hp} {s:Shared}
theorem al_at (I:Inv X pins σ H s):∀ (n:Nat) (x y:V) (u v:Value) (A:Around),Al X.K H n x y->RelV x u->RelV y v->A.units+n < cLine->SeqAt.EqAt A s u v true:=by
 intro n
 induction n with
 | zero =>
  rintro x y u v A ⟨f,rfl⟩ ru rv _
  have h:=eqAt_V (A:=A) (s:=s) ru rv f f
  rw [eqV_self f] at h
  exact h
 | succ n ih =>
  rintro x y u v A h ru rv hu
  rcases h with ⟨f,rfl⟩ | ⟨p,q,xs,ys,rfl,rfl,h,el,k⟩
  ·have h:=eqAt_V (A:=A) (s:=s) ru rv f f
   rw [eqV_self f] at h
   exact h
  ·cases ru
   cases rv
   by_cases hpq:p=q
   ·subst hpq;exact SeqAt.EqAt.same _
   refine SeqAt.EqAt.of_refs hpq ?_
   have low:A.in1.units+n < cLine:=by rw [units_in1];omega
   have item:∀ {is js:List Value},Vals xs is->Vals ys js->∀ j (h1:j < is.toArray.size) (h2:j < js.toArray.size),SeqAt.EqAt A.in1 s is.toArray[j] js.toArray[j] true:=fun {is js} ri rj j h1 h2=>by
    have b1:j < xs.length:=by rw [ri.length];simpa using h1
    have b2:j < ys.length:=by rw [rj.length];simpa using h2
    obtain ⟨u',e1,r1⟩:=ri.get (List.getElem?_eq_getElem b1)
    obtain ⟨v',e2,r2⟩:=rj.get (List.getElem?_eq_getElem b2)
    have c1:is.toArray[j]=u':=by
     rw [List.getElem_toArray]
     have:=List.getElem?_eq_getElem (l:=is) (i:=j) (by simpa using h1)
     rw [this] at e1;exact Option.some.inj e1
    have c2:js.toArray[j]=v':=by
     rw [List.getElem_toArray]
     have:=List.getElem?_eq_getElem (l:=js) (i:=j) (by simpa using h2)
     rw [this] at e2;exact Option.some.inj e2
    rw [c1,c2]
    exact ih _ _ _ _ _ (k j _ _ (List.getElem?_eq_getElem b1) (List.getElem?_eq_getElem b2)) r1 r2 low
   rcases h with ⟨hp,hq⟩ | ⟨hp,hq⟩
   ·obtain ⟨is,ri,pi,_⟩:=I.list hp
    obtain ⟨js,rj,pj,_⟩:=I.list hq
    have z:=SeqAt.RcAt.lists (A:=A) (e:=fun _=>true) pi.isList pj.isList (by simp only [List.size_toArray];rw [<- ri.length,<- rj.length];exact el) (by omega) (item ri rj)
    rw [all_range] at z
    exact z
   ·obtain ⟨is,ri,pi,_⟩:=I.tuple hp
    obtain ⟨js,rj,pj,_⟩:=I.tuple hq
    have z:=SeqAt.RcAt.tuples (A:=A) (e:=fun _=>true) pi pj (by omega) (item ri rj)
    have e:(is.toArray.size == js.toArray.size)=true:=by simp only [List.size_toArray,beq_iff_eq];rw [<- ri.length,<- rj.length];exact el
    rw [all_range,e] at z
    exact z
theorem als_items (I:Inv X pins σ H s) {n:Nat} {xs ys:List V} {A:Around} (low:A.in1.units+n < cLine) (k:∀ (i:Nat) a b,xs[i]?=some a->ys[i]?=some b->Al X.K H n a b) {is js:List Value} (ri:Vals xs is) (rj:Vals ys js) :
  ∀ j (h1:j < is.toArray.size) (h2:j < js.toArray.size),SeqAt.EqAt A.in1 s is.toArray[j] js.toArray[j] true:=fun j h1 h2=>by
 have b1:j < xs.length:=by rw [ri.length];simpa using h1
 have b2:j < ys.length:=by rw [rj.length];simpa using h2
 obtain ⟨u',e1,r1⟩:=ri.get (List.getElem?_eq_getElem b1)
 obtain ⟨v',e2,r2⟩:=rj.get (List.getElem?_eq_getElem b2)
 have c1:is.toArray[j]=u':=by
  rw [List.getElem_toArray]
  have:=List.getElem?_eq_getElem (l:=is) (i:=j) (by simpa using h1)
  rw [this] at e1;exact Option.some.inj e1
 have c2:js.toArray[j]=v':=by
  rw [List.getElem_toArray]
  have:=List.getElem?_eq_getElem (l:=js) (i:=j) (by simpa using h2)
  rw [this] at e2;exact Option.some.inj e2
 rw [c1,c2]
 exact al_at I n _ _ _ _ _ (k j _ _ (List.getElem?_eq_getElem b1) (List.getElem?_eq_getElem b2)) r1 r2 low
end
section
variable {X:Cx}
theorem op_ne_al (n:Nat) (hu:X.A.units+n+1 < cLine):OpR X (compareOp .NotEq) (fun x y H Q=>AlS X.K H n x y/\Q (.bl false) H):=by
 intro pins s σ H x y v u Q I rx ry h
 obtain ⟨⟨p,q,xs,ys,rfl,rfl,h,el,k⟩,fin⟩:=h
 cases rx
 cases ry
 have low:X.A.in1.units+n < cLine:=by rw [units_in1];omega
 rcases h with ⟨hp,hq⟩ | ⟨hp,hq⟩
 ·obtain ⟨is,ri,pi,_⟩:=I.list hp
  obtain ⟨js,rj,pj,_⟩:=I.list hq
  refine PySem.EqBoolInt.of_rcne (SeqAt.RcNeAt.lists (e:=fun _=>true) pi.isList pj.isList (by simp only [List.size_toArray];rw [<- ri.length,<- rj.length];exact el) (by omega) (als_items I low k ri rj)) ?_
  refine fin_bl I fin ?_
  rw [all_range];rfl
 ·obtain ⟨is,ri,pi,_⟩:=I.tuple hp
  obtain ⟨js,rj,pj,_⟩:=I.tuple hq
  refine PySem.EqBoolInt.of_rcne (SeqAt.RcNeAt.tuples (e:=fun _=>true) pi pj (by omega) (als_items I low k ri rj)) ?_
  have e:(is.toArray.size == js.toArray.size)=true:=by simp only [List.size_toArray,beq_iff_eq];rw [<- ri.length,<- rj.length];exact el
  refine fin_bl I fin ?_
  rw [all_range,e];rfl
def tLenSet (K:PySem.W.Frag) (te:TE):TE:=fun σ H Q=>te σ H fun x H1=>∃ (p:Addr) (zs:List Str),x=.ref p/\SqL K H1 p (zs.map V.str)/\zs.length+1 < scanBound/\Q (.int (dist zs).length) H1
theorem pe_lenset {e:Expr} {te:TE} {xl xs:Str} {p1 p2 pos1 pos2:Pos} (hc:X.calm=true) (he:PE X e te) (gl:Gl X xl) (ml:X.mg xl=none) (vl:bootBuiltins xl=some (.builtin "len")) (gs:Gl X xs) (ms:X.mg xs=none) (vs:bootBuiltins xs=some (.type "set"))
  (hn1:xl≠"__name__" := by decide) (hd1:(xl == ("__debug__" : Str))=false:=by decide) (hn2:xs≠"__name__" := by decide) (hd2:(xs == ("__debug__" : Str))=false:=by decide)
  (hs:starEach [e] X.env=[(false,eval e X.env)]:=by rfl):PE X (.Call (.Name xl p1) [.Call (.Name xs p2) [e] [] pos2] [] pos1) (tLenSet X.K te):=by
 intro pins s σ H Q I h
 refine wpAny_Call_Name_kw (ld_blt I gl ml vl ?_ hn1 hd1)
 refine PyProof.Rows.callWith_builtin1 ?_ rfl rfl
 show wpAny _ _ (spliced [(false,eval (.Call (.Name xs p2) [e] [] pos2) X.env)]) _ _ s
 refine Calls.spliced_cons ?_
 refine wpAny_Call_Name_kw (ld_blt I gs ms vs ?_ hn2 hd2)
 refine PyProof.Rows.callWith_type1 (thn (pa_cons he pa_nil hs pos2 pins s σ H (fun vs H1=>∃ x,vs=[x]/\∃ (p:Addr) (zs:List Str),x=.ref p/\SqL X.K H1 p (zs.map V.str)/\zs.length+1 < scanBound/\Q (.int (dist zs).length) H1) I ?_) fun us s1 h1=>?_) hs rfl
 ·have mono:=h
  refine ?_
  show te σ H _
  exact (show te σ H (fun x H1=>∃ x',[x]=[x']/\∃ (p:Addr) (zs:List Str),x'=.ref p/\SqL X.K H1 p (zs.map V.str)/\zs.length+1 < scanBound/\Q (.int (dist zs).length) H1) from by
   have e:(fun (x:V) (H1:Hp)=>∃ x',[x]=[x']/\∃ (p:Addr) (zs:List Str),x'=.ref p/\SqL X.K H1 p (zs.map V.str)/\zs.length+1 < scanBound/\Q (.int (dist zs).length) H1)=fun x H1=>∃ (p:Addr) (zs:List Str),x=.ref p/\SqL X.K H1 p (zs.map V.str)/\zs.length+1 < scanBound/\Q (.int (dist zs).length) H1:=by
    funext x H1
    refine propext ⟨fun ⟨x',e,r⟩=>?_,fun r=>⟨x,rfl,r⟩⟩
    cases e
    exact r
   rw [e]
   exact h)
 ·obtain ⟨vs',H1,I1,r1,x,rfl,p,zs,rfl,hq,small,q⟩:=h1
  obtain ⟨u,rfl,ru⟩:=vals1 r1
  cases ru
  obtain ⟨its,rv,pl,_⟩:=I1.list hq
  refine set_texts (I1.ok.hd hc) pl.isList (strs_of rv) small fun h' tk T kp=>?_
  refine Calls.spliced_nil ?_
  obtain ⟨o,es,ep,t,ho,hex,hd,_,_,hb,hf,hN⟩:=T
  have I2:Inv X pins σ H1 { s1 with heap:=h',toks:=tk }:=I1.kept (t':=tk) kp
  have fit:(es.size:Int) < 2 ^ 63:=by
   have:es.size < scanBound:=hb
   have z:scanBound<=4096:=by decide
   have:(es.size:Int) < 4096:=by omega
   exact Int.lt_of_lt_of_le this (by decide)
  rw [<- hN] at q
  exact call_len_set ho hex hd hf fit ⟨.int es.size,H1,I2.tok _,⟨_,rfl⟩,q⟩
theorem call_divmod':CallR X (.builtin "divmod") (fun xs H Q=>∃ i j,xs=[.int i,.int j]/\0 < j/\j < 2 ^ 64/\∀ p,H p=none->Q (.ref p) (upd H p (.tup [.int (i / j),.int (i % j)]))):=by
 intro pins s σ H xs us Q I r h
 obtain ⟨i,j,rfl,h1,h2,q⟩:=h
 obtain ⟨u,w',rfl,⟨t,rfl⟩,⟨t',rfl⟩⟩:=vals2 r
 have small:j.natAbs.log2 < 9000:=by
  have a:j.natAbs < 2 ^ 64:=by omega
  have b:j.natAbs≠0:=by omega
  have c:=(Nat.log2_lt b).mpr a
  omega
 refine divmod_int (by omega) ?_ (.inl (PyProof.noPylong_of_log2 small))
 rw [Int.fdiv_eq_ediv_of_nonneg i (by omega),Int.fmod_eq_emod_of_nonneg i (by omega)]
 refine ⟨.ref s.heap.objs.size,_,I.laid (o:=.tup [.int (i / j),.int (i % j)]) (fun b o e=>Heap.get?_push_of_some _ e) (Nat.le_refl _) ⟨?_,[.int (i / j) s.toks,.int (i % j) (s.toks+1)],.cons ⟨_,rfl⟩ (.cons ⟨_,rfl⟩ .nil),⟨_,Heap.get?_push_size s.heap rfl,rfl,0,rfl⟩⟩,rfl,q _ I.fresh⟩
 show 2<=sizeLine
 decide
end
end L2
namespace K90
open PySem PySem.Spec PyProof.Rows L2
def top (i:Nat):Stmt:=PySem.Challenge.pw_cutmeet_k90_shown_by_names.main.body.getD i (.Pass ⟨0,0,0,0⟩)
abbrev sName:Stmt:=top 17
abbrev sChkP:Stmt:=top 21
abbrev sAmong:Stmt:=top 22
abbrev sTie:Stmt:=top 23
abbrev sChkT:Stmt:=top 24
abbrev sInit:Stmt:=inClass (top 25) 0
abbrev sPlaces:Stmt:=inClass (top 25) 1
abbrev sTies:Stmt:=inClass (top 25) 4
abbrev sRow:Stmt:=top 167 -- _law_pot_at
abbrev sDraw:Stmt:=top 168
abbrev sLName:Stmt:=top 169
abbrev sLaw:Stmt:=top 173
structure Df (K:PySem.W.Frag) (mg:Str->Option Value) (x:Str) (st:Stmt) (ps:List Str) (f:Addr) (fd:FuncData):Prop where
 fn:Fun K x x st f fd
 mgf:mg x=some (.ref f)
 b:Binds K fd ps []
def But (p:Addr) (H H':Hp):Prop:=∀ b o,H b=some o->b≠p->H' b=some o
def Row (H:Hp) (p:Addr):Prop:=∃ a b:Int,H p=some (.lst [.int a,.int b])
def spDraw:Sp:=fun vs H Q _=>∃ (p:Addr) (m:Int),vs=[.ref p,.int m]/\Row H p/\0 < m/\m < 2 ^ 64/\∀ (d:Int) (H':Hp),0<=d->d < m->Row H' p->But p H H'->Q (.int d) H'
structure Glb (mg:Str->Option Value):Prop where
 divmod:mg "divmod" = none
 len:mg "len" = none
 all:mg "all" = none
 isinst:mg "isinstance" = none
 str:mg "str" = none
 range:mg "range" = none
 max:mg "max" = none
 min:mg "min" = none
 bool:mg "bool" = none
 list:mg "list" = none
 int:mg "int" = none
 tuple:mg "tuple" = none
 set:mg "set" = none
 sorted:mg "sorted" = none
 longest:∃ t,mg "LONGEST" = some (.int 8 t)
 places:∃ t,mg "MOST_PLACES" = some (.int 12 t)
 ties:∃ t,mg "MOST_TIES" = some (.int 30 t)
section
variable {P:Program} {w:World} {K:PySem.W.Frag} {mg:Str->Option Value} {base:Heap}
theorem scD:FnScope ["_law_pot","_law_many","_law_digit"] ["_law_pot","_law_many"] (defScope sDraw):=⟨rfl,rfl,rfl,by decide +kernel,rfl,by decide +kernel,by decide +kernel⟩
theorem ok_draw {f:Addr} {fd:FuncData} (F:Fun K "_law_draw" "_law_draw" sDraw f fd) (T:Glb mg):FnOk P w K mg base CX0 1 f fd ["_law_pot","_law_many"] spDraw:=by
 refine F.ok scD (fun vs H Q E h=>?_) (fun cdv A outer s H vs Q E hr h=>?_)
 ·obtain ⟨p,m,rfl,_⟩:=h
  rfl
 ·obtain ⟨p,m,rfl,⟨a,b,hp⟩,m0,m1,k⟩:=h
  refine ⟨_,pss_cons (ps_if (pt_cmpR op_gt (pe_ix ix_list (pv 0) pe_int (fun _ _=>rfl)) pe_int (nomark _))
   (pss_cons (ps_asg (pe_callB call_divmod' (by rfl) T.divmod PyProof.Rows.boot_divmod (pa_cons (pe_ix ix_list (pv 0) pe_int (fun _ _=>rfl)) (pa_cons (pv 1) pa_nil)))
    (pg_tup rfl (pgs_cons (pg_sub (pv 0) pe_int set_list) (pgs_cons (pg_name (i:=2) scD.nd rfl (Or.inl rfl)) pgs_nil)))) (pss_one (ps_ret (pv 2)))) pss_nil)
   (pss_cons (ps_if (pt_cmpR op_lt (pe_ix ix_list (pv 0) pe_int (fun _ _=>rfl)) pe_int (nomark _)) (pss_one (ps_ret pe_int)) pss_nil)
   (pss_cons (ps_asg (pe_op op_mod (pe_op op_add (pe_op op_mul (pe_ix ix_list (pv 0) pe_int (fun _ _=>rfl)) pe_int) pe_int) pe_int) (pg_sub (pv 0) pe_int set_list))
   (pss_one (ps_ret (pe_op op_mod (pe_op op_fdiv (pe_ix ix_list (pv 0) pe_int (fun _ _=>rfl)) pe_int) (pv 1)))))),?_⟩
  refine ⟨_,rfl,p,_,_,_,rfl,rfl,SqL.of hp,atI_nat (j:=0) rfl,?_⟩
  refine ⟨_,_,rfl,rfl,_,rfl,?_⟩
  refine ite2 (fun ha=>?_) (fun ha=>?_)
  ·refine ⟨_,rfl,p,_,_,_,rfl,rfl,SqL.of hp,atI_nat (j:=0) rfl,_,rfl,a,m,rfl,m0,m1,fun t ht=>?_⟩
   have npt:p≠t:=ne_of_none hp ht
   refine ⟨t,_,rfl,SqT.of upd_same,rfl,_,_,rfl,_,rfl,p,_,_,0,rfl,rfl,(by rw [upd_ne npt];exact hp),rfl,?_⟩
   refine ⟨_,_,rfl,rfl,_,rfl,?_⟩
   refine k _ _ (Int.emod_nonneg _ (by omega)) (Int.emod_lt_of_pos _ m0) ⟨_,_,upd_same⟩ fun c o e hc=>?_
   rw [upd_ne hc,upd_ne (ne_of_none e ht)]
   exact e
  ·refine ⟨_,rfl,p,_,_,_,rfl,rfl,SqL.of hp,atI_nat (j:=1) rfl,?_⟩
   refine ⟨_,_,rfl,rfl,_,rfl,?_⟩
   refine ite2 (fun hb=>?_) (fun hb=>?_)
   ·exact k 0 H (Int.le_refl _) m0 ⟨_,_,hp⟩ fun c o e _=>e
   ·refine ⟨_,rfl,p,_,_,_,rfl,rfl,SqL.of hp,atI_nat (j:=1) rfl,_,_,rfl,rfl,.inr ⟨by decide,by decide⟩,_,_,rfl,rfl,_,_,rfl,rfl,(by show (0:Int) < 2147483647;decide),?_⟩
    refine ⟨_,rfl,p,_,_,1,rfl,rfl,hp,rfl,?_⟩
    refine ⟨_,rfl,p,_,_,_,rfl,rfl,SqL.of upd_same,atI_nat (j:=1) rfl,_,_,rfl,rfl,⟨by decide,by decide⟩,_,rfl,_,_,rfl,rfl,m0,?_⟩
    refine k _ _ (Int.emod_nonneg _ (by omega)) (Int.emod_lt_of_pos _ m0) ⟨_,_,upd_same⟩ fun c o e hc=>?_
    rw [upd_ne hc]
    exact e
def spRow:Sp:=fun vs H Q _=>∃ (a:Addr) (ns:List Int) (k:Nat),vs=[.ref a,.int k]/\SqL K H a (ns.map V.int)/\ns.length<=63/\∀ (p:Addr) (H':Hp),H p=none->Row H' p->Same H H'->Q (.ref p) H'
theorem scR:FnScope ["_law_script","_law_k","_law_cell","_law_mixed"] ["_law_script","_law_k"] (defScope sRow):=⟨rfl,rfl,rfl,by decide +kernel,rfl,by decide +kernel,by decide +kernel⟩
theorem row_end {H:Hp} {Q:VK} (k:∀ (p:Addr) (H':Hp),H p=none->Row H' p->Same H H'->Q (.ref p) H') (a b:Int) (p:Addr) (hp:H p=none):Q (.ref p) (upd H p (.lst [.int a,.int b])) :=
 k p _ hp ⟨a,b,upd_same⟩ fun c o e=>by rw [upd_ne (ne_of_none e hp)];exact e
theorem ok_row {f:Addr} {fd:FuncData} (F:Fun K "_law_pot_at" "_law_pot_at" sRow f fd) (T:Glb mg):FnOk P w K mg base CX0 1 f fd ["_law_script","_law_k"] (spRow (K:=K)):=by
 refine F.ok scR (fun vs H Q E h=>?_) (fun cdv A outer s H vs Q E hr h=>?_)
 ·obtain ⟨a,ns,k,rfl,_⟩:=h
  rfl
 ·obtain ⟨a,ns,n,rfl,hS,hl,k⟩:=h
  refine ⟨_,pss_cons (ps_set (i:=2) scR.nd rfl (Or.inl rfl) pe_int)
   (pss_cons (ps_if (pt_cmpR op_lt (pv 1) (pe_callB call_len_seq (by rfl) T.len PySem.boot_len (pa_cons (pv 0) pa_nil)) (nomark _)) (pss_one (ps_set (i:=2) scR.nd rfl (Or.inl rfl) (pe_ix ix_list (pv 0) (pv 1) (fun _ _=>rfl)))) pss_nil)
   (pss_cons (ps_set (i:=3) scR.nd rfl (Or.inl rfl) (pe_op op_mod (pe_op op_add (pe_op op_mul (pv 2) pe_int) (pe_op op_mul pe_int (pe_op op_add (pv 1) pe_int))) pe_int))
   (pss_cons (ps_if (pt_cmpR op_lt (pv 2) (pe_op op_pow pe_int pe_int) (nomark _)) (pss_one (ps_ret (pe_lst (pa_cons pe_int (pa_cons (pv 3) pa_nil))))) pss_nil)
   (pss_cons (ps_if (pt_cmpR op_eq (pe_op op_mod (pv 2) pe_int) pe_int (nomark _)) (pss_one (ps_set (i:=3) scR.nd rfl (Or.inl rfl) (pe_un un_neg pe_int))) pss_nil)
   (pss_one (ps_ret (pe_lst (pa_cons (pe_op op_fdiv (pe_op op_sub (pv 2) (pe_op op_pow pe_int pe_int)) pe_int) (pa_cons (pv 3) pa_nil))))))))),?_⟩
  refine ⟨_,rfl,_,rfl,a,_,rfl,.inl hS,_,_,rfl,rfl,_,rfl,?_⟩
  refine ite2 (fun hlt=>?_) (fun hlt=>?_)
  ·have hlt':n < ns.length:=by simpa using hlt
   refine ⟨_,rfl,_,rfl,a,_,_,_,rfl,rfl,hS,atI_nat (j:=n) (v:=.int ns[n]) (by simp [hlt']),?_⟩
   refine ⟨_,rfl,_,_,rfl,rfl,.inr ⟨by decide,by decide⟩,_,rfl,_,_,rfl,rfl,_,_,rfl,rfl,.inl ⟨by decide,by decide⟩,_,_,rfl,rfl,_,_,rfl,rfl,(by show (0:Int) < 2147483647;decide),?_⟩
   refine ⟨_,rfl,_,_,rfl,rfl,⟨by decide,by decide,by decide⟩,_,_,rfl,rfl,_,rfl,?_⟩
   refine ite2 (fun _=>?_) (fun _=>?_)
   ·exact ⟨_,rfl,(by show 2<=sizeLine;decide),row_end k _ _⟩
   ·refine ⟨_,rfl,_,_,rfl,rfl,(by show (0:Int) < 2;decide),rfl,_,rfl,?_⟩
    refine ite2 (fun _=>?_) (fun _=>?_)
    ·refine ⟨_,rfl,_,rfl,_,_,rfl,rfl,⟨by decide,by decide,by decide⟩,_,_,rfl,rfl,_,_,rfl,rfl,⟨by decide,by decide⟩,_,rfl,(by show 2<=sizeLine;decide),row_end k _ _⟩
    ·refine ⟨_,rfl,_,_,rfl,rfl,⟨by decide,by decide,by decide⟩,_,_,rfl,rfl,_,_,rfl,rfl,⟨by decide,by decide⟩,_,rfl,(by show 2<=sizeLine;decide),row_end k _ _⟩
  ·refine ⟨_,rfl,_,_,rfl,rfl,.inr ⟨by decide,by decide⟩,_,rfl,_,_,rfl,rfl,_,_,rfl,rfl,.inl ⟨by decide,by decide⟩,_,_,rfl,rfl,_,_,rfl,rfl,(by show (0:Int) < 2147483647;decide),?_⟩
   refine ⟨_,rfl,_,_,rfl,rfl,⟨by decide,by decide,by decide⟩,_,_,rfl,rfl,_,rfl,?_⟩
   refine ite2 (fun _=>?_) (fun _=>?_)
   ·exact ⟨_,rfl,(by show 2<=sizeLine;decide),row_end k _ _⟩
   ·refine ⟨_,rfl,_,_,rfl,rfl,(by show (0:Int) < 2;decide),rfl,_,rfl,?_⟩
    refine ite2 (fun _=>?_) (fun _=>?_)
    ·refine ⟨_,rfl,_,rfl,_,_,rfl,rfl,⟨by decide,by decide,by decide⟩,_,_,rfl,rfl,_,_,rfl,rfl,⟨by decide,by decide⟩,_,rfl,(by show 2<=sizeLine;decide),row_end k _ _⟩
    ·refine ⟨_,rfl,_,_,rfl,rfl,⟨by decide,by decide,by decide⟩,_,_,rfl,rfl,_,_,rfl,rfl,⟨by decide,by decide⟩,_,rfl,(by show 2<=sizeLine;decide),row_end k _ _⟩
def lo (c:Nat):Bool:=!decide ((⟨#[c]⟩:Str).cps.toList < ("a" : Str).cps.toList)
def hi (c:Nat):Bool:=!decide (("z" : Str).cps.toList < (⟨#[c]⟩:Str).cps.toList)
def nm (z:Str):Bool:=(decide (1<=z.length) && decide (z.length<=8)) && (z.cps.toList.map fun c=>lo c && hi c).all id
theorem signs_loop {K:PySem.W.Frag} {z:Str} {H:Hp} {Q:VK} {te:TE} {σ:L2.St} {x:Str} (hz:z.cps.size<=sizeLine) (f:Nat->Bool)
  (he:∀ (c:Nat) (H:Hp) (Q:VK),Q (.bl (f c)) H->te [some (V.str ⟨#[c]⟩)] H Q) (k:∀ D,H D=none->Q (.ref D) (upd H D (.lst ((z.cps.toList.map f).map V.bl)))) :
  lcLoop [x] [] (gName 0) tYes te σ Q (Its z) H:=by
 refine ⟨fun i m ys H2=>H2=H/\i<=z.cps.size/\m=z.cps.size - i/\ys=((z.cps.toList.take i).map f).map V.bl,⟨z.cps.size,rfl,Nat.zero_le _,rfl,rfl⟩,?_⟩
 rintro i m ys H2 ⟨rfl,hi,rfl,rfl⟩
 refine ⟨by simp;omega,?_⟩
 by_cases h:i < z.cps.size
 ·refine .inr ⟨h,fun x H3 hy=>?_⟩
  obtain ⟨rfl,c,hc,rfl⟩:=hy
  simp only [tYes,gName,if_true]
  refine he c _ _ ⟨z.cps.size - (i+1),by omega,rfl,h,rfl,?_⟩
  have e:(z.cps.toList.take (i+1))=z.cps.toList.take i++[c]:=by
   rw [List.take_add_one]
   have:z.cps.toList[i]?=some c:=by simpa using hc
   rw [this];rfl
  rw [e];simp
 ·have e:i=z.cps.size:=by omega
  subst e
  refine .inl ⟨rfl,fun D hD=>?_⟩
  have q:=k D hD
  rw [List.take_of_length_le (by simp)]
  exact q
def spName:Sp:=fun vs H Q _=>(∃ z:Str,vs=[.str z]/\z.length<=1000/\∀ H',Same H H'->Q (.bl (nm z)) H')\/∃ x t,vs=[x]/\TyOf K H x t/\PySem.W.kitOne K t (.type "str")=some false/\Q (.bl false) H
theorem scN:FnScope ["thing"] ["thing"] (defScope sName):=⟨rfl,rfl,rfl,by decide +kernel,rfl,by decide +kernel,by decide +kernel⟩
theorem ok_name {f:Addr} {fd:FuncData} (F:Fun K "is_name" "is_name" sName f fd) (T:Glb mg):FnOk P w K mg base CX0 1 f fd ["thing"] (spName (K:=K)):=by
 refine F.ok scN (fun vs H Q E h=>?_) (fun cdv A outer s H vs Q E hr h=>?_)
 ·rcases h with ⟨z,rfl,_⟩ | ⟨x,t,rfl,_⟩<;>rfl
 ·obtain ⟨t8,h8⟩:=T.longest
  refine ⟨_,pss_cons (ps_if (PW.pt (pw_or (pt_not (pt_val (pe_callB (call_isinst (T:="str")) (by rfl) T.isinst boot_isinstance (pa_cons (pv 0) (pa_cons (pe_bltn (v:=.ty "str") rfl T.str PyProof.Rows.boot_str rfl) pa_nil))) (fun _=>rfl)))
    (pw_or1 (pt_not (pt_chain op_le op_le pe_int (pe_callB call_len_str (by rfl) T.len PySem.boot_len (pa_cons (pv 0) pa_nil)) (pe_glob (v:=.int 8) rfl h8 ⟨_,rfl⟩)))))) (pss_one (ps_ret pe_bl)) pss_nil)
   (pss_one (ps_ret (pe_callB (call_all rfl) (by rfl) T.all boot_all (pa_cons (pe_lc ["sign"] [] rfl (compSc (osc:=(defScope sName).names) (N:=["thing"]) rfl rfl (by decide +kernel)) (gk_name (by decide)) (pi_str (pv 0)) (fun _ _ _=>pg_name (i:=0) (show (["sign"]:List Str).Nodup by decide +kernel) rfl (Or.inl rfl)) (fun _ _ _=>pifs_nil)
    (fun _ _ _=>pe_chain op_le_str op_le_str pe_str (pv 0) pe_str)) pa_nil)))),?_⟩
  rcases h with ⟨z,rfl,hz,k⟩ | ⟨x,t,rfl,ty,ki,k⟩
  ·have hzs:z.length<=sizeLine:=Nat.le_trans hz (by decide)
   refine ⟨_,rfl,_,_,true,rfl,.str z,rfl,_,rfl,?_⟩
   refine iteF ?_
   refine ⟨_,rfl,z,rfl,hzs,_,_,rfl,rfl,_,rfl,?_⟩
   refine ite2 (fun h1=>?_) (fun h1=>?_)
   ·refine ⟨_,_,rfl,rfl,_,rfl,?_⟩
    refine ite2 (fun h2=>?_) (fun h2=>?_)
    ·have e:nm z=false:=by
      have:¬ z.length<=8:=by simp at h2;omega
      simp [nm,this]
     exact e ▸ k H (Same.refl _)
    ·have e:nm z=(z.cps.toList.map fun c=>lo c && hi c).all id:=by
      have a1:1<=z.length:=by simp at h1;omega
      have a2:z.length<=8:=by simp at h2;omega
      unfold nm
      rw [decide_eq_true a1,decide_eq_true a2];rfl
     refine ⟨_,rfl,z,rfl,signs_loop (K:=K) hzs (fun c=>lo c && hi c) (fun c H Q q=>?_) (fun D hD=>⟨D,_,rfl,SqL.of upd_same,?_⟩)⟩
     ·refine ⟨_,rfl,_,_,rfl,rfl,_,rfl,?_⟩
      have q':Q (.bl (lo c && hi c)) H:=q
      refine ite2 (fun h=>?_) (fun h=>?_)
      ·refine ⟨_,_,rfl,rfl,?_⟩
       have e1:lo c=true:=h
       rw [e1,Bool.true_and] at q'
       exact q'
      ·have e1:lo c=false:=by simpa using (show ¬ lo c=true from h)
       rw [e1,Bool.false_and] at q'
       exact q'
     ·exact e ▸ k _ fun c o q=>by rw [upd_ne (ne_of_none q hD)];exact q
   ·refine ⟨_,rfl,?_⟩
    have e:nm z=false:=by
     have:¬ 1<=z.length:=by simp at h1;omega
     simp [nm,this]
    exact iteT (e ▸ k H (Same.refl _))
  ·refine ⟨_,rfl,_,_,false,rfl,ty,ki,_,rfl,?_⟩
   exact iteT k
theorem But.refl (p:Addr) (H:Hp):But p H H:=fun _ _ h _=>h
theorem But.trans {p:Addr} {H H1 H2:Hp} (a:But p H H1) (b:But p H1 H2):But p H H2:=fun c o h n=>b c o (a c o h n) n
theorem But.laid {p q:Addr} {H H1:Hp} {o:HO} (a:But p H H1) (hq:H1 q=none) (hp:Row H1 p):But p H (upd H1 q o)/\Row (upd H1 q o) p:=by
 obtain ⟨x,y,hp⟩:=hp
 exact ⟨fun c u h n=>by rw [upd_ne (ne_of_none (a c u h n) hq)];exact a c u h n,x,y,by rw [upd_ne (ne_of_none hp hq)];exact hp⟩
theorem letters26:("abcdefghijklmnopqrstuvwxyz" : Str).length=26:=by decide +kernel
theorem lit_ix {z:Str} {d:Int} (h0:0<=d) (h1:d < (z.length:Int)):∃ c,atI z.cps.toList d=some c:=by
 obtain ⟨n,rfl⟩:=Int.eq_ofNat_of_zero_le h0
 have hn:n < z.cps.toList.length:=by
  have:n < z.length:=by omega
  rw [Array.length_toList];exact this
 exact ⟨z.cps.toList[n],atI_nat (by simp [hn])⟩
theorem same_upd {H:Hp} {a:Addr} {o:HO} (h:H a=none):Same H (upd H a o):=fun b u e=>by rw [upd_ne (ne_of_none e h)];exact e
structure GoodP (ns:List Str):Prop where
 one:1<=ns.length
 few:ns.length<=12
 nms:∀ z∈ns,nm z=true
 nd:ns.Nodup
theorem nm_len {z:Str} (h:nm z=true):z.length<=8:=by
 unfold nm at h
 simp only [Bool.and_eq_true,decide_eq_true_eq] at h
 exact h.1.2
def spChkP:Sp:=fun vs H Q _=>∃ (a:Addr) (ns:List Str),vs=[.ref a]/\H a=some (.lst (ns.map V.str))/\GoodP ns/\∀ H',Same H H'->Q .non H'
theorem scCP:FnScope ["places"] ["places"] (defScope sChkP):=⟨rfl,rfl,rfl,by decide +kernel,rfl,by decide +kernel,by decide +kernel⟩
theorem ok_chkP {f fN:Addr} {fd fdN:FuncData} (F:Fun K "check_places" "check_places" sChkP f fd) (DN:Df K mg "is_name" sName ["thing"] fN fdN) (T:Glb mg):FnOk P w K mg base CX0 2 f fd ["places"] spChkP:=by
 have GN:FnOk P w K mg base CX0 1 fN fdN ["thing"] (spName (K:=K)):=ok_name DN.fn T
 refine F.ok scCP (fun vs H Q E h=>?_) (fun cdv A outer s H vs Q E hr h=>?_)
 ·obtain ⟨a,ns,rfl,_⟩:=h
  rfl
 ·obtain ⟨a,ns,rfl,ha,g,k⟩:=h
  obtain ⟨t12,h12⟩:=T.places
  refine ⟨_,pss_cons (ps_if (PW.pt (pw_or (pt_not (pt_val (pe_callB (call_isinst (T:="list")) (by rfl) T.isinst boot_isinstance (pa_cons (pv 0) (pa_cons (pe_bltn (v:=.ty "list") rfl T.list PyProof.Rows.boot_list rfl) pa_nil))) (fun _=>rfl)))
    (pw_or1 (pt_not (pt_chain op_le op_le pe_int (pe_callB call_len_seq (by rfl) T.len PySem.boot_len (pa_cons (pv 0) pa_nil)) (pe_glob (v:=.int 12) rfl h12 ⟨_,rfl⟩)))))) (pss_one ps_never) pss_nil)
   (pss_cons (ps_if (pt_not (pt_val (pe_callB (call_all rfl) (by rfl) T.all boot_all (pa_cons (pe_lc ["place"] [] rfl (compSc (osc:=(defScope sChkP).names) (N:=["places"]) rfl rfl (by decide +kernel)) (gk_name (by decide)) (pi_list (pv 0)) (fun _ _ _=>pg_name (i:=0) (show (["place"]:List Str).Nodup by decide +kernel) rfl (Or.inl rfl)) (fun _ _ _=>pifs_nil)
     (fun _ _ _=>pe_call GN hr rfl DN.mgf DN.fn.kp DN.b .nil pass0 (pa_cons (pv 0) pa_nil))) pa_nil)) (fun _=>rfl))) (pss_one ps_never) pss_nil)
   (pss_one (ps_if (pt_cmpR op_lt (pe_lenset rfl (pv 0) rfl T.len PySem.boot_len rfl T.set PyProof.Rows.boot_set) (pe_callB call_len_seq (by rfl) T.len PySem.boot_len (pa_cons (pv 0) pa_nil)) (nomark _)) (pss_one ps_never) pss_nil))),?_⟩
  refine ⟨_,rfl,_,_,true,rfl,.lst ha,rfl,_,rfl,?_⟩
  refine iteF ?_
  have le:(ns.map V.str).length=ns.length:=List.length_map ..
  refine ⟨_,rfl,a,_,rfl,.inl (SqL.of ha),_,_,rfl,rfl,_,rfl,?_⟩
  rw [le]
  have g1:=g.one
  have g2:=g.few
  refine ite2 (fun _=>?_) (fun z=>absurd z (by simp;omega))
  refine ⟨_,_,rfl,rfl,_,rfl,?_⟩
  refine ite2 (fun z=>absurd z (by simp;omega)) (fun _=>?_)
  refine ⟨_,rfl,a,rfl,⟨_,SqL.of ha⟩,lc_list (K:=K) (xs:=ns.map V.str) (fun i ys H2=>Same H H2/\ys=List.replicate i (V.bl true)) ⟨Same.refl _,rfl⟩ ?_ ?_ ?_ ?_⟩
  ·rintro i ys H2 hi ⟨_,rfl⟩
   rw [List.length_replicate]
   rw [le] at hi
   exact Nat.le_trans hi (Nat.le_trans g.few (by decide))
  ·rintro i ys H2 _ ⟨s2,_⟩
   exact SqL.of (s2 _ _ ha)
  ·rintro i x ys H2 R hx ⟨s2,rfl⟩ kR
   rw [List.getElem?_map] at hx
   obtain ⟨z,ez,rfl⟩:=Option.map_eq_some_iff.mp hx
   have gz:=g.nms z (List.mem_of_getElem? ez)
   simp only [tYes,gName,if_true]
   refine ⟨_,rfl,.inl ⟨z,rfl,Nat.le_trans (nm_len gz) (by decide),fun H3 s3=>?_⟩⟩
   rw [gz]
   exact kR _ _ ⟨s2.trans s3,by rw [List.replicate_succ']⟩
  ·rintro ys H2 ⟨s2,rfl⟩ D hD
   rw [le]
   have e:List.replicate ns.length (V.bl true)=(List.replicate ns.length true).map V.bl:=by simp
   refine ⟨D,List.replicate ns.length true,rfl,(by rw [e];exact SqL.of upd_same),_,rfl,?_⟩
   have e2:(List.replicate ns.length true).all id=true:=by simp
   rw [e2]
   refine iteF ?_
   have s3:Same H (upd H2 D (.lst (List.replicate ns.length (V.bl true)))):=s2.trans (same_upd hD)
   refine ⟨_,rfl,a,ns,rfl,SqL.of (s3 _ _ ha),(by have:=g.few;show ns.length+1 < scanBound;exact Nat.lt_of_le_of_lt (Nat.succ_le_succ this) (by decide)),_,rfl,a,_,rfl,.inl (SqL.of (s3 _ _ ha)),_,_,rfl,rfl,_,rfl,?_⟩
   rw [dist_nd g.nd,le]
   refine ite2 (fun z=>absurd z (by simp)) (fun _=>?_)
   exact k _ s3
end
theorem inV_str (z:Str) (ns:List Str):inV (.str z) (ns.map V.str)=decide (z∈ns):=by
 unfold inV
 rw [List.any_map,Bool.eq_iff_iff,decide_eq_true_iff]
 simp only [List.any_eq_true,Function.comp,eqV,beq_iff_eq]
 exact ⟨fun ⟨y,h,e⟩=>e ▸ h,fun h=>⟨z,h,rfl⟩⟩
theorem flat_strs (ns:List Str):(ns.map V.str).all flatV=true:=by
 rw [List.all_map,List.all_eq_true]
 intro _ _
 rfl
section
variable {P:Program} {w:World} {K:PySem.W.Frag} {mg:Str->Option Value} {base:Heap}
def spAmong:Sp:=fun vs H Q _=>(∃ (a:Addr) (ns:List Str) (z:Str),vs=[.ref a,.str z]/\SqL K H a (ns.map V.str)/\Q (.bl (decide (z∈ns))) H)\/∃ (a:Addr) (x:V) (t:Value),vs=[.ref a,x]/\TyOf K H x t/\PySem.W.kitOne K t (.type "str")=some false/\Q (.bl false) H
theorem scAm:FnScope ["places","thing"] ["places","thing"] (defScope sAmong):=⟨rfl,rfl,rfl,by decide +kernel,rfl,by decide +kernel,by decide +kernel⟩
theorem ok_among {f:Addr} {fd:FuncData} (F:Fun K "is_among" "is_among" sAmong f fd) (T:Glb mg):FnOk P w K mg base CX0 1 f fd ["places","thing"] (spAmong (K:=K)):=by
 refine F.ok scAm (fun vs H Q E h=>?_) (fun cdv A outer s H vs Q E hr h=>?_)
 ·rcases h with ⟨a,ns,z,rfl,_⟩ | ⟨a,x,t,rfl,_⟩<;>rfl
 ·refine ⟨_,pss_one (ps_ret (pe_and (pe_callB (call_isinst (T:="str")) (by rfl) T.isinst boot_isinstance (pa_cons (pv 1) (pa_cons (pe_bltn (v:=.ty "str") rfl T.str PyProof.Rows.boot_str rfl) pa_nil))) (pe_one (pe_cmpR op_in_seq (pv 1) (pv 0) rfl)))),?_⟩
  rcases h with ⟨a,ns,z,rfl,ha,k⟩ | ⟨a,x,t,rfl,ty,e,k⟩
  ·refine ⟨_,rfl,_,_,true,rfl,.str z,rfl,_,rfl,?_⟩
   refine iteT ⟨_,rfl,_,rfl,a,_,rfl,.inl ha,rfl,flat_strs ns,?_⟩
   rw [inV_str]
   exact k
  ·refine ⟨_,rfl,x,t,false,rfl,ty,e,_,rfl,?_⟩
   exact iteF k
def spTie:Sp:=fun vs H Q _=>∃ (a:Addr) (ns:List Str) (t:Addr) (x y:Str),vs=[.ref a,.ref t]/\SqL K H a (ns.map V.str)/\H t=some (.tup [.str x,.str y])/\Q (.bl (decide (x∈ns) && decide (y∈ns))) H
theorem scTi:FnScope ["places","thing"] ["places","thing"] (defScope sTie):=⟨rfl,rfl,rfl,by decide +kernel,rfl,by decide +kernel,by decide +kernel⟩
theorem ok_tie {f fA:Addr} {fd fdA:FuncData} (F:Fun K "is_tie" "is_tie" sTie f fd) (DA:Df K mg "is_among" sAmong ["places","thing"] fA fdA) (T:Glb mg):FnOk P w K mg base CX0 2 f fd ["places","thing"] (spTie (K:=K)):=by
 have GA:FnOk P w K mg base CX0 1 fA fdA ["places","thing"] (spAmong (K:=K)):=ok_among DA.fn T
 refine F.ok scTi (fun vs H Q E h=>?_) (fun cdv A outer s H vs Q E hr h=>?_)
 ·obtain ⟨a,ns,t,x,y,rfl,_⟩:=h
  rfl
 ·obtain ⟨a,ns,t,x,y,rfl,ha,ht,k⟩:=h
  refine ⟨_,pss_cons (ps_if (PW.pt (pw_or (pt_not (pt_val (pe_callB (call_isinst (T:="tuple")) (by rfl) T.isinst boot_isinstance (pa_cons (pv 1) (pa_cons (pe_bltn (v:=.ty "tuple") rfl T.tuple PyProof.Rows.boot_tuple rfl) pa_nil))) (fun _=>rfl)))
    (pw_or1 (pt_cmpR op_ne (pe_callB call_len_seq (by rfl) T.len PySem.boot_len (pa_cons (pv 1) pa_nil)) pe_int (nomark _))))) (pss_one (ps_ret pe_bl)) pss_nil)
   (pss_one (ps_ret (pe_and (pe_call GA hr rfl DA.mgf DA.fn.kp DA.b .nil pass0 (pa_cons (pv 0) (pa_cons (pe_ix ix_tup (pv 1) pe_int (fun _ _=>rfl)) pa_nil))) (pe_one (pe_call GA hr rfl DA.mgf DA.fn.kp DA.b .nil pass0 (pa_cons (pv 0) (pa_cons (pe_ix ix_tup (pv 1) pe_int (fun _ _=>rfl)) pa_nil))))))),?_⟩
  refine ⟨_,rfl,_,_,true,rfl,.tup ht,rfl,_,rfl,?_⟩
  refine iteF ⟨_,rfl,t,_,rfl,.inr (SqT.of ht),rfl,_,rfl,?_⟩
  refine iteF ?_
  refine ⟨_,rfl,_,rfl,t,_,_,_,rfl,rfl,SqT.of ht,atI_nat (j:=0) rfl,.inl ⟨a,ns,x,rfl,ha,_,rfl,?_⟩⟩
  refine ite2 (fun e=>?_) (fun e=>?_)
  ·refine ⟨_,rfl,_,rfl,t,_,_,_,rfl,rfl,SqT.of ht,atI_nat (j:=1) rfl,.inl ⟨a,ns,y,rfl,ha,?_⟩⟩
   rw [e,Bool.true_and] at k
   exact k
  ·rw [Bool.eq_false_iff.mpr e,Bool.false_and] at k
   exact k
def TiesAt (H:Hp):List Addr->List (Str × Str)->Prop:=Paired fun t p=>H t=some (.tup [.str p.1,.str p.2])
def InP (ns:List Str) (ps:List (Str × Str)):Prop:=∀ p∈ps,p.1∈ns/\p.2∈ns
theorem TiesAt.mono {H H':Hp} {ts:List Addr} {ps:List (Str × Str)} (h:TiesAt H ts ps) (k:∀ t xs,H t=some (.tup xs)->H' t=some (.tup xs)):TiesAt H' ts ps:=Paired.mapP h fun t p e=>k t _ e
theorem TiesAt.same {H H':Hp} {ts:List Addr} {ps:List (Str × Str)} (h:TiesAt H ts ps) (s:Same H H'):TiesAt H' ts ps:=h.mono fun t xs e=>s t _ e
theorem TiesAt.but {p:Addr} {H H':Hp} {ts:List Addr} {ps:List (Str × Str)} (h:TiesAt H ts ps) (s:But p H H') (np:∀ xs,H p≠some (.tup xs)):TiesAt H' ts ps:=h.mono fun t xs e=>s t _ e fun z=>np xs (z ▸ e)
theorem TiesAt.len {H:Hp} {ts:List Addr} {ps:List (Str × Str)} (h:TiesAt H ts ps):ts.length=ps.length:=Paired.length h
theorem TiesAt.get {H:Hp}:∀ {ts:List Addr} {ps:List (Str × Str)} {i:Nat} {t:Addr},TiesAt H ts ps->ts[i]?=some t->∃ p,ps[i]?=some p/\H t=some (.tup [.str p.1,.str p.2])
 | _,_,_,_,.nil,e=>by simp at e
 | _,_,0,_,.cons r _,e=>by simp at e;subst e;exact ⟨_,rfl,r⟩
 | _,_,i+1,t,.cons _ h,e=>by
  obtain ⟨p,h1,h2⟩:=TiesAt.get (i:=i) (t:=t) h (by simpa using e)
  exact ⟨p,by simpa using h1,h2⟩
theorem TiesAt.snoc {H:Hp} {ts:List Addr} {ps:List (Str × Str)} {t:Addr} {p:Str × Str} (h:TiesAt H ts ps) (e:H t=some (.tup [.str p.1,.str p.2])):TiesAt H (ts++[t]) (ps++[p]):=Paired.snoc h e
def spChkT:Sp:=fun vs H Q _=>∃ (a b:Addr) (ns:List Str) (ts:List Addr) (ps:List (Str × Str)),vs=[.ref a,.ref b]/\H a=some (.lst (ns.map V.str))/\H b=some (.lst (ts.map V.ref))/\TiesAt H ts ps/\InP ns ps/\ps.length<=30/\∀ H',Same H H'->Q .non H'
theorem scCT:FnScope ["places","ties"] ["places","ties"] (defScope sChkT):=⟨rfl,rfl,rfl,by decide +kernel,rfl,by decide +kernel,by decide +kernel⟩
theorem ok_chkT {f fA fT:Addr} {fd fdA fdT:FuncData} (F:Fun K "check_ties" "check_ties" sChkT f fd) (DA:Df K mg "is_among" sAmong ["places","thing"] fA fdA) (DT:Df K mg "is_tie" sTie ["places","thing"] fT fdT) (T:Glb mg):FnOk P w K mg base CX0 3 f fd ["places","ties"] spChkT:=by
 have GT:FnOk P w K mg base CX0 2 fT fdT ["places","thing"] (spTie (K:=K)):=ok_tie DT.fn DA T
 refine F.ok scCT (fun vs H Q E h=>?_) (fun cdv A outer s H vs Q E hr h=>?_)
 ·obtain ⟨a,b,ns,ts,ps,rfl,_⟩:=h
  rfl
 ·obtain ⟨a,b,ns,ts,ps,rfl,ha,hb,hT,hI,few,k⟩:=h
  obtain ⟨t30,h30⟩:=T.ties
  refine ⟨_,pss_cons (ps_if (PW.pt (pw_or (pt_not (pt_val (pe_callB (call_isinst (T:="list")) (by rfl) T.isinst boot_isinstance (pa_cons (pv 1) (pa_cons (pe_bltn (v:=.ty "list") rfl T.list PyProof.Rows.boot_list rfl) pa_nil))) (fun _=>rfl)))
    (pw_or1 (pt_cmpR op_gt (pe_callB call_len_seq (by rfl) T.len PySem.boot_len (pa_cons (pv 1) pa_nil)) (pe_glob (v:=.int 30) rfl h30 ⟨_,rfl⟩) (nomark _))))) (pss_one ps_never) pss_nil)
   (pss_one (ps_if (pt_not (pt_val (pe_callB (call_all rfl) (by rfl) T.all boot_all (pa_cons (pe_lc ["tie"] [0] rfl (compSc (osc:=(defScope sChkT).names) (N:=["places","ties"]) rfl rfl (by decide +kernel)) (gk_name (by decide)) (pi_list (pv 1)) (fun _ _ _=>pg_name (i:=0) (show (["tie","places"]:List Str).Nodup by decide +kernel) rfl (Or.inl rfl)) (fun _ _ _=>pifs_nil)
     (fun _ _ _=>pe_call GT hr rfl DT.mgf DT.fn.kp DT.b .nil pass0 (pa_cons (pv 1) (pa_cons (pv 0) pa_nil)))) pa_nil)) (fun _=>rfl))) (pss_one ps_never) pss_nil)),?_⟩
  have le:(ts.map V.ref).length=ps.length:=by rw [List.length_map,hT.len]
  refine ⟨_,rfl,_,_,true,rfl,.lst hb,rfl,_,rfl,?_⟩
  refine iteF ⟨_,rfl,b,_,rfl,.inl (SqL.of hb),_,_,rfl,rfl,_,rfl,?_⟩
  rw [le]
  refine ite2 (fun z=>absurd z (by simp;omega)) (fun _=>?_)
  refine ⟨_,rfl,b,rfl,⟨_,SqL.of hb⟩,lc_list (K:=K) (xs:=ts.map V.ref) (fun i ys H2=>Same H H2/\ys=List.replicate i (V.bl true)) ⟨Same.refl _,rfl⟩ ?_ ?_ ?_ ?_⟩
  ·rintro i ys H2 hi ⟨_,rfl⟩
   rw [List.length_replicate]
   rw [le] at hi
   exact Nat.le_trans hi (Nat.le_trans few (by decide))
  ·rintro i ys H2 _ ⟨s2,_⟩
   exact SqL.of (s2 _ _ hb)
  ·rintro i x ys H2 R hx ⟨s2,rfl⟩ kR
   rw [List.getElem?_map] at hx
   obtain ⟨t,et,rfl⟩:=Option.map_eq_some_iff.mp hx
   obtain ⟨p,ep,ht⟩:=hT.get et
   obtain ⟨i1,i2⟩:=hI p (List.mem_of_getElem? ep)
   simp only [tYes,gName,if_true]
   refine ⟨_,rfl,_,rfl,a,ns,t,p.1,p.2,rfl,SqL.of (s2 _ _ ha),s2 _ _ ht,?_⟩
   rw [decide_eq_true i1,decide_eq_true i2]
   exact kR _ _ ⟨s2,by rw [List.replicate_succ'];rfl⟩
  ·rintro ys H2 ⟨s2,rfl⟩ D hD
   have e:List.replicate (ts.map V.ref).length (V.bl true)=(List.replicate (ts.map V.ref).length true).map V.bl:=by simp
   refine ⟨D,List.replicate (ts.map V.ref).length true,rfl,(by rw [e];exact SqL.of upd_same),_,rfl,?_⟩
   have e2:(List.replicate (ts.map V.ref).length true).all id=true:=by simp
   rw [e2]
   exact iteF (k _ (s2.trans (same_upd hD)))
end
structure WC (K:PySem.W.Frag) (mg:Str->Option Value) (C:Addr):Prop where
 cl:Cls K C
 nP:NoAttr K C "kept_places"
 nT:NoAttr K C "kept_ties"
 mgC:mg "Web" = some (.ref C)
def wf (kp kt:Addr):List (Str × V):=[("kept_places",.ref kp),("kept_ties",.ref kt)]
def WebObj (C:Addr) (H:Hp) (x:Addr) (ns:List Str) (ps:List (Str × Str)):Prop :=
 ∃ dx kp kt ts,H x=some (.ins C dx (wf kp kt))/\H kp=some (.tup ((srt ns).map V.str))/\H kt=some (.tup (ts.map V.ref))/\TiesAt H ts ps
theorem WebObj.same {C:Addr} {H H':Hp} {x:Addr} {ns:List Str} {ps:List (Str × Str)} (h:WebObj C H x ns ps) (s:Same H H'):WebObj C H' x ns ps :=
 let ⟨dx,kp,kt,ts,h1,h2,h3,h4⟩:=h
 ⟨dx,kp,kt,ts,s _ _ h1,s _ _ h2,s _ _ h3,h4.same s⟩
theorem wf_p (kp kt:Addr):(wf kp kt).lookup ("kept_places" : Str)=some (V.ref kp):=rfl
theorem wf_t (kp kt:Addr):(wf kp kt).lookup ("kept_ties" : Str)=some (V.ref kt):=by
 show List.lookup _ (_::_)=_
 rw [List.lookup_cons,show (("kept_ties" : Str) == "kept_places")=false by decide +kernel]
 rfl
theorem wf_no (kp kt:Addr) (m:Str) (h1:(m == ("kept_places" : Str))=false) (h2:(m == ("kept_ties" : Str))=false):(wf kp kt).lookup m=none:=by
 show List.lookup _ (_::_)=_
 rw [List.lookup_cons,h1]
 show List.lookup _ (_::_)=_
 rw [List.lookup_cons,h2]
 rfl
section
variable {P:Program} {w:World} {K:PySem.W.Frag} {mg:Str->Option Value} {base:Heap}
structure Lists (H:Hp) (a b:Addr) (ns:List Str) (ps:List (Str × Str)) (ts:List Addr):Prop where
 ha:H a=some (.lst (ns.map V.str))
 hb:H b=some (.lst (ts.map V.ref))
 hT:TiesAt H ts ps
 good:GoodP ns
 ins:InP ns ps
 few:ps.length<=30
theorem Lists.same {H H':Hp} {a b:Addr} {ns:List Str} {ps:List (Str × Str)} {ts:List Addr} (h:Lists H a b ns ps ts) (s:Same H H'):Lists H' a b ns ps ts:=⟨s _ _ h.ha,s _ _ h.hb,h.hT.same s,h.good,h.ins,h.few⟩
def spInit (C:Addr):Sp:=fun vs H Q _=>∃ (x a b:Addr) (ns:List Str) (ps:List (Str × Str)) (ts:List Addr),vs=[.ref x,.ref a,.ref b]/\(∃ dx,H x=some (.ins C dx []))/\Lists H a b ns ps ts/\∀ H',WebObj C H' x ns ps->But x H H'->Q .non H'
theorem scIn:FnScope ["self","places","ties"] ["self","places","ties"] (defScope sInit):=⟨rfl,rfl,rfl,by decide +kernel,rfl,by decide +kernel,by decide +kernel⟩
theorem ok_init {C f fN fA fT f1 f2:Addr} {fd fdN fdA fdT fd1 fd2:FuncData} (F:Fun K "__init__" "Web.__init__" sInit f fd) (W:WC K mg C) (DN:Df K mg "is_name" sName ["thing"] fN fdN) (DA:Df K mg "is_among" sAmong ["places","thing"] fA fdA) (DT:Df K mg "is_tie" sTie ["places","thing"] fT fdT)
  (D1:Df K mg "check_places" sChkP ["places"] f1 fd1) (D2:Df K mg "check_ties" sChkT ["places","ties"] f2 fd2) (T:Glb mg):FnOk P w K mg base CX0 4 f fd ["self","places","ties"] (spInit C):=by
 have G1:FnOk P w K mg base CX0 2 f1 fd1 ["places"] spChkP:=ok_chkP D1.fn DN T
 have G2:FnOk P w K mg base CX0 3 f2 fd2 ["places","ties"] spChkT:=ok_chkT D2.fn DA DT T
 refine F.ok scIn (fun vs H Q E h=>?_) (fun cdv A outer s H vs Q E hr h=>?_)
 ·obtain ⟨x,a,b,ns,ps,ts,rfl,_⟩:=h
  rfl
 ·obtain ⟨x,a,b,ns,ps,ts,rfl,⟨dx,hx⟩,L,k⟩:=h
  refine ⟨_,pss_cons (ps_expr (pe_call G1 (hr.mono (by decide)) rfl D1.mgf D1.fn.kp D1.b .nil pass0 (pa_cons (pv 1) pa_nil)))
   (pss_cons (ps_expr (pe_call G2 (hr.mono (by decide)) rfl D2.mgf D2.fn.kp D2.b .nil pass0 (pa_cons (pv 1) (pa_cons (pv 2) pa_nil))))
   (pss_cons (ps_fld (pv 0) (pe_callTy call_tuple_of (by rfl) T.tuple PyProof.Rows.boot_tuple (pa_cons (pe_callB call_sorted_txt (by rfl) T.sorted boot_sorted (pa_cons (pv 1) pa_nil)) pa_nil)) rfl)
   (pss_one (ps_fld (pv 0) (pe_callTy call_tuple_of (by rfl) T.tuple PyProof.Rows.boot_tuple (pa_cons (pe_lc ["a","b"] [] rfl (compSc (osc:=(defScope sInit).names) (N:=["self","places","ties"]) rfl rfl (by decide +kernel)) (gk_two (k:=2) (by decide) (by decide)) (pi_list (pv 2))
    (fun _ _ _=>pg_tup (n:=2) rfl (pgs_cons (pg_name (i:=0) (show (["a","b"]:List Str).Nodup by decide +kernel) rfl (Or.inl rfl)) (pgs_cons (pg_name (i:=1) (show (["a","b"]:List Str).Nodup by decide +kernel) rfl (Or.inl rfl)) pgs_nil))) (fun _ _ _=>pifs_nil)
    (fun _ _ _=>pe_tup (pa_cons (pv 0) (pa_cons (pv 1) pa_nil)))) pa_nil)) rfl)))),?_⟩
  refine ⟨_,rfl,a,ns,rfl,L.ha,L.good,fun H1 s1=>?_⟩
  have L1:=L.same s1
  refine ⟨_,rfl,_,rfl,a,b,ns,ts,ps,rfl,L1.ha,L1.hb,L1.hT,L1.ins,L1.few,fun H2 s2=>?_⟩
  have L2':=L1.same s2
  refine ⟨_,rfl,a,ns,rfl,SqL.of L2'.ha,Nat.lt_of_le_of_lt L.good.few (by decide),fun l hl=>?_⟩
  refine ⟨l,_,rfl,.inl ⟨SqL.of upd_same,fun kp hkp=>?_⟩⟩
  have s3:Same H2 (upd (upd H2 l (.lst ((srt ns).map V.str))) kp (.tup ((srt ns).map V.str))):=(same_upd hl).trans (same_upd hkp)
  have s03:=(s1.trans s2).trans s3
  have hkp3:=upd_same (H:=upd H2 l (.lst ((srt ns).map V.str))) (a:=kp) (o:=.tup ((srt ns).map V.str))
  generalize upd (upd H2 l (.lst ((srt ns).map V.str))) kp (.tup ((srt ns).map V.str))=H3 at s3 s03 hkp3 ⊢
  have hx3:=s03 _ _ hx
  refine ⟨_,rfl,x,C,dx,_,rfl,hx3,W.cl,W.nP,(by show 0 < 1000;decide),?_⟩
  have L3:=L.same s03
  have nax:a≠x:=ne_of L3.ha hx3 (by intro z;cases z)
  have nbx:b≠x:=ne_of L3.hb hx3 (by intro z;cases z)
  have nkx:kp≠x:=ne_of hkp3 hx3 (by intro z;cases z)
  have L4:Lists (upd H3 x (.ins C dx (putF "kept_places" (.ref kp) []))) a b ns ps ts:=⟨by rw [upd_ne nax];exact L3.ha,by rw [upd_ne nbx];exact L3.hb,L3.hT.mono fun t xs e=>by rw [upd_ne (ne_of e hx3 (by intro z;cases z))];exact e,L.good,L.ins,L.few⟩
  have b4:But x H (upd H3 x (.ins C dx (putF "kept_places" (.ref kp) []))):=fun c o e n=>by rw [upd_ne n];exact s03 _ _ e
  have hx4:=upd_same (H:=H3) (a:=x) (o:=.ins C dx (putF "kept_places" (.ref kp) []))
  have hkp4:(upd H3 x (.ins C dx (putF "kept_places" (.ref kp) []))) kp=some (.tup ((srt ns).map V.str)):=by rw [upd_ne nkx];exact hkp3
  generalize upd H3 x (.ins C dx (putF "kept_places" (.ref kp) []))=H4 at L4 b4 hx4 hkp4 ⊢
  have le:(ts.map V.ref).length=ps.length:=by rw [List.length_map,L.hT.len]
  refine ⟨_,rfl,b,rfl,⟨_,SqL.of L4.hb⟩,lc_list (K:=K) (xs:=ts.map V.ref) (fun i ys H5=>Same H4 H5/\∃ us:List Addr,ys=us.map V.ref/\us.length=i/\TiesAt H5 us (ps.take i)) ⟨Same.refl _,[],rfl,rfl,.nil⟩ ?_ ?_ ?_ ?_⟩
  ·rintro i ys H5 hi ⟨_,us,rfl,e,_⟩
   rw [List.length_map,e]
   rw [le] at hi
   exact Nat.le_trans hi (Nat.le_trans L.few (by decide))
  ·rintro i ys H5 _ ⟨s5,_⟩
   exact SqL.of (s5 _ _ L4.hb)
  ·rintro i y ys H5 R hy ⟨s5,us,rfl,e,hU⟩ kR
   rw [List.getElem?_map] at hy
   obtain ⟨t,et,rfl⟩:=Option.map_eq_some_iff.mp hy
   obtain ⟨p,ep,ht⟩:=L4.hT.get et
   refine ⟨t,_,rfl,SqT.of (s5 _ _ ht),rfl,_,_,rfl,_,_,rfl,rfl,?_⟩
   simp only [tYes,if_true]
   refine ⟨_,rfl,_,rfl,(by show 2<=sizeLine;decide),fun u hu=>?_⟩
   have e2:us.map V.ref++[V.ref u]=(us++[u]).map V.ref:=by simp
   refine kR _ _ ⟨s5.trans (same_upd hu),us++[u],e2,by simp [e],?_⟩
   rw [List.take_add_one,ep]
   exact (hU.same (same_upd hu)).snoc upd_same
  ·rintro ys H5 ⟨s5,us,rfl,e,hU⟩ D hD
   rw [le,List.take_of_length_le (Nat.le_refl _)] at hU
   refine ⟨D,_,rfl,.inl ⟨SqL.of upd_same,fun kt hkt=>?_⟩⟩
   have s6:Same H4 (upd (upd H5 D (.lst (us.map V.ref))) kt (.tup (us.map V.ref))):=s5.trans ((same_upd hD).trans (same_upd hkt))
   have hU6:=hU.same ((same_upd (o:=.lst (us.map V.ref)) hD).trans (same_upd (o:=.tup (us.map V.ref)) hkt))
   have hkt6:=upd_same (H:=upd H5 D (.lst (us.map V.ref))) (a:=kt) (o:=.tup (us.map V.ref))
   generalize upd (upd H5 D (.lst (us.map V.ref))) kt (.tup (us.map V.ref))=H6 at s6 hU6 hkt6 ⊢
   have hx6:=s6 _ _ hx4
   refine ⟨_,rfl,x,C,dx,_,rfl,hx6,W.cl,W.nT,(by show 1 < 1000;decide),?_⟩
   refine k _ ⟨dx,kp,kt,us,?_,?_,?_,?_⟩ fun c o e n=>?_
   ·rw [upd_same]
    show some (HO.ins C dx (putF "kept_ties" (.ref kt) (putF "kept_places" (.ref kp) [])))=_
    rfl
   ·rw [upd_ne (ne_of (s6 _ _ hkp4) hx6 (by intro z;cases z))];exact s6 _ _ hkp4
   ·rw [upd_ne (ne_of hkt6 hx6 (by intro z;cases z))];exact hkt6
   ·exact hU6.mono fun t xs e=>by rw [upd_ne (ne_of e hx6 (by intro z;cases z))];exact e
   ·rw [upd_ne n];exact s6 _ _ (b4 c o e n)
def spPl (C:Addr):Sp:=fun vs H Q _=>∃ (x:Addr) (ns:List Str) (ps:List (Str × Str)),vs=[.ref x]/\WebObj C H x ns ps/\∀ l,H l=none->Q (.ref l) (upd H l (.lst ((srt ns).map V.str)))
theorem scPl:FnScope ["self"] ["self"] (defScope sPlaces):=⟨rfl,rfl,rfl,by decide +kernel,rfl,by decide +kernel,by decide +kernel⟩
theorem ok_places {C f:Addr} {fd:FuncData} (F:Fun K "places" "Web.places" sPlaces f fd) (W:WC K mg C) (T:Glb mg):FnOk P w K mg base CX0 1 f fd ["self"] (spPl C):=by
 refine F.ok scPl (fun vs H Q E h=>?_) (fun cdv A outer s H vs Q E hr h=>?_)
 ·obtain ⟨x,ns,ps,rfl,_⟩:=h
  rfl
 ·obtain ⟨x,ns,ps,rfl,⟨dx,kp,kt,ts,h1,h2,h3,h4⟩,k⟩:=h
  refine ⟨_,pss_one (ps_ret (pe_callTy call_list_of (by rfl) T.list PyProof.Rows.boot_list (pa_cons (pe_fld (pv 0) rfl) pa_nil))),?_⟩
  exact ⟨_,rfl,x,C,dx,_,_,rfl,h1,W.cl,W.nP,wf_p kp kt,kp,_,rfl,.inr (SqT.of h2),k⟩
def spTs (C:Addr):Sp:=fun vs H Q _=>∃ (x:Addr) (ns:List Str) (ps:List (Str × Str)),vs=[.ref x]/\WebObj C H x ns ps/\∀ l us,H l=none->TiesAt H us ps->Q (.ref l) (upd H l (.lst (us.map V.ref)))
theorem scTs:FnScope ["self"] ["self"] (defScope sTies):=⟨rfl,rfl,rfl,by decide +kernel,rfl,by decide +kernel,by decide +kernel⟩
theorem ok_ties {C f:Addr} {fd:FuncData} (F:Fun K "ties" "Web.ties" sTies f fd) (W:WC K mg C) (T:Glb mg):FnOk P w K mg base CX0 1 f fd ["self"] (spTs C):=by
 refine F.ok scTs (fun vs H Q E h=>?_) (fun cdv A outer s H vs Q E hr h=>?_)
 ·obtain ⟨x,ns,ps,rfl,_⟩:=h
  rfl
 ·obtain ⟨x,ns,ps,rfl,⟨dx,kp,kt,ts,h1,h2,h3,h4⟩,k⟩:=h
  refine ⟨_,pss_one (ps_ret (pe_callTy call_list_of (by rfl) T.list PyProof.Rows.boot_list (pa_cons (pe_fld (pv 0) rfl) pa_nil))),?_⟩
  exact ⟨_,rfl,x,C,dx,_,_,rfl,h1,W.cl,W.nT,wf_t kp kt,kt,_,rfl,.inr (SqT.of h3),fun l hl=>k l ts hl h4⟩
end
end K90
namespace L2
open PySem PySem.Spec PyProof.Rows
theorem lc_str {z:Str} {own:List Str} {fr:List Nat} {g:TG} {tt:TT} {te:TE} {σ:St} {Q:VK} {H:Hp} (Pv:Nat->List V->Hp->Prop) (h0:Pv 0 [] H) (hlen:∀ i ys H,i<=z.cps.size->Pv i ys H->ys.length<=sizeLine)
  (hs:∀ i c ys H (R:List V->Hp->Prop),z.cps[i]?=some c->Pv i ys H->(∀ ys' H',Pv (i+1) ys' H'->R ys' H')->g (.str ⟨#[c]⟩) (cSt own fr σ) H fun σ4 H4=>tt σ4 H4 fun b H5=>if b=true then te σ4 H5 fun y H6=>R (ys++[y]) H6 else R ys H5)
  (hd:∀ ys H,Pv z.cps.size ys H->∀ D,H D=none->Q (.ref D) (upd H D (.lst ys))):lcLoop own fr g tt te σ Q (Its z) H:=by
 refine ⟨fun i m ys H=>m=z.cps.size - i/\i<=z.cps.size/\Pv i ys H,⟨z.cps.size,rfl,Nat.zero_le _,h0⟩,?_⟩
 rintro i m ys H2 ⟨rfl,hi,p⟩
 refine ⟨hlen i ys H2 hi p,?_⟩
 by_cases h:i < z.cps.size
 ·refine .inr ⟨h,fun x H3 hy=>?_⟩
  obtain ⟨rfl,c,hc,rfl⟩:=hy
  exact hs i c ys _ (fun ys' H'=>∃ m',m' < z.cps.size - i/\(m'=z.cps.size - (i+1)/\i+1<=z.cps.size/\Pv (i+1) ys' H')) hc p fun ys' H' q=>⟨z.cps.size - (i+1),by omega,rfl,h,q⟩
 ·have e:i=z.cps.size:=by omega
  subst e
  exact .inl ⟨rfl,hd ys H2 p⟩
abbrev one (c:Nat):Str:=⟨#[c]⟩
theorem glue_ones:∀ (cs:List Nat) (acc:Array Nat),((cs.map one).foldl (fun acc p=>acc++("" : Str).cps++p.cps) acc).toList=acc.toList++cs
 | [],acc=>by simp
 | c::cs,acc=>by
  have e:("" : Str).cps=#[]:=by decide +kernel
  rw [List.map_cons,List.foldl_cons,glue_ones cs,e]
  simp
theorem join_ones {cs:List Nat} (h:cs≠[]):(Txt.join "" (cs.map one)).cps.toList=cs:=by
 cases cs with
 | nil=>exact absurd rfl h
 | cons c r =>
  show ((r.map one).foldl (fun acc p=>acc++("" : Str).cps++p.cps) (one c).cps).toList=_
  rw [glue_ones]
  rfl
theorem atI_mem {α:Type} {xs:List α} {i:Int} {v:α} (h:atI xs i=some v):v∈xs:=by
 unfold atI at h
 obtain ⟨j,_,e⟩:=Option.bind_eq_some_iff.mp h
 exact List.mem_of_getElem? e
theorem pigeon:∀ (l m:List Str),l.Nodup->(∀ x∈l,x∈m)->l.length<=m.length
 | [],m,_,_=>Nat.zero_le _
 | x::l,m,nd,h=>by
  rw [List.nodup_cons] at nd
  have hx:=h x List.mem_cons_self
  have q:=pigeon l (m.erase x) nd.2 fun y hy=>(List.mem_erase_of_ne (fun e:y=x=>nd.1 (e ▸ hy))).mpr (h y (List.mem_cons_of_mem _ hy))
  rw [List.length_erase_of_mem hx] at q
  have:0 < m.length:=List.length_pos_of_mem hx
  simp only [List.length_cons]
  omega
end L2
namespace K90
open PySem PySem.Spec PyProof.Rows L2
abbrev abc:Str:="abcdefghijklmnopqrstuvwxyz"
theorem abc_size:abc.cps.size=26:=by decide +kernel
theorem abc_ok:∀ c∈abc.cps.toList,(lo c && hi c)=true:=by decide +kernel
theorem abc_nd:(abc.cps.toList.map one).Nodup:=by decide +kernel
theorem nm_one {c:Nat} (h:(lo c && hi c)=true):nm (one c)=true:=by
 show ((decide (1<=1) && decide (1<=8)) && ([c].map fun c=>lo c && hi c).all id)=true
 simp [h]
theorem nm_of {z:Str} {cs:List Nat} (e:z.cps.toList=cs) (h1:1<=cs.length) (h8:cs.length<=8) (h:∀ c∈cs,(lo c && hi c)=true):nm z=true:=by
 have l:z.length=cs.length:=by rw [<- e];exact Array.length_toList.symm
 unfold nm
 rw [l,decide_eq_true h1,decide_eq_true h8,e]
 simp only [Bool.and_self,Bool.true_and,List.all_map,List.all_eq_true]
 exact fun c hc=>h c hc
section
variable {P:Program} {w:World} {K:PySem.W.Frag} {mg:Str->Option Value} {base:Heap}
def spLN:Sp:=fun vs H Q _=>∃ (p q:Addr) (ns:List Str),vs=[.ref p,.ref q]/\Row H p/\H q=some (.lst (ns.map V.str))/\ns.length<=25/\∀ (z:Str) (H':Hp),nm z=true->z ∉ ns->Row H' p->But p H H'->Q (.str z) H'
abbrev nN:List Str:=["_law_pot","_law_taken","_law_letters","_law_name_here"]
theorem scLN:FnScope nN ["_law_pot","_law_taken"] (defScope sLName):=⟨rfl,rfl,rfl,by decide +kernel,rfl,by decide +kernel,by decide +kernel⟩
theorem ok_lname {f fD:Addr} {fd fdD:FuncData} (F:Fun K "_law_name" "_law_name" sLName f fd) (D:Df K mg "_law_draw" sDraw ["_law_pot","_law_many"] fD fdD) (T:Glb mg):FnOk P w K mg base CX0 2 f fd ["_law_pot","_law_taken"] spLN:=by
 have G:FnOk P w K mg base CX0 1 fD fdD ["_law_pot","_law_many"] spDraw:=ok_draw D.fn T
 refine F.ok scLN (fun vs H Q E h=>?_) (fun cdv A outer s H vs Q E hr h=>?_)
 ·obtain ⟨p,q,ns,rfl,_⟩:=h
  rfl
 ·obtain ⟨p,q,ns,rfl,hp,hq,few,k⟩:=h
  refine ⟨_,pss_cons (ps_set (i:=2) scLN.nd rfl (Or.inr rfl) pe_str)
   (pss_cons (ps_set (i:=3) scLN.nd rfl (Or.inl rfl) (pe_bm PySem.F.plainAttrs_str PySem.F.slot_str_join PySem.F.type_str_join mt_join pe_str (pa_cons
    (pe_lc ["_law_k"] [2,0] rfl (compSc (osc:=(defScope sLName).names) (N:=nN) rfl rfl (by decide +kernel)) (gk_name (by decide))
     (pi_range1 rfl T.range (pa_cons (pe_op op_add pe_int (pe_call G hr rfl D.mgf D.fn.kp D.b .nil pass0 (pa_cons (pv 0) (pa_cons pe_int pa_nil)))) pa_nil))
     (fun _ _ _=>pg_name (i:=0) (show (["_law_k","_law_letters","_law_pot"]:List Str).Nodup by decide +kernel) rfl (Or.inl rfl)) (fun _ _ _=>pifs_nil)
     (fun _ _ _=>pe_ix ix_str (pv 1) (pe_call G hr rfl D.mgf D.fn.kp D.b .nil pass0 (pa_cons (pv 2) (pa_cons pe_int pa_nil))) (fun _ _=>rfl))) pa_nil)))
   (pss_cons (ps_if (pt_cmpR op_in_seq (pv 3) (pv 1) rfl) (pss_one (ps_set (i:=3) scLN.nd rfl (Or.inl rfl) (pe_ix ix_list
    (pe_lc ["_law_letter"] [1] rfl (compSc (osc:=(defScope sLName).names) (N:=nN) rfl rfl (by decide +kernel)) (gk_name (by decide)) (pi_str (pv 2))
     (fun _ _ _=>pg_name (i:=0) (show (["_law_letter","_law_taken"]:List Str).Nodup by decide +kernel) rfl (Or.inl rfl)) (fun _ _ _=>pifs_one (pt_cmpR (r:=rIn K true) op_notIn_seq (pv 0) (pv 1) rfl))
     (fun _ _ _=>pv 0)) pe_int (fun _ _=>rfl)))) pss_nil)
   (pss_one (ps_ret (pv 3))))),?_⟩
  refine ⟨rfl,_,rfl,p,8,rfl,hp,by decide,by decide,fun d1 H1 d1a d1b hp1 b1=>?_⟩
  refine ⟨_,_,rfl,rfl,_,rfl,by omega,by omega,lc_range (fun i ys H2=>Row H2 p/\But p H H2/\∃ cs:List Nat,ys=(cs.map one).map V.str/\cs.length=i/\∀ c∈cs,(lo c && hi c)=true) ⟨hp1,b1,[],rfl,rfl,fun _ h=>nomatch h⟩ ?_ ?_ ?_⟩
  ·rintro i ys H2 hi ⟨_,_,cs,rfl,hl,_⟩
   rw [List.length_map,List.length_map,hl]
   exact Nat.le_trans hi (Nat.le_trans (show (1+d1).toNat<=8 by omega) (by decide))
  ·rintro i ys H2 R hi ⟨hp2,b2,cs,rfl,hl,h1⟩ kR
   simp only [tYes,gName,if_true]
   refine ⟨_,rfl,_,rfl,p,26,rfl,hp2,by decide,by decide,fun d2 H3 d2a d2b hp3 b3=>?_⟩
   obtain ⟨c,hc⟩:=lit_ix (z:=abc) d2a (by rw [letters26];exact d2b)
   refine ⟨_,_,c,rfl,rfl,by decide +kernel,hc,kR _ _ ⟨hp3,b2.trans b3,cs++[c],by simp,by simp [hl],fun y hy=>?_⟩⟩
   rcases List.mem_append.mp hy with q | q
   ·exact h1 y q
   ·rw [List.mem_singleton.mp q];exact abc_ok c (atI_mem hc)
  ·rintro ys H2 ⟨hp2,b2,cs,rfl,hl,h1⟩ D0 hD0
   obtain ⟨b3,hp3⟩:=b2.laid (o:=.lst ((cs.map one).map V.str)) hD0 hp2
   have l1:1<=cs.length:=by rw [hl];omega
   have l8:cs.length<=8:=by rw [hl];omega
   have hsum:((cs.map one).map (·.length)).sum+(cs.map one).length * ("" : Str).length<=8:=by
    have e1:((cs.map one).map (·.length)).sum=cs.length:=by
     rw [List.map_map]
     clear hl h1 l1 l8 b3 hp3
     induction cs with
     | nil=>rfl
     | cons c r ih=>rw [List.map_cons,List.sum_cons,ih];show 1+_=_;simp;omega
    have:("" : Str).length=0:=by decide +kernel
    rw [e1,this];omega
   have hn:nm (Txt.join "" (cs.map one))=true:=nm_of (join_ones (by intro e;rw [e] at l1;simp at l1)) l1 l8 h1
   refine ⟨"",D0,cs.map one,rfl,rfl,SqL.of upd_same,Nat.le_trans hsum (by decide),?_⟩
   generalize Txt.join "" (cs.map one)=z0 at hn ⊢
   generalize upd H2 D0 (HO.lst ((cs.map one).map V.str))=H3 at b3 hp3 ⊢
   have npq:q≠p:=fun e=>by
    obtain ⟨x,y,r⟩:=hp
    rw [e,r] at hq
    have:=Option.some.inj hq
    injection this with this
    cases ns with
    | nil=>simp at this
    | cons n _=>simp at this
   have hq3:=b3 _ _ hq npq
   refine ⟨_,rfl,_,rfl,q,_,rfl,.inl (SqL.of hq3),rfl,flat_strs ns,_,rfl,?_⟩
   simp only [Bool.false_eq_true,if_false]
   rw [inV_str]
   refine ite2 (fun hin=>?_) (fun hin=>?_)
   ·refine ⟨_,rfl,abc,rfl,lc_str (fun i ys H4=>H4=H3/\ys=(((abc.cps.toList.take i).filter fun c=>decide (one c ∉ ns)).map one).map V.str) ⟨rfl,rfl⟩ ?_ ?_ ?_⟩
    ·rintro i ys H4 hi ⟨_,rfl⟩
     rw [List.length_map,List.length_map]
     refine Nat.le_trans (List.length_filter_le _ _) ?_
     rw [List.length_take,Array.length_toList,abc_size]
     exact Nat.le_trans (Nat.min_le_right _ _) (by decide)
    ·rintro i c ys H4 R hc ⟨rfl,rfl⟩ kR
     simp only [gName]
     refine ⟨_,rfl,_,rfl,q,_,rfl,.inl (SqL.of hq3),rfl,flat_strs ns,_,rfl,?_⟩
     simp only [if_true]
     rw [inV_str]
     have et:abc.cps.toList.take (i+1)=abc.cps.toList.take i++[c]:=by
      rw [List.take_add_one,show abc.cps.toList[i]?=some c by simpa using hc];rfl
     have ef:((abc.cps.toList.take (i+1)).filter fun c=>decide (one c ∉ ns))=((abc.cps.toList.take i).filter fun c=>decide (one c ∉ ns))++(if one c∈ns then [] else [c]):=by
      rw [et,List.filter_append]
      by_cases h:one c∈ns<;>simp [h]
     by_cases h:one c∈ns
     ·rw [decide_eq_true h]
      refine iteF (kR _ _ ⟨rfl,?_⟩)
      rw [ef,if_pos h,List.append_nil]
     ·rw [decide_eq_false h]
      refine iteT ⟨_,rfl,kR _ _ ⟨rfl,?_⟩⟩
      rw [ef,if_neg h]
      simp
    ·rintro ys H4 ⟨rfl,rfl⟩ D1 hD1
     have all:abc.cps.toList.take abc.cps.size=abc.cps.toList:=List.take_of_length_le (by simp)
     rw [all]
     obtain ⟨b4,hp4⟩:=b3.laid (o:=.lst (((abc.cps.toList.filter fun c=>decide (one c ∉ ns)).map one).map V.str)) hD1 hp3
     have hD2:=upd_same (H:=H4) (a:=D1) (o:=.lst (((abc.cps.toList.filter fun c=>decide (one c ∉ ns)).map one).map V.str))
     cases ef:abc.cps.toList.filter fun c=>decide (one c ∉ ns) with
     | nil =>
      exfalso
      have h:=pigeon _ ns abc_nd fun x hx=>by
       obtain ⟨c,hc,rfl⟩:=List.mem_map.mp hx
       have:=List.filter_eq_nil_iff.mp ef c hc
       simpa using this
      rw [List.length_map,Array.length_toList,abc_size] at h
      omega
     | cons c r =>
      rw [ef] at b4 hp4 hD2
      have hc:c∈abc.cps.toList.filter fun c=>decide (one c ∉ ns):=by rw [ef];exact List.mem_cons_self
      obtain ⟨m1,m2⟩:=List.mem_filter.mp hc
      refine ⟨D1,_,_,_,rfl,rfl,SqL.of hD2,atI_nat (j:=0) rfl,_,rfl,?_⟩
      exact k _ _ (nm_one (abc_ok c m1)) (by simpa using m2) hp4 b4
   ·exact ⟨_,rfl,k z0 H3 hn (by simpa using hin) hp3 b3⟩
theorem But.lists {p:Addr} {H H':Hp} {a b:Addr} {ns:List Str} {ps:List (Str × Str)} {ts:List Addr} (h:Lists H a b ns ps ts) (s:But p H H') (hp:∃ xs,H p=some (.lst xs)) (na:a≠p) (nb:b≠p):Lists H' a b ns ps ts :=
 ⟨s _ _ h.ha na,s _ _ h.hb nb,h.hT.but s (fun ys z=>by obtain ⟨xs,e⟩:=hp;rw [e] at z;cases z),h.good,h.ins,h.few⟩
theorem Row.lst {H:Hp} {p:Addr} (h:Row H p):∃ xs,H p=some (.lst xs):=let ⟨a,b,e⟩:=h;⟨_,e⟩
theorem Row.upd_ne {H:Hp} {p q:Addr} {o:HO} (h:Row H p) (n:p≠q):Row (upd H q o) p:=let ⟨a,b,e⟩:=h;⟨a,b,by rw [L2.upd_ne n];exact e⟩
theorem But.upd_new {p q:Addr} {H H1:Hp} {o:HO} (a:But p H H1) (hq:H q=none):But p H (upd H1 q o):=fun c u e n=>by rw [L2.upd_ne (ne_of_none e hq)];exact a c u e n
end
end K90
namespace L2
open PySem PySem.Spec PyProof.Rows
structure DBlk where
 key:Expr
 val:Expr
 tgt:Expr
 src:Expr
 cs:List Expr
 sc:Scope
 pos:Pos
namespace DBlk
variable (B:DBlk)
section
variable (prog:Program) (w:World) (A:Around) (env:Env) (it:Value) (D:Addr)
end
end DBlk
section
variable {X:Cx} {own:List Str} {fr:List Nat} {sc:Scope} {tg iter kx vx:Expr} {ifs:List Expr} {pos:Pos} {wi:TI} {g:TG} {tt:TT} {tk te:TE}
end
section
variable {prog:Program} {w:World} {A:Around} {E:Value->Shared->Prop} {s:Shared}
end
section
variable {X:Cx}
end
open Classical in
theorem srt_mem {l:List Str} {x:Str}:x∈srt l ↔ x∈l:=(srt_perm l).mem_iff
theorem srt_nd {l:List Str} (h:l.Nodup):(srt l).Nodup:=(srt_perm l).nodup_iff.mpr h
end L2
namespace K90
open PySem PySem.Spec PyProof.Rows L2
theorem Same.upd_new {H H1:Hp} {q:Addr} {o:HO} (s:Same H H1) (hq:H q=none):Same H (upd H1 q o):=fun b u e=>by rw [L2.upd_ne (ne_of_none e hq)];exact s b u e
theorem Same.but {H H1 H2:Hp} {p:Addr} (s:Same H H1) (b:But p H1 H2) (hp:H p=none):Same H H2:=fun c u e=>b c u (s c u e) (ne_of_none e hp)
theorem But.upd (H:Hp) (q:Addr) (o:HO):But q H (upd H q o):=fun c u e n=>by rw [L2.upd_ne n];exact e
section
variable {P:Program} {w:World} {K:PySem.W.Frag} {mg:Str->Option Value} {base:Heap}
end
theorem low {A:Around} {k:Nat} (n:Nat) (hr:Room k A) (h:n<=63:=by decide):A.units+n+1 < cLine:=by have:=hr.units;omega
structure Mt (K:PySem.W.Frag) (mg:Str->Option Value) (C fP fS:Addr) (fdP fdS:FuncData):Prop where
 wc:WC K mg C
 pF:Fun K "places" "Web.places" sPlaces fP fdP
 pM:Meth K C "places" fP
 pB:Binds K fdP ["self"] []
 sF:Fun K "ties" "Web.ties" sTies fS fdS
 sM:Meth K C "ties" fS
 sB:Binds K fdS ["self"] []
theorem WebObj.meth {C x:Addr} {H:Hp} {ns:List Str} {ps:List (Str × Str)} (h:WebObj C H x ns ps) (m:Str) (e1:(m == ("kept_places" : Str))=false:=by decide +kernel) (e2:(m == ("kept_ties" : Str))=false:=by decide +kernel):∃ dx fs,H x=some (.ins C dx fs)/\fs.lookup m=none:=by
 obtain ⟨dx,kp,kt,us,q,_⟩:=h
 exact ⟨dx,_,q,wf_no kp kt m e1 e2⟩
section
variable {P:Program} {w:World} {K:PySem.W.Frag} {mg:Str->Option Value} {base:Heap}
structure GoodW (ns:List Str) (ps:List (Str × Str)):Prop where
 good:GoodP ns
 ins:InP ns ps
 few:ps.length<=30
theorem GoodW.inS {ns:List Str} {ps:List (Str × Str)} (g:GoodW ns ps):InP (srt ns) ps:=fun p hp=>⟨srt_mem.mpr (g.ins p hp).1,srt_mem.mpr (g.ins p hp).2⟩
end
end K90
namespace L2
open PySem PySem.Spec PyProof.Rows
section
variable {X:Cx}
theorem vals_strV:∀ (l:List (Str × Tok)),Vals ((l.map (·.1)).map V.str) (strValues l)
 | []=>.nil
 | p::l=>.cons ⟨p.2,rfl⟩ (vals_strV l)
theorem mt_split:MtR X "str.split" (fun x vs H Q=>∃ (z sep:Str),x=.str z/\vs=[.str sep]/\(sep.length == 0)=false/\z.length<=sizeLine/\(Txt.split z sep).length<=sizeLine /\
  ∀ l,H l=none->Q (.ref l) (upd H l (.lst ((Txt.split z sep).map V.str)))):=by
 intro pins s σ H x xs v us Q I rx r h
 obtain ⟨z,sep,rfl,rfl,hy,hz,hn,q⟩:=h
 obtain ⟨t,rfl⟩:=rx
 obtain ⟨u,rfl,ru⟩:=vals1 r
 obtain ⟨tu,rfl⟩:=ru
 have fin:∀ (l:List (Str × Tok)) (k:Nat),l.map (·.1)=Txt.split z sep->EP X pins σ Q (.ref s.heap.objs.size) { s with heap:=s.heap.push { cls:=.type "list",data:=.seq (strValues l).toArray },toks:=k }:=fun l k e =>
  ⟨.ref s.heap.objs.size,_,I.lnew (t':=k) (by rw [<- e];exact vals_strV l) (by simpa using hn),rfl,q _ I.fresh⟩
 cases h1:(decide (z.length < sep.length) || decide (Builtin.Str.strKind z < Builtin.Str.strKind sep))
 ·cases hf:(Builtin.Str.occurrences z sep 0 z.length (z.length+1)).isEmpty
  ·have e:Txt.split z sep=Builtin.Str.partsBetween z (Builtin.Str.occurrences z sep 0 z.length (z.length+1)) sep.length:=(if_neg (ne_true_of_eq_false h1)).trans (if_neg (ne_true_of_eq_false hf))
   refine call_meets F.slot_str_split (typeIs_str _ _ _) F.entry_str_split (F.args_str_split_2 _ _) (meets_str_split_sep z sep t tu h1 hy hf hz (by rw [<- e];exact hn)) ?_
   rw [strsFrom_eq]
   exact fin (numbered s.toks _) _ ((numbered_texts _ _).trans e.symm)
  ·exact call_meets F.slot_str_split (typeIs_str _ _ _) F.entry_str_split (F.args_str_split_2 _ _) (meets_str_split_not_found z sep t tu h1 hy hf)
    (fin [(z,t)] s.toks ((if_neg (ne_true_of_eq_false h1)).trans (if_pos hf)).symm)
 ·exact call_meets F.slot_str_split (typeIs_str _ _ _) F.entry_str_split (F.args_str_split_2 _ _) (meets_str_split_cannot_occur z sep t tu h1)
   (fin [(z,t)] s.toks (if_pos h1).symm)
def tFmt (t:TE):TE:=fun σ H Q=>t σ H fun x H1=>∃ z:Str,x=.str z/\z.length<=sizeLine/\Q (.str z) H1
theorem pe_fmt {e:Expr} {t:TE} {pos:Pos} (h:PE X e t):PE X (.FormattedValue e (-1) none pos) (tFmt t):=by
 intro pins s σ H Q I q
 refine wpAny_FormattedValue_plain (thn (h pins s σ H _ I q) fun v s1 ⟨x,H1,I1,rx,z,e,hz,q1⟩=>?_)
 subst e
 obtain ⟨t,rfl⟩:=rx
 exact wpAny_formatField_str ⟨.str z,H1,I1,⟨t,rfl⟩,q1⟩ ⟨.str z,H1,I1.tok _,⟨_,rfl⟩,q1⟩ hz
def PJ (X:Cx) (es:List Expr) (t:Str->TE):Prop:=∀ (acc:Str) (pins:List (Addr × Obj)) (s:Shared) (σ:St) (H:Hp) (Q:VK),Inv X pins σ H s->t acc σ H Q ->
 Joins (model X.prog X.w) X.A X.xe (evalEach es X.env) acc (fun out s1=>out.length<=sizeLine/\EP X pins σ Q (.str out s1.toks) { s1 with toks:=s1.toks+1 }) s
def tJNil:Str->TE:=fun acc _ H Q=>acc.length<=sizeLine/\Q (.str acc) H
def tJCons (te:TE) (t:Str->TE):Str->TE:=fun acc σ H Q=>te σ H fun x H1=>∃ z:Str,x=.str z/\(acc++z).length<=sizeLine/\t (acc++z) σ H1 Q
theorem pj_nil:PJ X [] tJNil:=fun acc pins s σ H Q I ⟨hz,q⟩=>⟨hz,.str acc,H,I.tok _,⟨_,rfl⟩,q⟩
theorem pj_cons {e:Expr} {es:List Expr} {te:TE} {t:Str->TE} (h:PE X e te) (hr:PJ X es t):PJ X (e::es) (tJCons te t):=by
 intro acc pins s σ H Q I q
 show wpAny _ _ _ _ _ _
 refine thn (h pins s σ H _ I q) fun v s1 ⟨x,H1,I1,rx,z,e,hz,q1⟩=>?_
 subst e
 obtain ⟨t,rfl⟩:=rx
 exact ⟨z,t,rfl,hz,hr (acc++z) pins s1 σ H1 Q I1 q1⟩
theorem pe_joined {e1 e2:Expr} {es:List Expr} {t:Str->TE} {pos:Pos} (h:PJ X (e1::e2::es) t):PE X (.JoinedStr (e1::e2::es) pos) (t Str.empty):=by
 intro pins s σ H Q I q
 exact wpAny_JoinedStr (h Str.empty pins s σ H Q I q)
end
abbrev cs (z:Str):List Nat:=z.cps.toList
def jn (sep:List Nat):List (List Nat)->List Nat
 | []=>[]
 | [x]=>x
 | x::y::r=>x++sep++jn sep (y::r)
theorem cs_app (x y:Str):cs (x++y)=cs x++cs y:=Array.toList_append
theorem cs_join (sep:Str):∀ l:List Str,cs (Str.join sep l)=jn (cs sep) (l.map cs)
 | []=>rfl
 | [x]=>rfl
 | x::y::r=>by
  show cs (x++sep++Str.join sep (y::r))=_
  rw [cs_app,cs_app,cs_join sep (y::r)]
  rfl
theorem first_at {c:Nat}:∀ {x y A B:List Nat},c ∉ x->c ∉ y->x++c::A=y++c::B->x=y/\A=B
 | [],[],A,B,_,_,h=>⟨rfl,by simpa using h⟩
 | [],b::y,A,B,_,hy,h=>by
  have:c=b:=by simpa using congrArg List.head? h
  exact absurd (this ▸ List.mem_cons_self) hy
 | a::x,[],A,B,hx,_,h=>by
  have:a=c:=by simpa using congrArg List.head? h
  exact absurd (this ▸ List.mem_cons_self) hx
 | a::x,b::y,A,B,hx,hy,h=>by
  rw [List.cons_append,List.cons_append,List.cons.injEq] at h
  obtain ⟨e1,e2⟩:=first_at (fun m=>hx (List.mem_cons_of_mem _ m)) (fun m=>hy (List.mem_cons_of_mem _ m)) h.2
  exact ⟨by rw [h.1,e1],e2⟩
theorem jn_uniq {c:Nat}:∀ {l m:List (List Nat)},l≠[]->m≠[]->(∀ x∈l,c ∉ x)->(∀ x∈m,c ∉ x)->jn [c] l=jn [c] m->l=m
 | [],_,h,_,_,_,_=>absurd rfl h
 | _::_,[],_,h,_,_,_=>absurd rfl h
 | [x],[y],_,_,_,_,h=>by rw [show x=y from h]
 | [x],y::z::r,_,_,hx,_,h=>by
  have:x=y++[c]++jn [c] (z::r):=h
  exact absurd (by rw [this];simp) (hx x List.mem_cons_self)
 | x::z::r,[y],_,_,_,hy,h=>by
  have:x++[c]++jn [c] (z::r)=y:=h
  exact absurd (by rw [<- this];simp) (hy y List.mem_cons_self)
 | x::z::r,y::w::q,_,_,hx,hy,h=>by
  have h':x++c::jn [c] (z::r)=y++c::jn [c] (w::q):=by
   have:x++[c]++jn [c] (z::r)=y++[c]++jn [c] (w::q):=h
   simpa using this
  obtain ⟨e1,e2⟩:=first_at (hx x List.mem_cons_self) (hy y List.mem_cons_self) h'
  rw [e1,jn_uniq (by simp) (by simp) (fun u hu=>hx u (List.mem_cons_of_mem _ hu)) (fun u hu=>hy u (List.mem_cons_of_mem _ hu)) e2]
theorem cs_inj:∀ {l m:List Str},l.map cs=m.map cs->l=m
 | [],[],_=>rfl
 | [],_::_,h=>by simp at h
 | _::_,[],h=>by simp at h
 | x::l,y::m,h=>by
  rw [List.map_cons,List.map_cons,List.cons.injEq] at h
  have e:x=y:=by cases x;cases y;simp only [Str.mk.injEq];exact Array.toList_inj.mp h.1
  rw [e,cs_inj h.2]
theorem split_ne (x y:Str):Txt.split x y≠[]:=by
 unfold Txt.split
 split
 ·simp
 ·split
  ·simp
  ·rw [StrLaws.partsBetween_eq]
   obtain ⟨p,r,e⟩:=StrLaws.partsFrom_ne x y.length 0 (Builtin.Str.occurrences x y 0 x.length (x.length+1))
   rw [e];simp
theorem split_join {c:Nat} {l:List Str} (h0:l≠[]) (hf:∀ x∈l,c ∉ cs x):Txt.split (Txt.join ⟨#[c]⟩ l) ⟨#[c]⟩=l:=by
 have ej:Txt.join ⟨#[c]⟩ l=Str.join ⟨#[c]⟩ l:=StrLaws.glued_eq_join _ _
 have h1:=StrLaws.join_split (Txt.join ⟨#[c]⟩ l) ⟨#[c]⟩
 have h2:=StrLaws.split_free (Txt.join ⟨#[c]⟩ l) c
 have h3:=split_ne (Txt.join ⟨#[c]⟩ l) ⟨#[c]⟩
 generalize Txt.split (Txt.join ⟨#[c]⟩ l) ⟨#[c]⟩=m at h1 h2 h3 ⊢
 rw [ej] at h1
 have:=congrArg cs h1
 rw [cs_join,cs_join] at this
 refine cs_inj (jn_uniq (c:=c) (by simpa using h3) (by simpa using h0) (fun x hx=>?_) (fun x hx=>?_) this)
 ·obtain ⟨p,hp,rfl⟩:=List.mem_map.mp hx
  exact h2 p hp
 ·obtain ⟨p,hp,rfl⟩:=List.mem_map.mp hx
  exact hf p hp
abbrev gt3:Str:=" > "
theorem cs_gt3:cs gt3=[32,62,32]:=by decide +kernel
theorem len_cs (z:Str):z.length=(cs z).length:=by simp [Str.length]
theorem split_two {a b:Str} (ha:62 ∉ cs a) (hb:62 ∉ cs b):Txt.split (a++gt3++b) gt3=[a,b]:=by
 have ez:cs (a++gt3++b)=cs a++[32,62,32]++cs b:=by rw [cs_app,cs_app,cs_gt3]
 have l3:gt3.length=3:=by decide +kernel
 have lz:(a++gt3++b).length=a.length+3+b.length:=by
  rw [len_cs,ez,len_cs a,len_cs b];simp only [List.length_append,List.length_cons,List.length_nil]
 have h1:=StrLaws.join_split (a++gt3++b) gt3
 have two:∃ p q r,Txt.split (a++gt3++b) gt3=p::q::r:=by
  obtain ⟨f,hG,hn⟩:=StrLaws.occ_tight (a++gt3++b) gt3 (by rw [l3];decide)
  have at_:StrLaws.At (a++gt3++b) gt3 (a++gt3++b).length a.length:=by
   refine ⟨by rw [l3,lz];omega,?_⟩
   rw [StrLaws.subAt_eq,show (a++gt3++b).cps.toList=_ from ez,l3,show gt3.cps.toList=_ from cs_gt3,len_cs a]
   simp
  unfold Txt.split
  rw [if_neg ?_]
  ·cases e:Builtin.Str.occurrences (a++gt3++b) gt3 0 (a++gt3++b).length ((a++gt3++b).length+1) with
   | nil =>
    rw [e] at hG
    have:f=0:=hG
    exact absurd at_ (hn a.length (by omega))
   | cons c r =>
    rw [if_neg (by simp),StrLaws.partsBetween_eq]
    obtain ⟨q,r',e2⟩:=StrLaws.partsFrom_ne (a++gt3++b) gt3.length (c+gt3.length) r
    exact ⟨_,q,r',by show _::StrLaws.partsFrom _ _ _ r=_;rw [e2]⟩
  ·rw [Bool.or_eq_true,decide_eq_true_eq,decide_eq_true_eq]
   rintro (h | h)
   ·rw [l3,lz] at h;omega
   ·have k3:Builtin.Str.strKind gt3=1:=by decide +kernel
    rw [k3] at h
    unfold Builtin.Str.strKind at h
    split at h
    ·omega
    ·split at h<;>omega
 obtain ⟨p,q,r,e⟩:=two
 rw [e] at h1 ⊢
 have h2:=congrArg cs h1
 rw [cs_join,ez,cs_gt3] at h2
 have h3:(cs p++[32])++62::(32::jn [32,62,32] ((q::r).map cs))=(cs a++[32])++62::(32::cs b):=by
  have:cs p++[32,62,32]++jn [32,62,32] ((q::r).map cs)=cs a++[32,62,32]++cs b:=h2
  simpa using this
 have n1:62 ∉ cs a++[32]:=by simpa using ha
 have n2:62 ∉ 32::cs b:=by simpa using hb
 have cnt:=congrArg (List.count 62) h3
 rw [List.count_append (l₁:=cs p++[32]),List.count_append (l₁:=cs a++[32]),List.count_cons_self,List.count_cons_self,List.count_eq_zero_of_not_mem n1,List.count_eq_zero_of_not_mem n2] at cnt
 have m1:62 ∉ cs p++[32]:=List.count_eq_zero.mp (by omega)
 have m2:62 ∉ 32::jn [32,62,32] ((q::r).map cs):=List.count_eq_zero.mp (by omega)
 obtain ⟨e1,e2⟩:=first_at m1 n1 h3
 have ep:cs p=cs a:=List.append_cancel_right e1
 have eq:jn [32,62,32] ((q::r).map cs)=cs b:=by simpa using e2
 have er:r=[]:=by
  cases r with
  | nil=>rfl
  | cons u r =>
   exfalso
   apply m2
   show 62∈32::(cs q++[32,62,32]++jn [32,62,32] ((u::r).map cs))
   simp
 subst er
 exact cs_inj (by simp only [List.map_cons,List.map_nil];rw [ep,show cs q=cs b from eq])
theorem ps_tryN {X:Cx} {body:List Stmt} {h₀:ExceptHandler} {hs:List ExceptHandler} {pos:Pos} {t:TS} (hb:PSs X.nox body t):PS X (.Try body (h₀::hs) [] [] pos) t:=fun pins s σ H D I hw=>by
 refine wpAny_Try_except (wpAny_mono (hb pins s σ H D (I.wish _) hw) (fun f s1 q=>?_) fun _ _ z=>z.elim)
 cases f<;>first | exact wpAny_execs_nil q.unwish | exact q.unwish
end L2
namespace K90
open PySem PySem.Spec PyProof.Rows L2
abbrev sWText:Stmt:=top 28 -- web_text
abbrev sWRows:Stmt:=top 29 -- web_of_rows
abbrev sRead:Stmt:=top 30 -- read_web
abbrev rTupOf (K:PySem.W.Frag):List V->Hp->VK->Prop:=fun xs H Q=>∃ p ys,xs=[V.ref p]/\((SqL K H p ys/\∀ l,H l=none->Q (V.ref l) (upd H l (.tup ys)))\/(SqT K H p ys/\Q (V.ref p) H))
theorem lo_iff {c:Nat}:lo c=true ↔ 97<=c:=by
 unfold lo
 rw [Bool.not_eq_true',decide_eq_false_iff_not]
 show ¬ [c] < ("a" : Str).cps.toList ↔ _
 have e:("a" : Str).cps.toList=[97]:=by decide +kernel
 rw [e]
 constructor
 ·intro h
  rcases Nat.lt_or_ge c 97 with q | q
  ·exact absurd (List.Lex.rel q) h
  ·exact q
 ·intro h q
  cases q with
  | rel z=>omega
  | cons z=>cases z
theorem hi_iff {c:Nat}:hi c=true ↔ c<=122:=by
 unfold hi
 rw [Bool.not_eq_true',decide_eq_false_iff_not]
 show ¬ ("z" : Str).cps.toList < [c] ↔ _
 have e:("z" : Str).cps.toList=[122]:=by decide +kernel
 rw [e]
 constructor
 ·intro h
  rcases Nat.lt_or_ge 122 c with q | q
  ·exact absurd (List.Lex.rel q) h
  ·exact q
 ·intro h q
  cases q with
  | rel z=>omega
  | cons z=>cases z
theorem nm_all {z:Str} (h:nm z=true) {c:Nat} (hc:c∈z.cps.toList):97<=c/\c<=122:=by
 unfold nm at h
 simp only [Bool.and_eq_true,List.all_map,List.all_eq_true] at h
 have:=h.2 c hc
 simp only [Function.comp,id,Bool.and_eq_true] at this
 exact ⟨lo_iff.mp this.1,hi_iff.mp this.2⟩
theorem nm_pos {z:Str} (h:nm z=true):1<=z.length:=by
 unfold nm at h
 simp only [Bool.and_eq_true,decide_eq_true_eq] at h
 exact h.1.1
abbrev bl1:Str:=" "
abbrev nl1:Str:="\n"
abbrev plc:Str:="places"
theorem bl_eq:bl1=⟨#[32]⟩:=by decide +kernel
theorem nl_eq:nl1=⟨#[10]⟩:=by decide +kernel
theorem cs_plc:cs plc=[112,108,97,99,101,115]:=by decide +kernel
def rowT (p:Str × Str):Str:=p.1++gt3++p.2
def headT (ms:List Str):Str:=Txt.join bl1 (plc::ms)
def wtext (ns:List Str) (ps:List (Str × Str)):Str:=Txt.join nl1 (headT (srt ns)::ps.map rowT)++nl1
theorem sum_le {b:Nat}:∀ {l:List Str},(∀ x∈l,x.length<=b)->(l.map (·.length)).sum<=l.length * b
 | [],_=>by simp
 | x::l,h=>by
  have h1:=h x List.mem_cons_self
  have h2:=sum_le (l:=l) fun y hy=>h y (List.mem_cons_of_mem _ hy)
  simp only [List.map_cons,List.sum_cons,List.length_cons,Nat.succ_mul]
  omega
theorem join_le (sep:Str) (l:List Str):(Txt.join sep l).length<=(l.map (·.length)).sum+l.length * sep.length:=by
 rw [show Txt.join sep l=Str.join sep l from StrLaws.glued_eq_join _ _]
 exact StrLaws.join_length_le sep l
theorem app_len (x y:Str):(x++y).length=x.length+y.length:=by rw [len_cs,cs_app,List.length_append,len_cs x,len_cs y]
theorem empty_app (x:Str):Str.empty++x=x:=by
 refine List.head_eq_of_cons_eq (cs_inj (l:=[_]) (m:=[x]) ?_)
 simp only [List.map_cons,List.map_nil]
 rw [cs_app]
 rfl
theorem nm_free {z:Str} (h:nm z=true) {c:Nat} (hc:c < 97):c ∉ cs z:=fun m=>by have:=(nm_all h m).1;omega
theorem rowT_len {p:Str × Str} (h1:nm p.1=true) (h2:nm p.2=true):(rowT p).length<=19:=by
 unfold rowT
 rw [app_len,app_len,show gt3.length=3 from by decide +kernel]
 have:=nm_len h1
 have:=nm_len h2
 omega
theorem head_sum {ms:List Str} (h:∀ z∈ms,nm z=true) (few:ms.length<=12):((plc::ms).map (·.length)).sum+(plc::ms).length * bl1.length<=130:=by
 have h1:=sum_le (b:=8) (l:=ms) fun x hx=>nm_len (h x hx)
 have e1:plc.length=6:=by decide +kernel
 have e2:bl1.length=1:=by decide +kernel
 simp only [List.map_cons,List.sum_cons,List.length_cons]
 rw [e1,e2]
 omega
theorem head_len {ms:List Str} (h:∀ z∈ms,nm z=true) (few:ms.length<=12):(headT ms).length<=130:=Nat.le_trans (join_le _ _) (head_sum h few)
theorem rows_sum {ms:List Str} {ps:List (Str × Str)} (h:∀ z∈ms,nm z=true) (few:ms.length<=12) (hp:∀ p∈ps,nm p.1=true/\nm p.2=true) (fp:ps.length<=30):((headT ms::ps.map rowT).map (·.length)).sum+(headT ms::ps.map rowT).length * nl1.length<=1000:=by
 have h1:=sum_le (b:=19) (l:=ps.map rowT) fun x hx=>by
  obtain ⟨p,hp',rfl⟩:=List.mem_map.mp hx
  exact rowT_len (hp p hp').1 (hp p hp').2
 have h2:=head_len h few
 have e2:nl1.length=1:=by decide +kernel
 simp only [List.map_cons,List.sum_cons,List.length_cons]
 rw [e2]
 rw [List.length_map] at h1 ⊢
 omega
theorem head_free {ms:List Str} (h:∀ z∈ms,nm z=true):10 ∉ cs (headT ms):=by
 unfold headT
 rw [show Txt.join bl1 (plc::ms)=Str.join bl1 (plc::ms) from StrLaws.glued_eq_join _ _,cs_join]
 have:∀ l:List (List Nat),(∀ x∈l,10 ∉ x)->10 ∉ jn (cs bl1) l:=by
  intro l
  have eb:cs bl1=[32]:=by decide +kernel
  rw [eb]
  induction l with
  | nil=>intro _ m;exact nomatch m
  | cons x l ih =>
   intro hl
   cases l with
   | nil=>exact hl x List.mem_cons_self
   | cons y r =>
    show 10 ∉ x++[32]++jn [32] (y::r)
    have a1:=hl x List.mem_cons_self
    have a2:=ih fun z hz=>hl z (List.mem_cons_of_mem _ hz)
    simp only [List.mem_append,List.mem_singleton,not_or]
    exact ⟨⟨a1,by decide⟩,a2⟩
 refine this _ fun x hx=>?_
 rcases List.mem_cons.mp hx with e | e
 ·rw [e,cs_plc];decide
 ·obtain ⟨z,hz,rfl⟩:=List.mem_map.mp e
  exact nm_free (h z hz) (by decide)
theorem rowT_free {p:Str × Str} (h1:nm p.1=true) (h2:nm p.2=true):10 ∉ cs (rowT p):=by
 unfold rowT
 rw [cs_app,cs_app,cs_gt3]
 simp only [List.mem_append,not_or]
 exact ⟨⟨nm_free h1 (by decide),by decide⟩,nm_free h2 (by decide)⟩
theorem head_split {ms:List Str} (h:∀ z∈ms,nm z=true):Txt.split (headT ms) bl1=plc::ms:=by
 unfold headT
 rw [bl_eq]
 refine split_join (by simp) fun x hx=>?_
 rcases List.mem_cons.mp hx with e | e
 ·rw [e,cs_plc];decide
 ·exact nm_free (h x e) (by decide)
theorem join_nl {l:List Str} (h:l≠[]):Txt.join nl1 l++nl1=Txt.join nl1 (l++[Str.empty]):=by
 rw [show Txt.join nl1 l=Str.join nl1 l from StrLaws.glued_eq_join _ _,show Txt.join nl1 (l++[Str.empty])=Str.join nl1 (l++[Str.empty]) from StrLaws.glued_eq_join _ _]
 refine List.head_eq_of_cons_eq (cs_inj (l:=[_]) (m:=[_]) ?_)
 simp only [List.map_cons,List.map_nil]
 rw [cs_app,cs_join,cs_join,List.map_append]
 congr 1
 have:∀ l:List (List Nat),l≠[]->jn (cs nl1) l++cs nl1=jn (cs nl1) (l++[[]]):=by
  intro l
  induction l with
  | nil=>intro h;exact absurd rfl h
  | cons x l ih =>
   intro _
   cases l with
   | nil=>show x++cs nl1=x++cs nl1++[];simp
   | cons y r =>
    show x++cs nl1++jn (cs nl1) (y::r)++cs nl1=x++cs nl1++jn (cs nl1) (y::r++[[]])
    rw [<- ih (by simp),List.append_assoc]
 exact this _ (by simpa using h)
theorem text_split {ns:List Str} {ps:List (Str × Str)} (h:∀ z∈ns,nm z=true) (hp:∀ p∈ps,nm p.1=true/\nm p.2=true):Txt.split (wtext ns ps) nl1=headT (srt ns)::ps.map rowT++[Str.empty]:=by
 unfold wtext
 rw [join_nl (by simp),nl_eq]
 refine split_join (by simp) fun x hx=>?_
 rcases List.mem_append.mp hx with e | e
 ·rcases List.mem_cons.mp e with q | q
  ·rw [q];exact head_free fun z hz=>h z (srt_mem.mp hz)
  ·obtain ⟨p,hp',rfl⟩:=List.mem_map.mp q
   exact rowT_free (hp p hp').1 (hp p hp').2
 ·rw [List.mem_singleton.mp e];exact fun m=>nomatch m
theorem text_len {ns:List Str} {ps:List (Str × Str)} (h:∀ z∈ns,nm z=true) (few:ns.length<=12) (hp:∀ p∈ps,nm p.1=true/\nm p.2=true) (fp:ps.length<=30):(wtext ns ps).length<=1001:=by
 unfold wtext
 rw [app_len,show nl1.length=1 from by decide +kernel]
 have:=Nat.le_trans (join_le nl1 _) (rows_sum (ms:=srt ns) (fun z hz=>h z (srt_mem.mp hz)) (by rw [srt_len];exact few) hp fp)
 omega
theorem GoodW.nmp {ns:List Str} {ps:List (Str × Str)} (g:GoodW ns ps):∀ p∈ps,nm p.1=true/\nm p.2=true:=fun p hp=>⟨g.good.nms _ (g.ins p hp).1,g.good.nms _ (g.ins p hp).2⟩
theorem cut1 (x:V) (l:List V):cutV (x::l) (some 1) none=l:=by
 unfold cutV HT.sIx
 simp
theorem cut2 (x e:V) (l:List V):cutV (x::l++[e]) (some 1) (some (-1))=l:=by
 unfold cutV HT.sIx
 simp
 rw [show ((-1:Int)+((l.length:Int)+1+1)).toNat - 1=l.length from by omega]
 simp
end K90
namespace L2
open PySem PySem.Spec PyProof.Rows
section
variable {X:Cx}
end
def eqVs:List V->List V->Bool
 | [],[]=>true
 | x::xs,y::ys=>eqV x y && eqVs xs ys
 | _,_=>false
theorem eqVs_len:∀ {xs ys:List V},xs.length≠ys.length->eqVs xs ys=false
 | [],[],h=>absurd rfl h
 | [],_::_,_=>rfl
 | _::_,[],_=>rfl
 | x::xs,y::ys,h=>by
  unfold eqVs
  rw [eqVs_len (by simpa using h),Bool.and_false]
theorem eqVs_all:∀ {xs ys:List V},xs.length=ys.length->eqVs xs ys=(List.range xs.length).all fun j=>eqV (xs.getD j .non) (ys.getD j .non)
 | [],[],_=>rfl
 | [],_::_,h=>by simp at h
 | _::_,[],h=>by simp at h
 | x::xs,y::ys,h=>by
  unfold eqVs
  rw [eqVs_all (by simpa using h),List.length_cons,List.range_succ_eq_map,List.all_cons,List.all_map]
  rfl
section
variable {X:Cx} {pins:List (Addr × Obj)} {σ:St} {H:Hp} {s:Shared}
theorem eq_items {xs ys:List V} {A:Around} (fx:xs.all flatV=true) (fy:ys.all flatV=true) {is js:List Value} (ri:Vals xs is) (rj:Vals ys js) :
  ∀ j (h1:j < is.toArray.size) (h2:j < js.toArray.size),SeqAt.EqAt A s is.toArray[j] js.toArray[j] (eqV (xs.getD j .non) (ys.getD j .non)):=fun j h1 h2=>by
 have b1:j < xs.length:=by rw [ri.length];simpa using h1
 have b2:j < ys.length:=by rw [rj.length];simpa using h2
 obtain ⟨u',e1,r1⟩:=ri.get (List.getElem?_eq_getElem b1)
 obtain ⟨v',e2,r2⟩:=rj.get (List.getElem?_eq_getElem b2)
 have c1:is.toArray[j]=u':=by
  rw [List.getElem_toArray]
  have:=List.getElem?_eq_getElem (l:=is) (i:=j) (by simpa using h1)
  rw [this] at e1;exact Option.some.inj e1
 have c2:js.toArray[j]=v':=by
  rw [List.getElem_toArray]
  have:=List.getElem?_eq_getElem (l:=js) (i:=j) (by simpa using h2)
  rw [this] at e2;exact Option.some.inj e2
 have d1:xs.getD j .non=xs[j]:=by simp [List.getD,List.getElem?_eq_getElem b1]
 have d2:ys.getD j .non=ys[j]:=by simp [List.getD,List.getElem?_eq_getElem b2]
 rw [c1,c2,d1,d2]
 exact eqAt_V r1 r2 (List.all_eq_true.mp fx _ (List.getElem_mem b1)) (List.all_eq_true.mp fy _ (List.getElem_mem b2))
end
section
variable {X:Cx}
def rEqF (K:PySem.W.Frag) (neg:Bool):R2:=fun x y H Q=>∃ p q xs ys,x=.ref p/\y=.ref q/\((SqL K H p xs/\SqL K H q ys)\/(SqT K H p xs/\SqT K H q ys))/\xs.all flatV=true/\ys.all flatV=true/\Q (.bl (if neg then !eqVs xs ys else eqVs xs ys)) H
theorem min_eq' {a b:Nat} (h:a=b):min a b=a:=by omega
theorem op_eq_flat (hu:X.A.units+1 < cLine):OpR X (compareOp .Eq) (rEqF X.K false):=by
 intro pins s σ H x y v u Q I rx ry h
 obtain ⟨p,q,xs,ys,rfl,rfl,h,fx,fy,fin⟩:=h
 cases rx
 cases ry
 rcases h with ⟨hp,hq⟩ | ⟨hp,hq⟩
 ·obtain ⟨is,ri,pi,_⟩:=I.list hp
  obtain ⟨js,rj,pj,_⟩:=I.list hq
  by_cases el:xs.length=ys.length
  ·refine SeqAt.eq_listAt pi.isList pj.isList (by simp only [List.size_toArray];rw [<- ri.length,<- rj.length];exact el) (by omega) (eq_items fx fy ri rj) ?_
   refine fin_bl I fin ?_
   rw [List.size_toArray,<- ri.length]
   exact eqVs_all el
  ·refine SeqAt.eq_list_lengthsAt pi.isList pj.isList ?_ (by omega) (fin_bl I fin ?_)
   ·simp only [List.size_toArray,bne_iff_ne]
    rw [<- ri.length,<- rj.length]
    exact el
   ·exact eqVs_len el
 ·obtain ⟨is,ri,pi,_⟩:=I.tuple hp
  obtain ⟨js,rj,pj,_⟩:=I.tuple hq
  refine SeqAt.eq_tupleAt pi pj (by omega) (eq_items fx fy ri rj) ?_
  refine fin_bl I fin ?_
  simp only [List.size_toArray]
  rw [<- ri.length,<- rj.length]
  by_cases el:xs.length=ys.length
  ·rw [min_eq' el,<- eqVs_all el]
   simp [el]
  ·have:(xs.length == ys.length)=false:=by simpa using el
   rw [this,Bool.and_false]
   exact eqVs_len el
def rEqLen (K:PySem.W.Frag):R2:=fun x y H Q=>∃ p q xs ys,x=.ref p/\y=.ref q/\SqL K H p xs/\SqL K H q ys/\xs.length≠ys.length/\Q (.bl false) H
theorem op_eq_len (hu:X.A.units+1 < cLine):OpR X (compareOp .Eq) (rEqLen X.K):=by
 intro pins s σ H x y v u Q I rx ry h
 obtain ⟨p,q,xs,ys,rfl,rfl,hp,hq,ne,fin⟩:=h
 cases rx
 cases ry
 obtain ⟨is,ri,pi,_⟩:=I.list hp
 obtain ⟨js,rj,pj,_⟩:=I.list hq
 refine SeqAt.eq_list_lengthsAt pi.isList pj.isList ?_ (by omega) (fin_bl I fin rfl)
 simp only [List.size_toArray,bne_iff_ne]
 rw [<- ri.length,<- rj.length]
 exact ne
def rEqNil (K:PySem.W.Frag) (neg:Bool):R2:=fun x y H Q=>∃ p q xs,x=.ref p/\y=.ref q/\SqL K H p xs/\SqL K H q []/\Q (.bl (if neg then !decide (xs=[]) else decide (xs=[]))) H
theorem op_eq_nil (hu:X.A.units+1 < cLine):OpR X (compareOp .Eq) (rEqNil X.K false):=by
 intro pins s σ H x y v u Q I rx ry h
 obtain ⟨p,q,xs,rfl,rfl,hp,hq,fin⟩:=h
 cases xs with
 | nil=>exact op_eq_flat hu pins s σ H _ _ v u Q I rx ry ⟨p,q,[],[],rfl,rfl,.inl ⟨hp,hq⟩,rfl,rfl,fin⟩
 | cons z zs=>exact op_eq_len hu pins s σ H _ _ v u Q I rx ry ⟨p,q,_,_,rfl,rfl,hp,hq,by simp,fin⟩
open Classical in
theorem pe_bmK {K:PySem.W.Frag} {o e:Expr} {es:List Expr} {to:TE} {t:TA} {name:Str} {apos cpos:Pos} {T id:String} {r:V->List V->Hp->VK->Prop} (hK:X.K=K) (pa:PlainAttrs T) (slot:Slot T name id) (hty:typeOf (.builtin id)=pure (.type "method_descriptor")) (hm:MtR X id r) (ho:PE X o to) (ha:PA X (e::es) t)
  (hbase:attributeBase o name X.env (eval o X.env)=eval o X.env:=by rfl)
  (hfew:((backTo cpos (starEach (e::es) X.env)).all (fun x=>!x.1) && (backToKw cpos (keywordEach [] X.env)).all (fun x=>x.1.isSome)
   && decide ((e::es).length+([]:List Keyword).length+(if ([]:List Keyword).isEmpty then 0 else 1) < 30))=true:=by rfl)
  (hline:(apos.endLine == cpos.line)=true:=by rfl) (hs:starEach (e::es) X.env=(false,eval e X.env)::starEach es X.env:=by rfl) (hplain:(backTo cpos (starEach es X.env)).any (·.1)=false:=by rfl) :
  PE X (.Call (.Attribute o name apos) (e::es) [] cpos) (tBM K T r to t):=by
 subst hK
 exact pe_bm pa slot hty hm ho ha hbase hfew hline hs hplain
end
end L2
namespace K90
open PySem PySem.Spec PyProof.Rows L2
section
variable {P:Program} {w:World} {K:PySem.W.Frag} {mg:Str->Option Value} {base:Heap}
variable {C fI fP fS fWT fWR:Addr} {fdI fdP fdS fdWT fdWR:FuncData}
def spWT (C:Addr):Sp:=fun vs H Q _=>∃ (x:Addr) (ns:List Str) (ps:List (Str × Str)),vs=[.ref x]/\WebObj C H x ns ps/\GoodW ns ps/\∀ H',Same H H'->Q (.str (wtext ns ps)) H'
abbrev nWT:List Str:=["web","rows","a","b"]
theorem scWT:FnScope nWT ["web"] (defScope sWText):=⟨rfl,rfl,rfl,by decide +kernel,rfl,by decide +kernel,by decide +kernel⟩
theorem ok_wtext {f:Addr} {fd:FuncData} (F:Fun K "web_text" "web_text" sWText f fd) (M:Mt K mg C fP fS fdP fdS) (T:Glb mg):FnOk P w K mg base CX0 2 f fd ["web"] (spWT C):=by
 have GP:FnOk P w K mg base CX0 1 fP fdP ["self"] (spPl C):=ok_places M.pF M.wc T
 have GT:FnOk P w K mg base CX0 1 fS fdS ["self"] (spTs C):=ok_ties M.sF M.wc T
 refine F.ok scWT (fun vs H Q E h=>?_) (fun cdv A outer s H vs Q E hr h=>?_)
 ·obtain ⟨x,ns,ps,rfl,_⟩:=h
  rfl
 ·obtain ⟨x,ns,ps,rfl,hW,g,k⟩:=h
  refine ⟨_,pss_cons (ps_set (i:=1) scWT.nd rfl (Or.inl rfl) (pe_lst (pa_cons (pe_bm PySem.F.plainAttrs_str PySem.F.slot_str_join PySem.F.type_str_join mt_join pe_str (pa_cons (pe_op op_cat (pe_lst (pa_cons pe_str pa_nil)) (pe_meth0 (pv 0) M.wc.cl M.pM GP hr M.pB .nil pass0)) pa_nil)) pa_nil)))
   (pss_cons (ps_for PassesOwn.never rfl (pi_list (pe_meth0 (pv 0) M.wc.cl M.sM GT hr M.sB .nil pass0)) (pg_tup rfl (pgs_cons (pg_name (i:=2) scWT.nd rfl (Or.inl rfl)) (pgs_cons (pg_name (i:=3) scWT.nd rfl (Or.inl rfl)) pgs_nil)))
    (pss_one (ps_expr (pe_bm PySem.F.plainAttrs_list PySem.F.slot_list_append PySem.F.type_list_append mt_append (pv 1) (pa_cons (pe_joined (pj_cons (pe_fmt (pv 2)) (pj_cons pe_str (pj_cons (pe_fmt (pv 3)) pj_nil)))) pa_nil)))))
   (pss_one (ps_ret (pe_op op_add_str (pe_bm PySem.F.plainAttrs_str PySem.F.slot_str_join PySem.F.type_str_join mt_join pe_str (pa_cons (pv 1) pa_nil)) pe_str)))),?_⟩
  have gS:∀ z∈srt ns,nm z=true:=fun z hz=>g.good.nms z (srt_mem.mp hz)
  have fS:(srt ns).length<=12:=by rw [srt_len];exact g.good.few
  refine ⟨rfl,(by decide),fun l1 n1=>?_⟩
  have s1:=same_upd (o:=.lst [.str plc]) n1
  have W1:=hW.same s1
  obtain ⟨d1,f1,q1,r1⟩:=W1.meth "places"
  refine ⟨_,rfl,x,d1,f1,rfl,q1,r1,x,ns,ps,rfl,W1,fun l2 n2=>?_⟩
  have s2:=same_upd (o:=.lst ((srt ns).map V.str)) n2
  refine ⟨l1,l2,_,_,rfl,rfl,s2 _ _ upd_same,upd_same,by rw [List.length_map];exact Nat.le_trans (show 1+(srt ns).length<=13 by omega) (by decide),fun l3 n3=>?_⟩
  have s3:=same_upd (o:=.lst ([.str plc]++(srt ns).map V.str)) n3
  refine ⟨bl1,l3,plc::srt ns,rfl,rfl,SqL.of upd_same,Nat.le_trans (head_sum gS fS) (by decide),?_⟩
  refine ⟨(show 1<=sizeLine by decide),fun l4 n4=>?_⟩
  have s4:=s1.trans (s2.trans (s3.trans (same_upd (o:=.lst [.str (headT (srt ns))]) n4)))
  have h4:=upd_same (H:=upd (upd (upd H l1 (.lst [.str plc])) l2 (.lst ((srt ns).map V.str))) l3 (.lst ([.str plc]++(srt ns).map V.str))) (a:=l4) (o:=.lst [.str (headT (srt ns))])
  have n4H:H l4=none:=(s1.trans (s2.trans s3)).free n4
  change tSeq _ _ _ _ (upd (upd (upd (upd H l1 (.lst [.str plc])) l2 (.lst ((srt ns).map V.str))) l3 (.lst ([.str plc]++(srt ns).map V.str))) l4 (.lst [.str (headT (srt ns))]))
  generalize upd (upd (upd (upd H l1 (.lst [.str plc])) l2 (.lst ((srt ns).map V.str))) l3 (.lst ([.str plc]++(srt ns).map V.str))) l4 (.lst [.str (headT (srt ns))])=H4 at s4 h4 ⊢
  clear s1 s2 s3 W1 q1 r1
  have W4:=hW.same s4
  obtain ⟨d5,f5,q5,r5⟩:=W4.meth "ties"
  refine ⟨_,rfl,x,d5,f5,rfl,q5,r5,x,ns,ps,rfl,W4,fun l5 us n5 hU=>?_⟩
  have s5:=same_upd (o:=.lst (us.map V.ref)) n5
  have h5:=upd_same (H:=H4) (a:=l5) (o:=.lst (us.map V.ref))
  have h45:=s5 _ _ h4
  have hU5:=hU.same s5
  have n5H:H l5=none:=s4.free n5
  have n54:l5≠l4:=Ne.symm (ne_of_none h4 n5)
  have s05:=s4.trans s5
  generalize upd H4 l5 (.lst (us.map V.ref))=H5 at s5 s05 h5 h45 hU5 ⊢
  have lu:(us.map V.ref).length=ps.length:=by rw [List.length_map,hU.len]
  have npm:=g.nmp
  refine ⟨l5,rfl,⟨_,SqL.of h5⟩,for_list (K:=K) (xs:=us.map V.ref) (fun i σ H6=>∃ v2 v3,σ=[some (.ref x),some (.ref l4),v2,v3]/\Same H H6/\H6 l5=some (.lst (us.map V.ref))/\TiesAt H6 us ps/\H6 l4=some (.lst ((headT (srt ns)::(ps.take i).map rowT).map V.str))) ⟨_,_,rfl,s05,h5,hU5,h45⟩ ?_ ?_ ?_⟩
  ·rintro i σ H6 _ ⟨v2,v3,rfl,_,h,_⟩
   exact SqL.of h
  ·rintro i v σ H6 hv ⟨v2,v3,rfl,s6,h6,hU6,h46⟩
   rw [List.getElem?_map] at hv
   obtain ⟨t,et,rfl⟩:=Option.map_eq_some_iff.mp hv
   obtain ⟨p,ep,ht⟩:=hU6.get et
   have hp:=List.mem_of_getElem? ep
   have l1:=nm_len (npm p hp).1
   have l2:=nm_len (npm p hp).2
   have hi:i < ps.length:=(List.getElem?_eq_some_iff.mp ep).1
   have big:100<=sizeLine:=by decide
   have e3:gt3.length=3:=by decide +kernel
   refine ⟨t,_,rfl,SqT.of ht,rfl,_,_,rfl,_,_,rfl,rfl,?_⟩
   refine ⟨_,rfl,.inl ⟨rfl,_,SqL.of h46⟩,_,rfl,p.1,rfl,by omega,p.1,rfl,by rw [empty_app];omega,gt3,rfl,by rw [app_len,empty_app];omega,_,rfl,p.2,rfl,by omega,p.2,rfl,by rw [app_len,app_len,empty_app];omega,by rw [app_len,app_len,empty_app];omega,l4,_,_,rfl,rfl,h46,?_,?_⟩
   ·rw [List.length_map,List.length_cons,List.length_map,List.length_take]
    exact small1000 (by have:=g.few;omega)
   ·rw [empty_app]
    have b6:=But.upd H6 l4 (.lst ((headT (srt ns)::(ps.take i).map rowT).map V.str++[.str (p.1++gt3++p.2)]))
    refine ⟨_,_,rfl,Same.upd_new s6 n4H,b6 _ _ h6 n54,hU6.but b6 (fun xs q=>by rw [h46] at q;cases q),?_⟩
    rw [upd_same,List.take_add_one,ep]
    simp [rowT]
  rintro σ H6 ⟨v2,v3,rfl,s6,h6,hU6,h46⟩
  rw [lu,List.take_of_length_le (Nat.le_refl _)] at h46
  have rs:=rows_sum (ms:=srt ns) gS fS npm g.few
  refine ⟨rfl,_,rfl,nl1,l4,_,rfl,rfl,SqL.of h46,Nat.le_trans rs (by decide),_,_,rfl,rfl,?_,k _ s6⟩
  have:=join_le nl1 (headT (srt ns)::ps.map rowT)
  have e1:nl1.length=1:=by decide +kernel
  have big:2000<=sizeLine:=by decide
  rw [show (Str.ofString "\n").length=1 from by decide +kernel]
  omega
def spWR (C:Addr):Sp:=fun vs H Q _=>∃ (o:Addr) (ms:List Str) (ps:List (Str × Str)),vs=[.str (headT ms),.ref o]/\H o=some (.lst ((ps.map rowT).map V.str))/\GoodW ms ps/\∀ y H',WebObj C H' y ms ps->Same H H'->Q (.ref y) H'
abbrev nWR:List Str:=["first","others","places","ties"]
theorem scWR:FnScope nWR ["first","others"] (defScope sWRows):=⟨rfl,rfl,rfl,by decide +kernel,rfl,by decide +kernel,by decide +kernel⟩
theorem ok_wrows {f:Addr} {fd:FuncData} (F:Fun K "web_of_rows" "web_of_rows" sWRows f fd) (MkW:Mk K C fI) (mgC:mg "Web" = some (.ref C)) (bI:Binds K fdI ["self","places","ties"] []) (GI:FnOk P w K mg base CX0 4 fI fdI ["self","places","ties"] (spInit C)) (T:Glb mg):FnOk P w K mg base CX0 6 f fd ["first","others"] (spWR C):=by
 refine F.ok scWR (fun vs H Q E h=>?_) (fun cdv A outer s H vs Q E hr h=>?_)
 ·obtain ⟨o,ms,ps,rfl,_⟩:=h
  rfl
 ·obtain ⟨o,ms,ps,rfl,ho,g,k⟩:=h
  refine ⟨_,pss_cons (ps_set (i:=2) scWR.nd rfl (Or.inl rfl) (pe_slice sl_list (pe_bm PySem.F.plainAttrs_str PySem.F.slot_str_split PySem.F.type_str_split mt_split (pv 0) (pa_cons pe_str pa_nil)) (po_some pe_int) po_none))
   (pss_cons (ps_setL (i:=3) ["row"] [] scWR.nd rfl rfl rfl (compSc (osc:=(defScope sWRows).names) (N:=nWR) rfl rfl (by decide +kernel)) (gk_name (by decide)) (pi_list (pv 1))
    (fun _ _ _=>pg_name (i:=0) (show (["row"]:List Str).Nodup by decide +kernel) rfl (Or.inl rfl)) (fun _ _ _=>pifs_nil)
    (fun _ _ _=>pe_callTy (r:=rTupOf K) call_tuple_of (by rfl) T.tuple PyProof.Rows.boot_tuple (pa_cons (pe_bmK (K:=K) rfl PySem.F.plainAttrs_str PySem.F.slot_str_split PySem.F.type_str_split mt_split (pv 0) (pa_cons pe_str pa_nil)) pa_nil)))
   (pss_one (ps_tryN (pss_one (ps_ret (pe_make MkW GI hr rfl mgC bI .nil pass0 (pa_cons (pv 2) (pa_cons (pv 3) pa_nil)))))))),?_⟩
  have hs:=head_split (ms:=ms) g.good.nms
  have big:2000<=sizeLine:=by decide
  have hl:=head_len g.good.nms g.good.few
  refine ⟨_,rfl,rfl,headT ms,bl1,rfl,rfl,rfl,by omega,by rw [hs,List.length_cons];have:=g.good.few;omega,fun l1 n1=>?_⟩
  rw [hs]
  refine ⟨1,rfl,l1,_,rfl,SqL.of upd_same,fun l2 n2=>?_⟩
  rw [List.map_cons,cut1]
  have s2:Same H (upd (upd H l1 (.lst (.str plc::ms.map V.str))) l2 (.lst (ms.map V.str))):=(same_upd n1).trans (same_upd n2)
  have h2:=upd_same (H:=upd H l1 (.lst (.str plc::ms.map V.str))) (a:=l2) (o:=.lst (ms.map V.str))
  change tSeq _ _ _ _ (upd (upd H l1 (.lst (.str plc::ms.map V.str))) l2 (.lst (ms.map V.str)))
  generalize upd (upd H l1 (.lst (.str plc::ms.map V.str))) l2 (.lst (ms.map V.str))=H2 at s2 h2 ⊢
  have ho2:=s2 _ _ ho
  refine ⟨_,rfl,o,rfl,⟨_,SqL.of ho2⟩,lc_list (K:=K) (xs:=(ps.map rowT).map V.str) (fun i ys H3=>Same H2 H3/\∃ us,ys=us.map V.ref/\TiesAt H3 us (ps.take i)) ⟨Same.refl _,[],rfl,.nil⟩ ?_ ?_ ?_ ?_⟩
  ·rintro i ys H3 _ ⟨_,us,rfl,hU⟩
   rw [List.length_map,hU.len,List.length_take]
   have:=g.few
   omega
  ·rintro i ys H3 _ ⟨s3,_⟩
   exact SqL.of (s3 _ _ ho2)
  ·rintro i v ys H3 R hv ⟨s3,us,rfl,hU⟩ kR
   rw [List.getElem?_map,List.getElem?_map] at hv
   obtain ⟨z,ez,rfl⟩:=Option.map_eq_some_iff.mp hv
   obtain ⟨p,ep,rfl⟩:=Option.map_eq_some_iff.mp ez
   have hp:=g.nmp p (List.mem_of_getElem? ep)
   have sp:Txt.split (rowT p) gt3=[p.1,p.2]:=split_two (nm_free hp.1 (by decide)) (nm_free hp.2 (by decide))
   have rl:=rowT_len hp.1 hp.2
   simp only [tYes,gName,if_true]
   refine ⟨_,rfl,rfl,rowT p,gt3,rfl,rfl,rfl,by omega,by rw [sp];show 2<=sizeLine;decide,fun l4 n4=>?_⟩
   rw [sp]
   refine ⟨l4,_,rfl,.inl ⟨SqL.of upd_same,fun c nc=>kR _ _ ⟨s3.trans ((same_upd n4).trans (same_upd nc)),us++[c],by simp,?_⟩⟩⟩
   rw [List.take_add_one,ep]
   exact TiesAt.snoc ((hU.same (same_upd n4)).same (same_upd nc)) upd_same
  rintro ys H3 ⟨s3,us,rfl,hU⟩ l3 n3
  rw [List.length_map,List.length_map,List.take_of_length_le (Nat.le_refl _)] at hU
  have s4:=s3.trans (same_upd (o:=.lst (us.map V.ref)) n3)
  have h34:=upd_same (H:=H3) (a:=l3) (o:=.lst (us.map V.ref))
  have hU4:=hU.same (same_upd (o:=.lst (us.map V.ref)) n3)
  generalize upd H3 l3 (.lst (us.map V.ref))=H4 at s4 h34 hU4 ⊢
  refine ⟨_,rfl,_,rfl,?_⟩
  intro y dy ny ndy ney
  have sy:Same H4 (upd (upd H4 dy (.own y)) y (.ins C dy [])):=Same.upd_new (same_upd ndy) ny
  refine ⟨y,l2,l3,ms,ps,us,rfl,⟨dy,upd_same⟩,⟨sy _ _ (s4 _ _ h2),sy _ _ h34,hU4.same sy,g.good,g.ins,g.few⟩,fun H5 W5 b5=>⟨rfl,k y H5 W5 (s2.trans (s4.trans (Same.but sy b5 ny)))⟩⟩
end
section
variable {P:Program} {w:World} {K:PySem.W.Frag} {mg:Str->Option Value} {base:Heap}
variable {C fI fP fS fWT fWR:Addr} {fdI fdP fdS fdWT fdWR:FuncData}
def spRW (C:Addr):Sp:=fun vs H Q _=>∃ (ns:List Str) (ps:List (Str × Str)),vs=[.str (wtext ns ps)]/\GoodW ns ps/\∀ y H',WebObj C H' y (srt ns) ps->Same H H'->Q (.ref y) H'
abbrev nRW:List Str:=["text","rows","web"]
theorem scRW:FnScope nRW ["text"] (defScope sRead):=⟨rfl,rfl,rfl,by decide +kernel,rfl,by decide +kernel,by decide +kernel⟩
theorem ok_read {f:Addr} {fd:FuncData} (F:Fun K "read_web" "read_web" sRead f fd) (DT:Df K mg "web_text" sWText ["web"] fWT fdWT) (GT:FnOk P w K mg base CX0 2 fWT fdWT ["web"] (spWT C)) (DR:Df K mg "web_of_rows" sWRows ["first","others"] fWR fdWR) (GR:FnOk P w K mg base CX0 6 fWR fdWR ["first","others"] (spWR C)) (T:Glb mg):FnOk P w K mg base CX0 7 f fd ["text"] (spRW C):=by
 refine F.ok scRW (fun vs H Q E h=>?_) (fun cdv A outer s H vs Q E hr h=>?_)
 ·obtain ⟨ns,ps,rfl,_⟩:=h
  rfl
 ·obtain ⟨ns,ps,rfl,g,k⟩:=h
  have hr2:=hr.mono (j:=2) (by decide)
  refine ⟨_,pss_cons (ps_if (pt_not (pt_val (pe_callB (call_isinst (T:="str")) (by rfl) T.isinst boot_isinstance (pa_cons (pv 0) (pa_cons (pe_bltn (v:=.ty "str") rfl T.str PyProof.Rows.boot_str rfl) pa_nil))) (fun _=>rfl))) (pss_one ps_never) pss_nil)
   (pss_cons (ps_set (i:=1) scRW.nd rfl (Or.inl rfl) (pe_bm PySem.F.plainAttrs_str PySem.F.slot_str_split PySem.F.type_str_split mt_split (pv 0) (pa_cons pe_str pa_nil)))
   (pss_cons (ps_set (i:=2) scRW.nd rfl (Or.inl rfl) (pe_call GR hr rfl DR.mgf DR.fn.kp DR.b .nil pass0 (pa_cons (pe_ix ix_list (pv 1) pe_int (fun _ _=>rfl)) (pa_cons (pe_slice sl_list (pv 1) (po_some pe_int) (po_some (pe_un un_neg pe_int))) pa_nil))))
   (pss_cons (ps_if (pt_cmpR op_ne (pe_call GT hr2 rfl DT.mgf DT.fn.kp DT.b .nil pass0 (pa_cons (pv 2) pa_nil)) (pv 0) (nomark _)) (pss_one ps_never) pss_nil)
   (pss_one (ps_ret (pv 2)))))),?_⟩
  have ts:=text_split (ns:=ns) (ps:=ps) g.good.nms g.nmp
  have tl:=text_len g.good.nms g.good.few g.nmp g.few
  have big:2000<=sizeLine:=by decide
  refine ⟨_,rfl,_,_,true,rfl,.str _,rfl,_,rfl,iteF ?_⟩
  refine ⟨_,rfl,rfl,wtext ns ps,nl1,rfl,rfl,rfl,by omega,?_,fun l1 n1=>?_⟩
  ·rw [ts,List.length_append,List.length_cons,List.length_map]
   have:=g.few
   simp only [List.length_cons,List.length_nil]
   omega
  rw [ts]
  have s1:=same_upd (o:=.lst ((headT (srt ns)::ps.map rowT++[Str.empty]).map V.str)) n1
  have h1:=upd_same (H:=H) (a:=l1) (o:=.lst ((headT (srt ns)::ps.map rowT++[Str.empty]).map V.str))
  change tSeq _ _ _ _ (upd H l1 (.lst ((headT (srt ns)::ps.map rowT++[Str.empty]).map V.str)))
  generalize upd H l1 (.lst ((headT (srt ns)::ps.map rowT++[Str.empty]).map V.str))=H1 at s1 h1 ⊢
  have at0:atI ((headT (srt ns)::ps.map rowT++[Str.empty]).map V.str) 0=some (V.str (headT (srt ns))):=atI_nat (j:=0) (by simp)
  refine ⟨_,rfl,l1,_,0,.str (headT (srt ns)),rfl,rfl,SqL.of h1,at0,_,rfl,1,rfl,1,rfl,-1,rfl,l1,_,rfl,SqL.of h1,fun l2 n2=>?_⟩
  rw [List.map_append,List.map_cons,List.map_cons,List.map_nil,cut2]
  have gS:GoodW (srt ns) ps:=⟨⟨by rw [srt_len];exact g.good.one,by rw [srt_len];exact g.good.few,fun z hz=>g.good.nms z (srt_mem.mp hz),srt_nd g.good.nd⟩,g.inS,g.few⟩
  have ss:srt (srt ns)=srt ns:=(srt_of (List.Perm.refl _) (srt_pw ns)).symm
  refine ⟨l2,srt ns,ps,rfl,upd_same,gS,fun y H3 W3 s3=>?_⟩
  refine ⟨_,rfl,y,srt ns,ps,rfl,W3,gS,fun H4 s4=>⟨_,rfl,rfl,_,rfl,?_⟩⟩
  rw [show wtext (srt ns) ps=wtext ns ps from by unfold wtext;rw [ss],decide_eq_true rfl]
  exact iteF ⟨_,rfl,k y H4 (W3.same s4) (s1.trans ((same_upd n2).trans (s3.trans s4)))⟩
end
end K90
namespace L2
open PySem PySem.Spec PyProof.Rows
structure DKn (P:Program) (w:World) (K:PySem.W.Frag) (a:Addr) (kvs:List (Key × V)):Prop where
 ns:(a == sysModules)=false
 ok:∀ h:Heap,K.In h->∃ vs,KV kvs vs/\h.DictOf (mixKind P w) a vs
def tKGet (a:Addr) (kvs:List (Key × V)) (td ty:TE):TE:=fun σ H Q=>td σ H fun x H1=>ty σ H1 fun y H2=>∃ k v,x=.ref a/\y=kV k/\valV kvs k=some v/\Q v H2
def tKIn (a:Addr) (kvs:List (Key × V)) (ty td:TE):TE:=fun σ H Q=>ty σ H fun y H1=>td σ H1 fun x H2=>∃ k,x=.ref a/\y=kV k/\Q (.bl (valV kvs k).isSome) H2
def tKNotIn (a:Addr) (kvs:List (Key × V)) (ty td:TE):TE:=fun σ H Q=>ty σ H fun y H1=>td σ H1 fun x H2=>∃ k,x=.ref a/\y=kV k/\Q (.bl (!(valV kvs k).isSome)) H2
section
variable {X:Cx} {o i:Expr} {pos:Pos} {td ty:TE} {a:Addr} {kvs:List (Key × V)}
theorem pe_kget (D:DKn X.prog X.w X.K a kvs) (ho:PE X o td) (hi:PE X i ty) (hs:NoSl i):PE X (.Subscript o i pos) (tKGet a kvs td ty):=by
 intro pins s σ H Q I h
 refine subD_of PySem.F.slot_dict_getitem.lookup hs (thn (ho pins s σ H _ I h) fun u s1 ⟨x,H1,I1,rx,q1⟩=>thn (hi pins s1 σ H1 _ I1 q1) fun iv s2 ⟨y,H2,I2,ry,k,v,ex,ey,l,q2⟩=>?_)
 subst ex
 subst ey
 obtain rfl:u=Value.ref a:=rx
 obtain ⟨vs,rel,dd⟩:=D.ok _ I2.kIn
 refine ⟨dd.typeIs,?_⟩
 obtain ⟨w',hw,rw'⟩:=RelO.some_of (v:=v) (o:=valueAt vs k) (by rw [<- l];exact rel.val k)
 exact wpAny_getItem_of (kV_is ry) dd.mapOf hw ⟨v,H2,I2.tok _,rw',q2⟩
theorem pc_kin (D:DKn X.prog X.w X.K a kvs) (hi:PE X i ty) (ho:PE X o td):PC X .In i o (tKIn a kvs ty td):=by
 intro pins s σ H Q I h
 refine thn (hi pins s σ H _ I h) fun iv s1 ⟨y,H1,I1,ry,q1⟩=>thn (ho pins s1 σ H1 _ I1 q1) fun u s2 ⟨x,H2,I2,rx,k,ex,ey,q2⟩=>?_
 subst ex
 subst ey
 obtain rfl:u=Value.ref a:=rx
 obtain ⟨vs,rel,dd⟩:=D.ok _ I2.kIn
 refine wpAny_in_of (kV_is ry) D.ns dd.mapOf ?_
 rw [<- (rel.val k).isSome_eq]
 exact ⟨.bl _,H2,I2.tok _,rfl,q2⟩
theorem pc_knotin (D:DKn X.prog X.w X.K a kvs) (hi:PE X i ty) (ho:PE X o td):PC X .NotIn i o (tKNotIn a kvs ty td):=by
 intro pins s σ H Q I h
 refine thn (hi pins s σ H _ I h) fun iv s1 ⟨y,H1,I1,ry,q1⟩=>thn (ho pins s1 σ H1 _ I1 q1) fun u s2 ⟨x,H2,I2,rx,k,ex,ey,q2⟩=>?_
 subst ex
 subst ey
 obtain rfl:u=Value.ref a:=rx
 obtain ⟨vs,rel,dd⟩:=D.ok _ I2.kIn
 refine wpAny_notIn_of (kV_is ry) D.ns dd.mapOf ?_
 rw [<- (rel.val k).isSome_eq]
 exact ⟨.bl _,H2,I2.tok _,rfl,q2⟩
end
section
variable {X:Cx} {CX:CXT} {k:Nat} {f:Addr} {fd:FuncData} {ps:List Str} {sp:Sp} {ds:List Value} {dvs:List V} {E:XK} {x:Str} {p pos:Pos} {e:Expr} {es:List Expr} {t:TA} {tf:TE}
def tCallV (f:Addr) (sp:Sp) (dvs:List V) (E:XK) (tf:TE) (t:TA):TE:=fun σ H Q=>tf σ H fun x H1=>x=.ref f/\tCall sp dvs E t σ H1 Q
theorem pe_callV (F:FnOk X.prog X.w X.K X.mg X.base CX k f fd ps sp) (hr:Room k X.A) (hk:PySem.W.keepIn X.K (.ref f)=true) (hb:Binds X.K fd ps ds) (hd:Vals dvs ds) (hx:Passes CX X E)
  (hv:PE X (.Name x p) tf) (ha:PA X (e::es) t) (he:starEach (e::es) X.env=(false,eval e X.env)::starEach es X.env:=by rfl) (hpl:(backTo pos (starEach es X.env)).any (·.1)=false:=by rfl) :
  PE X (.Call (.Name x p) (e::es) [] pos) (tCallV f sp dvs E tf t):=by
 intro pins s σ H Q I h
 refine wpAny_Call_Name_kw (thn (hv pins s σ H _ I h) fun u s0 ⟨y,H0,I0,ry,ey,h0⟩=>?_)
 subst ey
 obtain rfl:u=Value.ref f:=ry
 refine PySem.W.callWith_K (h₀:=X.base) I0.ok.mod.kin hk (thn (ha pos pins s0 σ H0 _ I0 h0) fun us s1 ⟨vs,H1,I1,r,q⟩=>⟨I1.kIn,?_⟩) he hpl
 exact run_fn F hr hb hd hx I1 r q
end
theorem jn_uniq2 {c d:Nat}:∀ {l m:List (List Nat)},l≠[]->m≠[]->(∀ x∈l,c ∉ x)->(∀ x∈m,c ∉ x)->jn [c,d] l=jn [c,d] m->l=m
 | [],_,h,_,_,_,_=>absurd rfl h
 | _::_,[],_,h,_,_,_=>absurd rfl h
 | [x],[y],_,_,_,_,h=>by rw [show x=y from h]
 | [x],y::z::r,_,_,hx,_,h=>by
  have:x=y++[c,d]++jn [c,d] (z::r):=h
  exact absurd (by rw [this];simp) (hx x List.mem_cons_self)
 | x::z::r,[y],_,_,_,hy,h=>by
  have:x++[c,d]++jn [c,d] (z::r)=y:=h
  exact absurd (by rw [<- this];simp) (hy y List.mem_cons_self)
 | x::z::r,y::w::q,_,_,hx,hy,h=>by
  have h':x++c::(d::jn [c,d] (z::r))=y++c::(d::jn [c,d] (w::q)):=by
   have:x++[c,d]++jn [c,d] (z::r)=y++[c,d]++jn [c,d] (w::q):=h
   simpa using this
  obtain ⟨e1,e2⟩:=first_at (hx x List.mem_cons_self) (hy y List.mem_cons_self) h'
  rw [List.cons.injEq] at e2
  rw [e1,jn_uniq2 (by simp) (by simp) (fun u hu=>hx u (List.mem_cons_of_mem _ hu)) (fun u hu=>hy u (List.mem_cons_of_mem _ hu)) e2.2]
theorem jn_next {c d:Nat} (cd:c≠d):∀ {l:List (List Nat)},(∀ x∈l,c ∉ x)->∀ k,(jn [c,d] l)[k]?=some c->(jn [c,d] l)[k+1]?=some d
 | [],_,k,h=>by simp [jn] at h
 | [x],hx,k,h=>absurd (List.mem_of_getElem? (show x[k]?=some c from h)) (hx x List.mem_cons_self)
 | x::y::r,hx,k,h=>by
  have e:jn [c,d] (x::y::r)=x++c::d::jn [c,d] (y::r):=by
   show x++[c,d]++jn [c,d] (y::r)=_
   simp
  rw [e] at h ⊢
  rcases Nat.lt_trichotomy k x.length with q | q | q
  ·rw [List.getElem?_append_left q] at h
   exact absurd (List.mem_of_getElem? h) (hx x List.mem_cons_self)
  ·subst q
   rw [List.getElem?_append_right (by omega)]
   simp
  ·rw [List.getElem?_append_right (by omega)] at h ⊢
   obtain ⟨j,hj⟩:∃ j,k - x.length=j+1:=⟨k - x.length - 1,by omega⟩
   rw [show k+1 - x.length=j+1+1 by omega]
   rw [hj] at h
   rw [List.getElem?_cons_succ] at h ⊢
   cases j with
   | zero =>
    rw [List.getElem?_cons_zero] at h
    exact absurd (by simpa using h:d=c) (Ne.symm cd)
   | succ j =>
    rw [List.getElem?_cons_succ] at h ⊢
    exact jn_next cd (fun u hu=>hx u (List.mem_cons_of_mem _ hu)) j h
theorem part_freeS (x sep:Str) (c a b:Nat) (hA:∀ k,x.cps.toList[k]?=some c->StrLaws.At x sep x.length k) (hn:∀ k,a<=k->k < b->¬ StrLaws.At x sep x.length k):c ∉ (Builtin.Str.strSub x a b).cps.toList:=by
 intro hm
 rw [StrLaws.strSub_toList] at hm
 obtain ⟨j,hj⟩:=List.getElem?_of_mem hm
 have hlt:j < b - a:=by
  have h1:j < ((x.cps.toList.drop a).take (b - a)).length:=(List.getElem?_eq_some_iff.mp hj).1
  simp at h1
  omega
 rw [List.getElem?_take_of_lt hlt,List.getElem?_drop] at hj
 exact hn (a+j) (by omega) (by omega) (hA _ hj)
theorem parts_freeS (x sep:Str) (c:Nat) (hA:∀ k,x.cps.toList[k]?=some c->StrLaws.At x sep x.length k):∀ (cuts:List Nat) (a f:Nat),StrLaws.ChainG x sep x.length a cuts f->(∀ k,f<=k->¬ StrLaws.At x sep x.length k)->∀ p∈StrLaws.partsFrom x sep.length a cuts,c ∉ p.cps.toList
 | [],a,f,h,hn,p,hp=>by
  have e:f=a:=h
  subst e
  rw [List.mem_singleton.mp hp]
  exact part_freeS x sep c f x.length hA fun k h1 _=>hn k h1
 | d::r,a,f,h,hn,p,hp=>by
  rcases List.mem_cons.mp hp with rfl | hp'
  ·exact part_freeS x sep c a d hA h.2.2.1
  ·exact parts_freeS x sep c hA r _ f h.2.2.2 hn p hp'
theorem split_freeS (x sep:Str) (c:Nat) (hs:1<=sep.length) (hA:∀ k,x.cps.toList[k]?=some c->StrLaws.At x sep x.length k) (hk:Builtin.Str.strKind sep=1):∀ p∈Txt.split x sep,c ∉ p.cps.toList:=by
 obtain ⟨f,hG,hn⟩:=StrLaws.occ_tight x sep hs
 unfold Txt.split
 split
 ·rename_i hc
  intro p hp
  rw [List.mem_singleton.mp hp]
  intro hm
  obtain ⟨j,hj⟩:=List.getElem?_of_mem hm
  have hA:=hA j hj
  rw [Bool.or_eq_true,decide_eq_true_eq,decide_eq_true_eq] at hc
  rcases hc with h | h
  ·have:=hA.1;omega
  ·rw [hk] at h
   unfold Builtin.Str.strKind at h
   split at h
   ·omega
   ·split at h<;>omega
 ·split
  ·rename_i he
   intro p hp
   rw [List.mem_singleton.mp hp]
   have e0:Builtin.Str.occurrences x sep 0 x.length (x.length+1)=[]:=List.isEmpty_iff.mp he
   rw [e0] at hG
   have ef:f=0:=hG
   subst ef
   rw [<- StrLaws.sub_whole x]
   exact part_freeS x sep c 0 x.length hA fun k h1 _=>hn k h1
  ·rw [StrLaws.partsBetween_eq]
   exact parts_freeS x sep c hA _ 0 f hG hn
abbrev sm2:Str:="; "
theorem cs_sm2:cs sm2=[59,32]:=by decide +kernel
theorem len_sm2:sm2.length=2:=by decide +kernel
theorem split_sm2 {l:List Str} (h0:l≠[]) (hf:∀ x∈l,59 ∉ cs x):Txt.split (Txt.join sm2 l) sm2=l:=by
 have ej:Txt.join sm2 l=Str.join sm2 l:=StrLaws.glued_eq_join _ _
 have hf':∀ x∈l.map cs,59 ∉ x:=fun x hx=>by
  obtain ⟨p,hp,rfl⟩:=List.mem_map.mp hx
  exact hf p hp
 have ec:cs (Txt.join sm2 l)=jn [59,32] (l.map cs):=by rw [ej,cs_join,cs_sm2]
 have hA:∀ k,(Txt.join sm2 l).cps.toList[k]?=some 59->StrLaws.At (Txt.join sm2 l) sm2 (Txt.join sm2 l).length k:=fun k hk=>by
  have hk':(jn [59,32] (l.map cs))[k]?=some 59:=by rw [<- ec];exact hk
  have h2:=jn_next (d:=32) (by decide) hf' k hk'
  have lt:=(List.getElem?_eq_some_iff.mp h2).1
  refine ⟨?_,?_⟩
  ·rw [len_sm2,len_cs,ec];omega
  ·rw [StrLaws.subAt_eq,len_sm2,show (Txt.join sm2 l).cps.toList=_ from ec,show sm2.cps.toList=_ from cs_sm2]
   obtain ⟨a1,a2⟩:=List.getElem?_eq_some_iff.mp hk'
   obtain ⟨b1,b2⟩:=List.getElem?_eq_some_iff.mp h2
   rw [List.drop_eq_getElem_cons a1,List.drop_eq_getElem_cons b1,a2,b2]
   rfl
 have h1:=StrLaws.join_split (Txt.join sm2 l) sm2
 have h2:=split_freeS (Txt.join sm2 l) sm2 59 (by rw [len_sm2];decide) hA (by decide +kernel)
 have h3:=split_ne (Txt.join sm2 l) sm2
 generalize Txt.split (Txt.join sm2 l) sm2=m at h1 h2 h3 ⊢
 rw [ej] at h1
 have:=congrArg cs h1
 rw [cs_join,cs_join,cs_sm2] at this
 refine cs_inj (jn_uniq2 (c:=59) (d:=32) (by simpa using h3) (by simpa using h0) (fun x hx=>?_) hf' this)
 obtain ⟨p,hp,rfl⟩:=List.mem_map.mp hx
 exact h2 p hp
section
open StrLaws
theorem ls_skip {s:Str} {i m:Nat} {st:LsSt} (h:Unicode.isLineBreak (s.cps.getD i 0)=false):Id.run (forIn (m:=Id) (List.range' i (m+1)) st (lsBody s))=Id.run (forIn (m:=Id) (List.range' (i+1) m) st (lsBody s)):=by
 rw [List.range'_succ,List.forIn_cons]
 unfold lsBody
 simp only [h,Bool.and_false,Bool.false_eq_true,if_false]
 rfl
theorem ls_brk {s:Str} {i m:Nat} {L:Array (Nat × Nat × Nat)} {b:Nat} (h:Unicode.isLineBreak (s.cps.getD i 0)=true) (hb:b<=i) (h13:s.cps.getD i 0≠13):Id.run (forIn (m:=Id) (List.range' i (m+1)) ((L,b):LsSt) (lsBody s))=Id.run (forIn (m:=Id) (List.range' (i+1) m) ((L.push (b,i,i+1),i+1):LsSt) (lsBody s)):=by
 rw [List.range'_succ,List.forIn_cons]
 have e:lsNext s i=i+1:=by
  unfold lsNext
  rw [if_neg (by intro hh;rw [Bool.and_eq_true,beq_iff_eq] at hh;exact h13 hh.1)]
 unfold lsBody
 simp only [h,decide_eq_true hb,Bool.and_self,if_true,e]
 rfl
theorem ls_skips {s:Str} {st:LsSt}:∀ (n:Nat) {i m:Nat},(∀ k,k < n->Unicode.isLineBreak (s.cps.getD (i+k) 0)=false)->Id.run (forIn (m:=Id) (List.range' i (n+m)) st (lsBody s))=Id.run (forIn (m:=Id) (List.range' (i+n) m) st (lsBody s))
 | 0,i,m,_=>by rw [Nat.zero_add,Nat.add_zero]
 | n+1,i,m,h=>by
  rw [show n+1+m=(n+m)+1 by omega,ls_skip (by simpa using h 0 (by omega)),ls_skips n (fun k hk=>by have:=h (k+1) (by omega);rwa [show i+(k+1)=i+1+k by omega] at this)]
  rw [show i+1+n=i+(n+1) by omega]
def lined (rs:List (List Nat)):List Nat:=rs.flatMap fun r=>r++[10]
def spans:Nat->List (List Nat)->List (Nat × Nat × Nat)
 | _,[]=>[]
 | i,r::rs=>(i,i+r.length,i+r.length+1)::spans (i+r.length+1) rs
theorem ls_all {s:Str}:∀ (rs:List (List Nat)) (i:Nat) (L:Array (Nat × Nat × Nat)),s.cps.toList.drop i=lined rs->i<=s.length->(∀ r∈rs,∀ c∈r,Unicode.isLineBreak c=false) ->
  Id.run (forIn (m:=Id) (List.range' i (s.length - i)) ((L,i):LsSt) (lsBody s))=(L++(spans i rs).toArray,s.length)
 | [],i,L,e,hi,_=>by
  have:s.length - i=0:=by
   have:=congrArg List.length e
   rw [List.length_drop,Array.length_toList] at this
   exact this
  have e2:i=s.length:=by omega
  rw [this]
  subst e2
  simp [spans]
 | r::rs,i,L,e,hi,hr=>by
  have e':s.cps.toList.drop i=r++10::lined rs:=by rw [e];simp [lined]
  have ln:s.length - i=r.length+(1+(lined rs).length):=by
   have:=congrArg List.length e'
   rw [List.length_drop,Array.length_toList] at this
   simp only [List.length_append,List.length_cons] at this
   show s.cps.size - i=_
   omega
  have at_:∀ k,s.cps.getD (i+k) 0=(r++10::lined rs).getD k 0:=fun k=>by
   rw [<- e',Array.getD_eq_getD_getElem?,List.getD_eq_getElem?_getD,List.getElem?_drop,Array.getElem?_toList]
  rw [ln,ls_skips r.length (fun k hk=>by
   rw [at_ k,List.getD_eq_getElem?_getD,List.getElem?_append_left hk,List.getElem?_eq_getElem hk]
   exact hr r List.mem_cons_self _ (List.getElem_mem hk))]
  have a10:s.cps.getD (i+r.length) 0=10:=by rw [at_];simp
  rw [Nat.add_comm 1,ls_brk (by rw [a10];decide +kernel) (by omega) (by rw [a10];decide)]
  have e2:s.cps.toList.drop (i+r.length+1)=lined rs:=by
   rw [show i+r.length+1=i+(r.length+1) by omega,<- List.drop_drop,e']
   simp
  have hl:i+r.length+1<=s.length:=by omega
  rw [show (lined rs).length=s.length - (i+r.length+1) by omega]
  rw [ls_all rs _ _ e2 hl fun q hq=>hr q (List.mem_cons_of_mem _ hq)]
  refine Prod.ext (Array.toList_inj.mp ?_) rfl
  show (L.push (i,i+r.length,i+r.length+1)++(spans (i+r.length+1) rs).toArray).toList=(L++((i,i+r.length,i+r.length+1)::spans (i+r.length+1) rs).toArray).toList
  rw [Array.toList_append,Array.toList_append,Array.toList_push,List.append_assoc,List.singleton_append]
theorem sub_spans {s:Str}:∀ (rs:List (List Nat)) (i:Nat),s.cps.toList.drop i=lined rs->(spans i rs).map (fun p=>cs (Builtin.Str.strSub s p.1 p.2.1))=rs
 | [],i,e=>rfl
 | r::rs,i,e=>by
  have e':s.cps.toList.drop i=r++10::lined rs:=by rw [e];simp [lined]
  have e2:s.cps.toList.drop (i+r.length+1)=lined rs:=by
   rw [show i+r.length+1=i+(r.length+1) by omega,<- List.drop_drop,e']
   simp
  show cs (Builtin.Str.strSub s i (i+r.length))::(spans (i+r.length+1) rs).map _=_
  rw [sub_spans rs _ e2,show cs (Builtin.Str.strSub s i (i+r.length))=r by
   show (Builtin.Str.strSub s i (i+r.length)).cps.toList=r
   rw [strSub_toList,e',Nat.add_sub_cancel_left,List.take_left']
   rfl]
theorem lines_of {s:Str} {rs:List Str} (e:cs s=lined (rs.map cs)) (hr:∀ r∈rs,∀ c∈cs r,Unicode.isLineBreak c=false):PySem.linesOf s=rs/\(PySem.lineCuts s).length=rs.length/\(rs≠[]->PySem.lineCuts s≠[(0,s.length)]):=by
 have e0:s.cps.toList.drop 0=lined (rs.map cs):=e
 have r0:∀ r∈rs.map cs,∀ c∈r,Unicode.isLineBreak c=false:=fun r h=>by
  obtain ⟨q,hq,rfl⟩:=List.mem_map.mp h
  exact hr q hq
 have h:=ls_all (s:=s) (rs.map cs) 0 #[] e0 (Nat.zero_le _) r0
 have sp:Builtin.Str.lineSpans s=spans 0 (rs.map cs):=by
  rw [ls_eq]
  rw [show s.length=s.length - 0 from rfl,h]
  unfold lsEnd
  rw [if_neg (by simp)]
  simp
 have lc:PySem.lineCuts s=(spans 0 (rs.map cs)).map fun p=>(p.1,p.2.1):=by
  unfold PySem.lineCuts
  rw [sp]
  rfl
 have ln:∀ (l:List (List Nat)) i,(spans i l).length=l.length:=fun l=>by
  induction l with
  | nil=>intro i;rfl
  | cons x l ih=>intro i;show (spans _ l).length+1=l.length+1;rw [ih]
 refine ⟨?_,by rw [lc,List.length_map,ln,List.length_map],fun hn q=>?_⟩
 ·refine cs_inj ?_
  unfold PySem.linesOf
  rw [lc,List.map_map,List.map_map]
  exact sub_spans (rs.map cs) 0 e0
 ·rw [lc] at q
  cases rs with
  | nil=>exact hn rfl
  | cons r rs =>
   have q0:(0,0+(cs r).length)=(0,s.length):=by
    have:=congrArg List.head? q
    simpa [spans] using this
   have ls:s.length=(lined ((r::rs).map cs)).length:=by rw [len_cs,e]
   have:(cs r).length=s.length:=by simpa using q0
   rw [ls] at this
   simp [lined] at this
end
section
variable {X:Cx}
theorem mt_splitlines:MtR X "str.splitlines" (fun x vs H Q=>∃ (z:Str) (rs:List Str),x=.str z/\vs=[]/\cs z=lined (rs.map cs)/\(∀ r∈rs,∀ c∈cs r,Unicode.isLineBreak c=false)/\rs≠[]/\z.length<=sizeLine/\rs.length<=sizeLine /\
  ∀ l,H l=none->Q (.ref l) (upd H l (.lst (rs.map V.str)))):=by
 intro pins s σ H x xs v us Q I rx r h
 obtain ⟨z,rs,rfl,rfl,e,hr,hn,hz,hl,q⟩:=h
 obtain ⟨t,rfl⟩:=rx
 cases r
 obtain ⟨l1,l2,l3⟩:=lines_of e hr
 refine call_meets F.slot_str_splitlines (typeIs_str _ _ _) F.entry_str_splitlines (F.args_str_splitlines_1 _) (meets_str_splitlines z t hz (by rw [l2];exact hl)) ?_
 rw [if_neg (by simpa using l3 hn),l1]
 rw [strsFrom_eq]
 exact ⟨.ref s.heap.objs.size,_,I.lnew (t':=_) (by have:=vals_strV (numbered s.toks rs);rw [numbered_texts] at this;exact this) (by rw [List.length_map];exact hl),rfl,q _ I.fresh⟩
theorem mt_joinT:MtR X "str.join" (fun x vs H Q=>∃ (sep:Str) (p:Addr) (ys:List Str),x=.str sep/\vs=[.ref p]/\SqT X.K H p (ys.map V.str)/\(ys.map (·.length)).sum+ys.length * sep.length<=16777216/\Q (.str (Txt.join sep ys)) H):=by
 intro pins s σ H x xs v us Q I rx r h
 obtain ⟨sep,p,ys,rfl,rfl,hq,hl,q⟩:=h
 obtain ⟨u,rfl,ru⟩:=vals1 r
 cases ru
 obtain ⟨t,rfl⟩:=rx
 obtain ⟨its,rv,pl,hz⟩:=I.tuple hq
 exact join_tuple pl (by simpa using strs_of rv) hl fun t' k=>⟨.str _,H,I.tok _,⟨t',rfl⟩,q⟩
def tFmtI (t:TE):TE:=fun σ H Q=>t σ H fun x H1=>∃ i:Int,x=.int i/\i.natAbs.log2 < 1920/\Q (.str (toString i)) H1
theorem pe_fmtI {e:Expr} {t:TE} {pos:Pos} (h:PE X e t):PE X (.FormattedValue e (-1) none pos) (tFmtI t):=by
 intro pins s σ H Q I q
 refine wpAny_FormattedValue_plain (thn (h pins s σ H _ I q) fun v s1 ⟨x,H1,I1,rx,i,e,hz,q1⟩=>?_)
 subst e
 obtain ⟨t,rfl⟩:=rx
 exact wpAny_formatField_int hz ⟨.str _,H1,I1.tok _,⟨_,rfl⟩,q1⟩
end
end L2
namespace K90
open PySem PySem.Spec PyProof.Rows L2
abbrev sIR:Stmt:=top 32 -- in_a_row
abbrev sSTi:Stmt:=top 33 -- show_ties
abbrev sSC:Stmt:=top 34 -- show_cut
abbrev sSE:Stmt:=top 35 -- show_entry
abbrev sSCs:Stmt:=top 36 -- show_cuts
abbrev sSW:Stmt:=top 37 -- show_web
abbrev sRR:Stmt:=top 38 -- read_row
section
variable {P:Program} {w:World} {K:PySem.W.Frag} {mg:Str->Option Value} {base:Heap}
variable {C fP fS fIR fSC fSE fWT fSW fRW:Addr} {fdP fdS fdIR fdSC fdSE fdWT fdSW fdRW:FuncData}
abbrev mn1:Str:="-"
abbrev pl1:Str:="+"
abbrev st1:Str:="*"
def inRow (zs:List Str):Str:=if zs=[] then mn1 else Txt.join bl1 zs
def Fits (zs:List Str):Prop:=(zs.map (·.length)).sum+zs.length<=100000
def spIR:Sp:=fun vs H Q _=>∃ (l:Addr) (zs:List Str),vs=[.ref l]/\SqL K H l (zs.map V.str)/\Fits zs/\Q (.str (inRow zs)) H
theorem scIR:FnScope ["words"] ["words"] (defScope sIR):=⟨rfl,rfl,rfl,by decide +kernel,rfl,by decide +kernel,by decide +kernel⟩
theorem ok_ir {f:Addr} {fd:FuncData} (F:Fun K "in_a_row" "in_a_row" sIR f fd):FnOk P w K mg base CX0 1 f fd ["words"] (spIR (K:=K)):=by
 refine F.ok scIR (fun vs H Q E h=>?_) (fun cdv A outer s H vs Q E hr h=>?_)
 ·obtain ⟨l,zs,rfl,_⟩:=h
  rfl
 ·obtain ⟨l,zs,rfl,hl,ft,k⟩:=h
  refine ⟨_,pss_one (ps_ret (pe_ifExp (pt_truth (pv 0) (fun _=>rfl)) (pe_bm PySem.F.plainAttrs_str PySem.F.slot_str_join PySem.F.type_str_join mt_join pe_str (pa_cons (pv 0) pa_nil)) pe_str)),?_⟩
  refine ⟨_,rfl,_,.inl ⟨_,hl,rfl⟩,?_⟩
  unfold inRow at k
  cases zs with
  | nil=>exact iteF k
  | cons z zs =>
   rw [if_neg (by simp)] at k
   refine iteT ⟨rfl,_,rfl,bl1,l,z::zs,rfl,rfl,hl,?_,k⟩
   unfold Fits at ft
   rw [show bl1.length=1 from by decide +kernel]
   omega
def spSC:Sp:=fun vs H Q _=>∃ (t:Addr) (zs:List Str),vs=[.ref t]/\SqT K H t (zs.map V.str)/\Fits zs/\Q (.str (Txt.join pl1 zs)) H
theorem scSC:FnScope ["cut"] ["cut"] (defScope sSC):=⟨rfl,rfl,rfl,by decide +kernel,rfl,by decide +kernel,by decide +kernel⟩
theorem ok_sc {f:Addr} {fd:FuncData} (F:Fun K "show_cut" "show_cut" sSC f fd):FnOk P w K mg base CX0 1 f fd ["cut"] (spSC (K:=K)):=by
 refine F.ok scSC (fun vs H Q E h=>?_) (fun cdv A outer s H vs Q E hr h=>?_)
 ·obtain ⟨l,zs,rfl,_⟩:=h
  rfl
 ·obtain ⟨l,zs,rfl,hl,ft,k⟩:=h
  refine ⟨_,pss_one (ps_ret (pe_ifExp (pt_cmp (pc_isN (pv 0))) pe_str (pe_bm PySem.F.plainAttrs_str PySem.F.slot_str_join PySem.F.type_str_join mt_joinT pe_str (pa_cons (pv 0) pa_nil)))),?_⟩
  refine ⟨_,rfl,_,rfl,iteF ⟨rfl,_,rfl,pl1,l,zs,rfl,rfl,hl,?_,k⟩⟩
  unfold Fits at ft
  rw [show pl1.length=1 from by decide +kernel]
  omega
end
section
variable {P:Program} {w:World} {K:PySem.W.Frag} {mg:Str->Option Value} {base:Heap}
variable {C fP fS fIR fSC fSE fWT fSW fRW:Addr} {fdP fdS fdIR fdSC fdSE fdWT fdSW fdRW:FuncData}
abbrev rStrI:List V->Hp->VK->Prop:=fun xs H Q=>∃ i:Int,xs=[.int i]/\i.natAbs.log2 < 1920/\Q (.str (toString i)) H
abbrev txt (i:Int):Str:=toString i
theorem log_small {i:Int} (h0:0<=i) (h1:i < 10 ^ 13):i.natAbs.log2 < 1920:=by
 have:i.natAbs < 2 ^ 44:=by omega
 have h:=Nat.log2_lt (n:=i.natAbs) (k:=44)
 by_cases z:i.natAbs=0
 ·rw [z];decide
 ·have:=(Nat.log2_lt z).mpr this
  omega
theorem txt_len {i:Int} (h0:0<=i) (h1:i < 10 ^ 13):(txt i).length<=13:=toString_length_le h0 (by decide) h1
theorem fits_ints {ks:List Int} (h:∀ i∈ks,0<=i/\i < 10 ^ 13) (few:ks.length<=100):Fits (ks.map txt):=by
 have:=sum_le (b:=13) (l:=ks.map txt) fun x hx=>by
  obtain ⟨i,hi,rfl⟩:=List.mem_map.mp hx
  exact txt_len (h i hi).1 (h i hi).2
 unfold Fits
 rw [List.length_map] at this ⊢
 omega
def spSTi:Sp:=fun vs H Q _=>∃ (l:Addr) (ks:List Int),vs=[.ref l]/\SqL K H l (ks.map V.int)/\(∀ i∈ks,0<=i/\i < 10 ^ 13)/\ks.length<=100/\∀ H',Same H H'->Q (.str (inRow (ks.map txt))) H'
theorem scSTi:FnScope ["ties"] ["ties"] (defScope sSTi):=⟨rfl,rfl,rfl,by decide +kernel,rfl,by decide +kernel,by decide +kernel⟩
theorem ok_sti {f:Addr} {fd:FuncData} (F:Fun K "show_ties" "show_ties" sSTi f fd) (DI:Df K mg "in_a_row" sIR ["words"] fIR fdIR) (T:Glb mg):FnOk P w K mg base CX0 2 f fd ["ties"] (spSTi (K:=K)):=by
 have GI:FnOk P w K mg base CX0 1 fIR fdIR ["words"] (spIR (K:=K)):=ok_ir DI.fn
 refine F.ok scSTi (fun vs H Q E h=>?_) (fun cdv A outer s H vs Q E hr h=>?_)
 ·obtain ⟨l,ks,rfl,_⟩:=h
  rfl
 ·obtain ⟨l,ks,rfl,hl,hk,few,k⟩:=h
  have h1:=hr.mono (j:=1) (by decide)
  refine ⟨_,pss_one (ps_ret (pe_ifExp (pt_cmp (pc_isN (pv 0))) pe_str (pe_call GI h1 rfl DI.mgf DI.fn.kp DI.b .nil pass0 (pa_cons
   (pe_lc ["k"] [] rfl (compSc (osc:=(defScope sSTi).names) (N:=["ties"]) rfl rfl (by decide +kernel)) (gk_name (by decide)) (pi_list (pv 0))
    (fun _ _ _=>pg_name (i:=0) (show (["k"]:List Str).Nodup by decide +kernel) rfl (Or.inl rfl)) (fun _ _ _=>pifs_nil)
    (fun _ _ _=>pe_callTy (r:=rStrI) call_str_int (by rfl) T.str PyProof.Rows.boot_str (pa_cons (pv 0) pa_nil))) pa_nil)))),?_⟩
  have big:2000<=sizeLine:=by decide
  refine ⟨_,rfl,_,rfl,iteF ⟨_,rfl,l,rfl,⟨_,hl⟩,lc_list (K:=K) (xs:=ks.map V.int) (fun i ys H3=>H3=H/\ys=((ks.take i).map txt).map V.str) ⟨rfl,rfl⟩ ?_ ?_ ?_ ?_⟩⟩
  ·rintro i ys H3 _ ⟨_,rfl⟩
   rw [List.length_map,List.length_map,List.length_take]
   omega
  ·rintro i ys H3 _ ⟨rfl,_⟩
   exact hl
  ·rintro i v ys H3 R hv ⟨rfl,rfl⟩ kR
   rw [List.getElem?_map] at hv
   obtain ⟨j,ej,rfl⟩:=Option.map_eq_some_iff.mp hv
   have hj:=hk j (List.mem_of_getElem? ej)
   simp only [tYes,gName,if_true]
   refine ⟨_,rfl,j,rfl,log_small hj.1 hj.2,kR _ _ ⟨rfl,?_⟩⟩
   rw [List.take_add_one,ej]
   simp
   rfl
  ·rintro ys H3 ⟨rfl,rfl⟩ D hD
   rw [List.length_map,List.take_of_length_le (Nat.le_refl _)]
   exact ⟨D,ks.map txt,rfl,SqL.of upd_same,fits_ints hk few,k _ (same_upd hD)⟩
def Ent (K:PySem.W.Frag) (H:Hp) (p:Addr) (z:Str):Prop :=
 (∃ zs:List Str,zs≠[]/\SqT K H p (zs.map V.str)/\Fits zs/\z=Txt.join pl1 zs) \/
 ∃ (t:Addr) (zs:List Str) (n:Int),SqT K H p [.ref t,.int n]/\H t=some (.tup (zs.map V.str))/\Fits zs/\0<=n/\n < 10 ^ 13/\z=Txt.join pl1 zs++st1++txt n
def spSE:Sp:=fun vs H Q _=>∃ (p:Addr) (z:Str),vs=[.ref p]/\Ent K H p z/\Q (.str z) H
abbrev nSE:List Str:=["thing","cut","times"]
theorem scSE:FnScope nSE ["thing"] (defScope sSE):=⟨rfl,rfl,rfl,by decide +kernel,rfl,by decide +kernel,by decide +kernel⟩
theorem ok_se {f:Addr} {fd:FuncData} (F:Fun K "show_entry" "show_entry" sSE f fd) (DC:Df K mg "show_cut" sSC ["cut"] fSC fdSC) (T:Glb mg):FnOk P w K mg base CX0 2 f fd ["thing"] (spSE (K:=K)):=by
 have GC:FnOk P w K mg base CX0 1 fSC fdSC ["cut"] (spSC (K:=K)):=ok_sc DC.fn
 refine F.ok scSE (fun vs H Q E h=>?_) (fun cdv A outer s H vs Q E hr h=>?_)
 ·obtain ⟨p,z,rfl,_⟩:=h
  rfl
 ·obtain ⟨p,z,rfl,en,k⟩:=h
  have h1:=hr.mono (j:=1) (by decide)
  refine ⟨_,pss_cons (ps_if (pt_val (pe_callB (call_isinst (T:="str")) (by rfl) T.isinst boot_isinstance (pa_cons (pe_ix ix_tup (pv 0) pe_int (fun _ _=>rfl)) (pa_cons (pe_bltn (v:=.ty "str") rfl T.str PyProof.Rows.boot_str rfl) pa_nil))) (fun _=>rfl))
    (pss_one (ps_ret (pe_call GC h1 rfl DC.mgf DC.fn.kp DC.b .nil pass0 (pa_cons (pv 0) pa_nil)))) pss_nil)
   (pss_cons (ps_asg (pv 0) (pg_tup rfl (pgs_cons (pg_name (i:=1) scSE.nd rfl (Or.inl rfl)) (pgs_cons (pg_name (i:=2) scSE.nd rfl (Or.inl rfl)) pgs_nil))))
   (pss_one (ps_ret (pe_joined (pj_cons (pe_fmt (pe_call GC h1 rfl DC.mgf DC.fn.kp DC.b .nil pass0 (pa_cons (pv 1) pa_nil))) (pj_cons pe_str (pj_cons (pe_fmtI (pv 2)) pj_nil))))))),?_⟩
  rcases en with ⟨zs,ne,hp,ft,rfl⟩ | ⟨t,zs,n,hp,ht,ft,n0,n1,rfl⟩
  ·cases zs with
   | nil=>exact absurd rfl ne
   | cons z zs =>
    refine ⟨_,rfl,p,_,0,.str z,rfl,rfl,hp,atI_nat (j:=0) (by simp),?_⟩
    refine ⟨_,_,true,rfl,.str _,rfl,_,rfl,iteT ?_⟩
    exact ⟨_,rfl,p,z::zs,rfl,hp,ft,k⟩
  ·have big:200000<=sizeLine:=by decide
   have jl:=join_le pl1 zs
   have e1:pl1.length=1:=by decide +kernel
   have e2:st1.length=1:=by decide +kernel
   have e3:(Str.ofString (toString n)).length<=13:=txt_len n0 n1
   have ft':=ft
   unfold Fits at ft'
   rw [e1] at jl
   refine ⟨_,rfl,p,_,0,.ref t,rfl,rfl,hp,atI_nat (j:=0) (by simp),?_⟩
   refine ⟨_,_,false,rfl,.tup ht,rfl,_,rfl,iteF ?_⟩
   refine ⟨_,rfl,p,_,rfl,hp,rfl,_,_,rfl,_,_,rfl,rfl,?_⟩
   refine ⟨_,rfl,t,zs,rfl,.inl (.inl ht),ft,_,rfl,by omega,_,rfl,by rw [empty_app];omega,st1,rfl,by rw [app_len,empty_app];omega,_,rfl,n,rfl,log_small n0 n1,_,rfl,by rw [app_len,app_len,empty_app];omega,by rw [app_len,app_len,empty_app];omega,?_⟩
   rw [empty_app]
   exact k
end
section
variable {P:Program} {w:World} {K:PySem.W.Frag} {mg:Str->Option Value} {base:Heap}
variable {C fP fS fIR fSC fSE fWT fSW fRW:Addr} {fdP fdS fdIR fdSC fdSE fdWT fdSW fdRW:FuncData}
def spSCs:Sp:=fun vs H Q _=>∃ (l:Addr) (qs:List (Addr × Str)),vs=[.ref l]/\H l=some (.lst (qs.map fun q=>V.ref q.1))/\(∀ q∈qs,Ent K H q.1 q.2)/\qs.length<=100/\Fits (qs.map (·.2))/\∀ H',Same H H'->Q (.str (inRow (qs.map (·.2)))) H'
theorem scSCs:FnScope ["cuts"] ["cuts"] (defScope sSCs):=⟨rfl,rfl,rfl,by decide +kernel,rfl,by decide +kernel,by decide +kernel⟩
theorem ok_scs {f:Addr} {fd:FuncData} (F:Fun K "show_cuts" "show_cuts" sSCs f fd) (DI:Df K mg "in_a_row" sIR ["words"] fIR fdIR) (DE:Df K mg "show_entry" sSE ["thing"] fSE fdSE) (DC:Df K mg "show_cut" sSC ["cut"] fSC fdSC) (T:Glb mg):FnOk P w K mg base CX0 3 f fd ["cuts"] (spSCs (K:=K)):=by
 have GI:FnOk P w K mg base CX0 1 fIR fdIR ["words"] (spIR (K:=K)):=ok_ir DI.fn
 have GE:FnOk P w K mg base CX0 2 fSE fdSE ["thing"] (spSE (K:=K)):=ok_se DE.fn DC T
 refine F.ok scSCs (fun vs H Q E h=>?_) (fun cdv A outer s H vs Q E hr h=>?_)
 ·obtain ⟨l,qs,rfl,_⟩:=h
  rfl
 ·obtain ⟨l,qs,rfl,hl,he,few,ft,k⟩:=h
  have h1:=hr.mono (j:=1) (by decide)
  refine ⟨_,pss_one (ps_ret (pe_ifExp (pt_cmp (pc_isN (pv 0))) pe_str (pe_call GI h1 rfl DI.mgf DI.fn.kp DI.b .nil pass0 (pa_cons
   (pe_lc ["thing"] [] rfl (compSc (osc:=(defScope sSCs).names) (N:=["cuts"]) rfl rfl (by decide +kernel)) (gk_name (by decide)) (pi_list (pv 0))
    (fun _ _ _=>pg_name (i:=0) (show (["thing"]:List Str).Nodup by decide +kernel) rfl (Or.inl rfl)) (fun _ _ _=>pifs_nil)
    (fun _ _ _=>pe_call GE hr rfl DE.mgf DE.fn.kp DE.b .nil pass0 (pa_cons (pv 0) pa_nil))) pa_nil)))),?_⟩
  have big:2000<=sizeLine:=by decide
  refine ⟨_,rfl,_,rfl,iteF ⟨_,rfl,l,rfl,⟨_,SqL.of hl⟩,lc_list (K:=K) (xs:=qs.map fun q=>V.ref q.1) (fun i ys H3=>H3=H/\ys=((qs.take i).map (·.2)).map V.str) ⟨rfl,rfl⟩ ?_ ?_ ?_ ?_⟩⟩
  ·rintro i ys H3 _ ⟨_,rfl⟩
   rw [List.length_map,List.length_map,List.length_take]
   omega
  ·rintro i ys H3 _ ⟨rfl,_⟩
   exact SqL.of hl
  ·rintro i v ys H3 R hv ⟨rfl,rfl⟩ kR
   rw [List.getElem?_map] at hv
   obtain ⟨q,eq,rfl⟩:=Option.map_eq_some_iff.mp hv
   have hq:=he q (List.mem_of_getElem? eq)
   simp only [tYes,gName,if_true]
   refine ⟨_,rfl,q.1,q.2,rfl,hq,kR _ _ ⟨rfl,?_⟩⟩
   rw [List.take_add_one,eq]
   simp
  ·rintro ys H3 ⟨rfl,rfl⟩ D hD
   rw [List.length_map,List.take_of_length_le (Nat.le_refl _)]
   exact ⟨D,qs.map (·.2),rfl,SqL.of upd_same,ft,k _ (same_upd hD)⟩
def wrow (ns:List Str) (ps:List (Str × Str)):Str:=Txt.join sm2 (headT (srt ns)::ps.map rowT)
theorem brk_free {c:Nat} (h:c=32\/c=62\/(97<=c/\c<=122)):Unicode.isLineBreak c=false:=by
 have:∀ c,c < 123->(c=32\/c=62\/(97<=c/\c<=122))->Unicode.isLineBreak c=false:=by decide +kernel
 exact this c (by omega) h
theorem jn_mem {sep:List Nat} {c:Nat}:∀ {l:List (List Nat)},c∈jn sep l->c∈sep\/∃ x∈l,c∈x
 | [],h=>nomatch h
 | [x],h=>.inr ⟨x,List.mem_cons_self,h⟩
 | x::y::r,h=>by
  have h':c∈x++sep++jn sep (y::r):=h
  rw [List.mem_append,List.mem_append] at h'
  rcases h' with (h1 | h1) | h1
  ·exact .inr ⟨x,List.mem_cons_self,h1⟩
  ·exact .inl h1
  ·rcases jn_mem h1 with q | ⟨z,hz,q⟩
   ·exact .inl q
   ·exact .inr ⟨z,List.mem_cons_of_mem _ hz,q⟩
theorem nm_sign {z:Str} (h:nm z=true) {c:Nat} (hc:c∈cs z):c=32\/c=62\/(97<=c/\c<=122):=.inr (.inr (nm_all h hc))
theorem head_sign {ms:List Str} (h:∀ z∈ms,nm z=true) {c:Nat} (hc:c∈cs (headT ms)):c=32\/c=62\/(97<=c/\c<=122):=by
 unfold headT at hc
 rw [show Txt.join bl1 (plc::ms)=Str.join bl1 (plc::ms) from StrLaws.glued_eq_join _ _,cs_join] at hc
 rcases jn_mem hc with q | ⟨x,hx,q⟩
 ·rw [show cs bl1=[32] from by decide +kernel] at q
  exact .inl (List.mem_singleton.mp q)
 ·rw [List.map_cons] at hx
  rcases List.mem_cons.mp hx with e | e
  ·rw [e,cs_plc] at q
   have:∀ c∈[112,108,97,99,101,115],97<=c/\c<=122:=by decide
   exact .inr (.inr (this c q))
  ·obtain ⟨z,hz,rfl⟩:=List.mem_map.mp e
   exact nm_sign (h z hz) q
theorem row_sign {p:Str × Str} (h1:nm p.1=true) (h2:nm p.2=true) {c:Nat} (hc:c∈cs (rowT p)):c=32\/c=62\/(97<=c/\c<=122):=by
 unfold rowT at hc
 rw [cs_app,cs_app,cs_gt3,List.mem_append,List.mem_append] at hc
 rcases hc with (q | q) | q
 ·exact nm_sign h1 q
 ·have:∀ c∈[32,62,32],c=32\/c=62:=by decide
  rcases this c q with r | r
  ·exact .inl r
  ·exact .inr (.inl r)
 ·exact nm_sign h2 q
theorem rows_sign {ms:List Str} {ps:List (Str × Str)} (h:∀ z∈ms,nm z=true) (hp:∀ p∈ps,nm p.1=true/\nm p.2=true):∀ r∈headT ms::ps.map rowT,∀ c∈cs r,c=32\/c=62\/(97<=c/\c<=122):=fun r hr c hc=>by
 rcases List.mem_cons.mp hr with e | e
 ·rw [e] at hc
  exact head_sign h hc
 ·obtain ⟨p,hp',rfl⟩:=List.mem_map.mp e
  exact row_sign (hp p hp').1 (hp p hp').2 hc
theorem jn_lined:∀ {l:List (List Nat)},l≠[]->jn [10] l++[10]=lined l
 | [],h=>absurd rfl h
 | [x],_=>by simp [jn,lined]
 | x::y::r,_=>by
  show x++[10]++jn [10] (y::r)++[10]=_
  rw [List.append_assoc,jn_lined (by simp)]
  simp [lined]
theorem text_lined (ns:List Str) (ps:List (Str × Str)):cs (wtext ns ps)=lined ((headT (srt ns)::ps.map rowT).map cs):=by
 unfold wtext
 rw [cs_app,show Txt.join nl1 (headT (srt ns)::ps.map rowT)=Str.join nl1 (headT (srt ns)::ps.map rowT) from StrLaws.glued_eq_join _ _,cs_join,show cs nl1=[10] from by decide +kernel]
 exact jn_lined (by simp)
theorem wrow_split {ns:List Str} {ps:List (Str × Str)} (g:GoodW ns ps):Txt.split (wrow ns ps) sm2=headT (srt ns)::ps.map rowT:=by
 unfold wrow
 refine split_sm2 (by simp) fun x hx m=>?_
 have:=rows_sign (ms:=srt ns) (fun z hz=>g.good.nms z (srt_mem.mp hz)) g.nmp x hx 59 m
 omega
theorem wrow_sum {ns:List Str} {ps:List (Str × Str)} (g:GoodW ns ps):((headT (srt ns)::ps.map rowT).map (·.length)).sum+(headT (srt ns)::ps.map rowT).length * sm2.length<=1100:=by
 have rs:=rows_sum (ms:=srt ns) (fun z hz=>g.good.nms z (srt_mem.mp hz)) (by rw [srt_len];exact g.good.few) g.nmp g.few
 have e1:nl1.length=1:=by decide +kernel
 rw [e1] at rs
 rw [len_sm2]
 have:=g.few
 simp only [List.length_cons,List.length_map] at rs ⊢
 omega
theorem wrow_len {ns:List Str} {ps:List (Str × Str)} (g:GoodW ns ps):(wrow ns ps).length<=1100:=Nat.le_trans (join_le _ _) (wrow_sum g)
def spSW (C:Addr):Sp:=fun vs H Q _=>∃ (x:Addr) (ns:List Str) (ps:List (Str × Str)),vs=[.ref x]/\WebObj C H x ns ps/\GoodW ns ps/\∀ H',Same H H'->Q (.str (wrow ns ps)) H'
theorem scSW:FnScope ["web"] ["web"] (defScope sSW):=⟨rfl,rfl,rfl,by decide +kernel,rfl,by decide +kernel,by decide +kernel⟩
theorem ok_sw {f:Addr} {fd:FuncData} (F:Fun K "show_web" "show_web" sSW f fd) (DT:Df K mg "web_text" sWText ["web"] fWT fdWT) (GT:FnOk P w K mg base CX0 2 fWT fdWT ["web"] (spWT C)):FnOk P w K mg base CX0 3 f fd ["web"] (spSW C):=by
 refine F.ok scSW (fun vs H Q E h=>?_) (fun cdv A outer s H vs Q E hr h=>?_)
 ·obtain ⟨x,ns,ps,rfl,_⟩:=h
  rfl
 ·obtain ⟨x,ns,ps,rfl,hW,g,k⟩:=h
  refine ⟨_,pss_one (ps_ret (pe_bm PySem.F.plainAttrs_str PySem.F.slot_str_join PySem.F.type_str_join mt_join pe_str (pa_cons (pe_bm0 PySem.F.plainAttrs_str PySem.F.slot_str_splitlines PySem.F.type_str_splitlines mt_splitlines (pe_call GT hr rfl DT.mgf DT.fn.kp DT.b .nil pass0 (pa_cons (pv 0) pa_nil))) pa_nil))),?_⟩
  have gS:∀ z∈srt ns,nm z=true:=fun z hz=>g.good.nms z (srt_mem.mp hz)
  have tl:=text_len g.good.nms g.good.few g.nmp g.few
  have big:2000<=sizeLine:=by decide
  refine ⟨rfl,_,rfl,x,ns,ps,rfl,hW,g,fun H1 s1=>?_⟩
  refine ⟨rfl,wtext ns ps,headT (srt ns)::ps.map rowT,rfl,rfl,text_lined ns ps,fun r hr c hc=>brk_free (rows_sign gS g.nmp r hr c hc),by simp,by omega,?_,fun l n1=>?_⟩
  ·have:=g.few
   simp only [List.length_cons,List.length_map]
   omega
  ·exact ⟨sm2,l,_,rfl,rfl,SqL.of upd_same,Nat.le_trans (wrow_sum g) (by decide),k _ (s1.trans (same_upd n1))⟩
def spRR (C:Addr):Sp:=fun vs H Q _=>∃ (ns:List Str) (ps:List (Str × Str)),vs=[.str (wrow ns ps)]/\GoodW ns ps/\∀ y H',WebObj C H' y (srt ns) ps->Same H H'->Q (.ref y) H'
abbrev nRR:List Str:=["text","web"]
theorem scRR:FnScope nRR ["text"] (defScope sRR):=⟨rfl,rfl,rfl,by decide +kernel,rfl,by decide +kernel,by decide +kernel⟩
theorem ok_rr {f:Addr} {fd:FuncData} (F:Fun K "read_row" "read_row" sRR f fd) (DR:Df K mg "read_web" sRead ["text"] fRW fdRW) (GR:FnOk P w K mg base CX0 7 fRW fdRW ["text"] (spRW C)) (DW:Df K mg "show_web" sSW ["web"] fSW fdSW) (GW:FnOk P w K mg base CX0 3 fSW fdSW ["web"] (spSW C)) (T:Glb mg):FnOk P w K mg base CX0 8 f fd ["text"] (spRR C):=by
 refine F.ok scRR (fun vs H Q E h=>?_) (fun cdv A outer s H vs Q E hr h=>?_)
 ·obtain ⟨ns,ps,rfl,_⟩:=h
  rfl
 ·obtain ⟨ns,ps,rfl,g,k⟩:=h
  have h3:=hr.mono (j:=3) (by decide)
  refine ⟨_,pss_cons (ps_if (pt_not (pt_val (pe_callB (call_isinst (T:="str")) (by rfl) T.isinst boot_isinstance (pa_cons (pv 0) (pa_cons (pe_bltn (v:=.ty "str") rfl T.str PyProof.Rows.boot_str rfl) pa_nil))) (fun _=>rfl))) (pss_one ps_never) pss_nil)
   (pss_cons (ps_set (i:=1) scRR.nd rfl (Or.inl rfl) (pe_call GR hr rfl DR.mgf DR.fn.kp DR.b .nil pass0 (pa_cons (pe_op op_add_str (pe_bm PySem.F.plainAttrs_str PySem.F.slot_str_join PySem.F.type_str_join mt_join pe_str (pa_cons (pe_bm PySem.F.plainAttrs_str PySem.F.slot_str_split PySem.F.type_str_split mt_split (pv 0) (pa_cons pe_str pa_nil)) pa_nil)) pe_str) pa_nil)))
   (pss_cons (ps_if (pt_cmpR op_ne (pe_call GW h3 rfl DW.mgf DW.fn.kp DW.b .nil pass0 (pa_cons (pv 1) pa_nil)) (pv 0) (nomark _)) (pss_one ps_never) pss_nil)
   (pss_one (ps_ret (pv 1))))),?_⟩
  have ws:=wrow_split g
  have wl:=wrow_len g
  have big:2000<=sizeLine:=by decide
  have gS:∀ z∈srt ns,nm z=true:=fun z hz=>g.good.nms z (srt_mem.mp hz)
  have rs:=rows_sum (ms:=srt ns) gS (by rw [srt_len];exact g.good.few) g.nmp g.few
  have gW:GoodW (srt ns) ps:=⟨⟨by rw [srt_len];exact g.good.one,by rw [srt_len];exact g.good.few,gS,srt_nd g.good.nd⟩,g.inS,g.few⟩
  have ss:srt (srt ns)=srt ns:=(srt_of (List.Perm.refl _) (srt_pw ns)).symm
  refine ⟨_,rfl,_,_,true,rfl,.str _,rfl,_,rfl,iteF ?_⟩
  refine ⟨rfl,_,rfl,rfl,wrow ns ps,sm2,rfl,rfl,rfl,by omega,?_,fun l1 n1=>?_⟩
  ·rw [ws,List.length_cons,List.length_map]
   have:=g.few
   omega
  rw [ws]
  refine ⟨nl1,l1,_,rfl,rfl,SqL.of upd_same,Nat.le_trans rs (by decide),_,_,rfl,rfl,?_,?_⟩
  ·have:=join_le nl1 (headT (srt ns)::ps.map rowT)
   rw [show (Str.ofString "\n").length=1 from by decide +kernel]
   omega
  refine ⟨ns,ps,rfl,g,fun y H2 W2 s2=>?_⟩
  refine ⟨_,rfl,y,srt ns,ps,rfl,W2,gW,fun H3 s3=>⟨_,rfl,rfl,_,rfl,?_⟩⟩
  rw [show wrow (srt ns) ps=wrow ns ps from by unfold wrow;rw [ss],decide_eq_true rfl]
  exact iteF ⟨_,rfl,k y H3 (W2.same s3) ((same_upd n1).trans (s2.trans s3))⟩
end
end K90
namespace L2
open PySem PySem.Spec PyProof.Rows
section
variable {X:Cx}
end
section
variable {prog:Program} {w:World} {A:Around} {E:Value->Shared->Prop} {s:Shared}
theorem nt_item {it t:Addr} {i:Nat} {items:Array Value} {x:Value} {Q:Value->Shared->Prop} (hit:IsTupIter s.heap it t i) (ht:IsTup s.heap t items) (hx:items[i]?=some x)
  (hQ:∀ h',IsTupIter h' it t (i+1)->Heap.SameBut it s.heap h'->Q x { s with heap:=h' }):wpAny (model prog w) A (Builtin.SmallTypes.nextOf (.ref it)) Q E s:=by
 obtain ⟨o,ho,hc,hd⟩:=id hit
 obtain ⟨ol,hol,_,nl,hdl⟩:=ht
 unfold Builtin.SmallTypes.nextOf
 refine wpAny_bind (wpAny_callSpecial?_slot (name:=Str.ofString "__next__") hit.typeIs slot_tupleiter_next (wpAny_call_entry slot_tupleiter_next hit.typeIs entry_tupleiter_next ?_ (args_tupleiter_next _)))
 show wpAny _ _ (field (.ref it) 0 >>= _) _ _ s
 refine wpAny_bind (wpAny_field ho hd (x:=.ref t) rfl ?_)
 show wpAny _ _ (if (Value.ref t == Value.none)=true then _ else _) _ _ s
 rw [if_neg (show ¬ ((Value.ref t == Value.none)=true) from Bool.false_ne_true)]
 show wpAny _ _ (field (.ref it) 1 >>= _) _ _ s
 refine wpAny_bind (wpAny_field ho hd (x:=.int i 0) rfl ?_)
 show wpAny _ _ (seqItems? (.ref t) >>= _) _ _ s
 refine wpAny_bind (wpAny_seqItems hol hdl ?_)
 simp only [Int.toNat_natCast,hx]
 refine wpAny_bind (wpAny_setField ho hd (by simp) (wpAny_pure ⟨x,rfl,wpAny_pure (hQ _ ?_ (Heap.SameBut.update ..))⟩))
 exact ⟨_,Heap.get?_update_self _ ho (Obj.isFreed_of_fields (Obj.data_mapFields hd _)),(Obj.cls_mapFields ..).trans hc,by rw [Obj.data_mapFields hd];simp [rawInt]⟩
theorem nt_end {it t:Addr} {i:Nat} {items:Array Value} {Q:Value->Shared->Prop} (hh:A.handled=none) (hit:IsTupIter s.heap it t i) (ht:IsTup s.heap t items) (hx:items[i]?=none)
  (hE:∀ h' e,Heap.ExtBut it s.heap h'->(∃ o,h'.get? e=some o/\o.cls=.type "StopIteration")->E (.ref e) { s with heap:=h' }):wpAny (model prog w) A (Builtin.SmallTypes.nextOf (.ref it)) Q E s:=by
 obtain ⟨o,ho,hc,hd⟩:=id hit
 obtain ⟨ol,hol,_,nl,hdl⟩:=ht
 unfold Builtin.SmallTypes.nextOf
 refine wpAny_bind (wpAny_callSpecial?_slot (name:=Str.ofString "__next__") hit.typeIs slot_tupleiter_next (wpAny_call_entry slot_tupleiter_next hit.typeIs entry_tupleiter_next ?_ (args_tupleiter_next _)))
 show wpAny _ _ (field (.ref it) 0 >>= _) _ _ s
 refine wpAny_bind (wpAny_field ho hd (x:=.ref t) rfl ?_)
 show wpAny _ _ (if (Value.ref t == Value.none)=true then _ else _) _ _ s
 rw [if_neg (show ¬ ((Value.ref t == Value.none)=true) from Bool.false_ne_true)]
 show wpAny _ _ (field (.ref it) 1 >>= _) _ _ s
 refine wpAny_bind (wpAny_field ho hd (x:=.int i 0) rfl ?_)
 show wpAny _ _ (seqItems? (.ref t) >>= _) _ _ s
 refine wpAny_bind (wpAny_seqItems hol hdl ?_)
 simp only [Int.toNat_natCast,hx]
 refine wpAny_bind (wpAny_rule (wpAny_bind (wpAny_setField ho hd (by simp) ?_)))
 show wpAny _ _ (newExc (.type "StopIteration") [] >>= _) _ _ _
 refine wpAny_bind ?_
 simp only [newExc,newTuple]
 refine wpAny_bind (wpAny_newObj_type ?_ (by size_fits))
 refine wpAny_bind (m:=firstArgMember _ _) (wpAny_of_eq (a:=Value.none) (by first | rfl | (simp only [firstArgMember];rfl)) ?_)
 refine wpAny_newObj_type ?_ (by size_fits)
 simp only [raiseNew]
 refine wpAny_bind (wpAny_handled ?_)
 first | rw [show A.in1.handled=none from hh] | rw [hh]
 refine wpAny_bind (wpAny_pure (wpAny_throw ?_))
 exact hE _ _ (((Heap.SameBut.update ..).extBut.push _).push _) ⟨_,Heap.get?_push_size _ rfl,rfl⟩
theorem IsTup.sb {h h':Heap} {a b:Addr} {xs:Array Value} (x:IsTup h a xs) (k:Heap.ExtBut b h h') (n:a≠b):IsTup h' a xs:=let ⟨o,e,r⟩:=x;⟨o,k a o n e,r⟩
theorem zt_item {z TI TO i1 i2 l1 l2:Addr} {k1 k2:Nat} {xs ys:Array Value} {x y a b:Value} {Q:Value->Shared->Prop} (D:ZipApart z TI TO i1 i2 l1 l2)
  (hz:IsZip s.heap z TI TO .none) (hTI:IsPair s.heap TI (.ref i1) (.ref i2)) (hTO:IsPair s.heap TO a b)
  (h1:IsTupIter s.heap i1 l1 k1) (h2:s.heap.IsListIter i2 l2 k2) (hl1:IsTup s.heap l1 xs) (hl2:s.heap.IsList l2 ys) (hx:xs[k1]?=some x) (hy:ys[k2]?=some y)
  (hQ:∀ h',IsZip h' z TI TO (rawInt s.heap.objs.size)->IsPair h' TO x y->IsTupIter h' i1 l1 (k1+1)->h'.IsListIter i2 l2 (k2+1)->IsPair h' s.heap.objs.size x y->h'.objs.size=s.heap.objs.size+1 ->
   (∀ c o,c≠z->c≠TO->c≠i1->c≠i2->s.heap.get? c=some o->h'.get? c=some o)->Q (.ref s.heap.objs.size) { s with heap:=h' }) :
  wpAny (model prog w) A (Builtin.«zip.__next__» ⟨[.ref z],[]⟩) (fun fin s'=>∃ v,fin=.done (.ret v)/\Q v s') E s:=by
 show wpAny _ _ (field (.ref z) 2 >>= _) _ _ _
 refine wpAny_bind (wpAny_field hz rfl (x:=.bool false) rfl ?_)
 show wpAny _ _ (field (.ref z) 3 >>= _) _ _ _
 refine wpAny_bind (wpAny_field hz rfl (x:=.ref TI) rfl ?_)
 refine wpAny_bind (wpAny_seqItems hTI rfl ?_)
 show wpAny _ _ (Builtin.SmallTypes.ownedTupleIsFree (.ref z) >>= _) _ _ _
 refine wpAny_bind ?_
 unfold Builtin.SmallTypes.ownedTupleIsFree
 refine wpAny_bind (wpAny_field hz rfl (x:=.none) rfl (wpAny_pure ?_))
 simp only [if_true]
 refine wpAny_bind (wpAny_rule ?_)
 refine wpAny_bind (wpAny_field hz rfl (x:=.ref TO) rfl ?_)
 refine wpAny_bind (wpAny_setField_rec hz (by simp) fun g1 z1 s1=>?_)
 replace z1:IsZip g1 z TI TO .ellipsis:=z1
 refine wpAny_bind ?_
 simp only [List.zipIdx_cons,List.zipIdx_nil,List.forIn_cons,List.forIn_nil]
 refine wpAny_bind (wpAny_bind (wpAny_onRaise ?_))
 show wpAny _ _ (Builtin.SmallTypes.nextOf (.ref i1) >>= _) _ _ _
 refine wpAny_bind (nt_item (h1.extBut s1.extBut D.i1z) (IsTup.sb hl1 s1.extBut D.l1z) hx fun g2 t2 s2=>wpAny_pure ?_)
 have o2:IsPair g2 TO a b:=s2.extBut _ _ D.TOi1 (s1.extBut _ _ D.TOz hTO)
 refine wpAny_bind (wpAny_seqItems o2 rfl ?_)
 refine wpAny_bind (wpAny_updateSeq_pair o2 fun g3 o3 s3=>?_)
 replace o3:IsPair g3 TO x b:=o3
 refine wpAny_bind (wpAny_letGo (wpAny_pure ?_))
 refine wpAny_bind (wpAny_bind (wpAny_onRaise ?_))
 show wpAny _ _ (Builtin.SmallTypes.nextOf (.ref i2) >>= _) _ _ _
 refine wpAny_bind (wpAny_nextOf_list_item (((h2.extBut s1.extBut D.i2z).extBut s2.extBut D.i12.symm).extBut s3.extBut D.TOi2.symm) (((hl2.extBut s1.extBut D.l2z).extBut s2.extBut D.l2i1).extBut s3.extBut D.l2TO) hy fun g4 t4 s4=>wpAny_pure ?_)
 have o4:IsPair g4 TO x b:=s4.extBut _ _ D.TOi2 o3
 refine wpAny_bind (wpAny_seqItems o4 rfl ?_)
 refine wpAny_bind (wpAny_updateSeq_pair o4 fun g5 o5 s5=>?_)
 replace o5:IsPair g5 TO x y:=o5
 refine wpAny_bind (wpAny_letGo (wpAny_pure (wpAny_pure ?_)))
 refine wpAny_bind (wpAny_seqItems o5 rfl ?_)
 refine wpAny_bind (wpAny_newTuple ?_)
 have sz:g5.objs.size=s.heap.objs.size:=by rw [s5.1,s4.1,s3.1,s2.1,s1.1]
 have z5:IsZip g5 z TI TO .ellipsis:=s5.extBut _ _ D.TOz.symm (s4.extBut _ _ D.i2z.symm (s3.extBut _ _ D.TOz.symm (s2.extBut _ _ D.i1z.symm z1)))
 have k5:∀ c o,c≠z->c≠TO->c≠i1->c≠i2->s.heap.get? c=some o->g5.get? c=some o:=fun c o c1 c2 c3 c4 e=>s5.extBut _ _ c2 (s4.extBut _ _ c4 (s3.extBut _ _ c2 (s2.extBut _ _ c3 (s1.extBut _ _ c1 e))))
 have t5:IsTupIter g5 i1 l1 (k1+1):=((t2.extBut s3.extBut D.TOi1.symm).extBut s4.extBut D.i12).extBut s5.extBut D.TOi1.symm
 have u5:g5.IsListIter i2 l2 (k2+1):=t4.extBut s5.extBut D.TOi2.symm
 have zlt:z < g5.objs.size:=Heap.lt_size z5
 show wpAny _ _ (Builtin.SmallTypes.ownedTupleHandOut (.ref z) (.ref g5.objs.size) >>= _) _ _ _
 refine wpAny_bind ?_
 unfold Builtin.SmallTypes.ownedTupleHandOut
 have z6:IsZip (g5.push { cls:=.type "tuple",data:=.seq #[x,y] }) z TI TO .ellipsis:=Heap.get?_push_of_some _ z5
 refine wpAny_bind (wpAny_setField_rec z6 (by simp) fun g7 z7 s7=>?_)
 replace z7:IsZip g7 z TI TO (rawInt g5.objs.size):=z7
 refine wpAny_setField_rec z7 (by simp) fun g8 z8 s8=>?_
 replace z8:IsZip g8 z TI TO (rawInt g5.objs.size):=z8
 have up:∀ c o,c≠z->g5.get? c=some o->g8.get? c=some o:=fun c o c1 e=>s8.extBut _ _ c1 (s7.extBut _ _ c1 (Heap.get?_push_of_some _ e))
 have T8:IsPair g8 g5.objs.size x y:=s8.extBut _ _ (Nat.ne_of_gt zlt) (s7.extBut _ _ (Nat.ne_of_gt zlt) (Heap.get?_push_size _ rfl))
 have sz8:g8.objs.size=g5.objs.size+1:=by rw [s8.1,s7.1,Heap.size_push]
 rw [sz] at z8 T8 sz8
 refine wpAny_pure ⟨_,rfl,?_⟩
 show Q (.ref g5.objs.size) _
 rw [sz]
 exact hQ g8 z8 (up _ _ D.TOz o5) (let ⟨o,ho,r⟩:=t5;⟨o,up _ o D.i1z ho,r⟩) (u5.at fun o e=>up _ o D.i2z e) T8 sz8 fun c o c1 c2 c3 c4 e=>up c o c1 (k5 c o c1 c2 c3 c4 e)
theorem zt_end {z TI TO i1 i2 l1 l2:Addr} {k1:Nat} {xs:Array Value} {a b:Value} {Q:Fin->Shared->Prop} (hh:A.handled=none) (D:ZipApart z TI TO i1 i2 l1 l2)
  (hz:IsZip s.heap z TI TO .none) (hTI:IsPair s.heap TI (.ref i1) (.ref i2)) (hTO:IsPair s.heap TO a b) (h1:IsTupIter s.heap i1 l1 k1) (hl1:IsTup s.heap l1 xs) (hx:xs[k1]?=none)
  (hE:∀ h' e,(∀ c o,c≠z->c≠TO->c≠i1->c≠i2->s.heap.get? c=some o->h'.get? c=some o)->(∃ o,h'.get? e=some o/\o.cls=.type "StopIteration")->E (.ref e) { s with heap:=h' }) :
  wpAny (model prog w) A (Builtin.«zip.__next__» ⟨[.ref z],[]⟩) Q E s:=by
 show wpAny _ _ (field (.ref z) 2 >>= _) _ _ _
 refine wpAny_bind (wpAny_field hz rfl (x:=.bool false) rfl ?_)
 show wpAny _ _ (field (.ref z) 3 >>= _) _ _ _
 refine wpAny_bind (wpAny_field hz rfl (x:=.ref TI) rfl ?_)
 refine wpAny_bind (wpAny_seqItems hTI rfl ?_)
 show wpAny _ _ (Builtin.SmallTypes.ownedTupleIsFree (.ref z) >>= _) _ _ _
 refine wpAny_bind ?_
 unfold Builtin.SmallTypes.ownedTupleIsFree
 refine wpAny_bind (wpAny_field hz rfl (x:=.none) rfl (wpAny_pure ?_))
 simp only [if_true]
 refine wpAny_bind (wpAny_rule ?_)
 refine wpAny_bind (wpAny_field hz rfl (x:=.ref TO) rfl ?_)
 refine wpAny_bind (wpAny_setField_rec hz (by simp) fun g1 z1 s1=>?_)
 replace z1:IsZip g1 z TI TO .ellipsis:=z1
 refine wpAny_bind ?_
 simp only [List.zipIdx_cons,List.zipIdx_nil,List.forIn_cons,List.forIn_nil]
 refine wpAny_bind (wpAny_bind (wpAny_onRaise ?_))
 show wpAny _ _ (Builtin.SmallTypes.nextOf (.ref i1) >>= _) _ _ _
 refine wpAny_bind (nt_end hh (h1.extBut s1.extBut D.i1z) (IsTup.sb hl1 s1.extBut D.l1z) hx fun g2 e s2 he=>?_)
 obtain ⟨oe,hoe,hce⟩:=he
 have z2:IsZip g2 z TI TO .ellipsis:=s2 _ _ D.i1z.symm z1
 have hez:e≠z:=fun x=>by subst x;rw [z2] at hoe;cases hoe;simp at hce
 exact wpAny_setField_rec z2 (by simp) fun g3 _ s3=>hE g3 e (fun c o c1 _ c3 _ x=>s3.extBut _ _ c1 (s2 _ _ c3 (s1.extBut _ _ c1 x))) ⟨oe,s3.extBut _ _ hez hoe,hce⟩
theorem pn_zt_item {z TI TO i1 i2 l1 l2:Addr} {k1 k2:Nat} {xs ys:Array Value} {x y a b:Value} {Q:Option Value->Shared->Prop} (D:ZipApart z TI TO i1 i2 l1 l2)
  (hz:IsZip s.heap z TI TO .none) (hTI:IsPair s.heap TI (.ref i1) (.ref i2)) (hTO:IsPair s.heap TO a b)
  (h1:IsTupIter s.heap i1 l1 k1) (h2:s.heap.IsListIter i2 l2 k2) (hl1:IsTup s.heap l1 xs) (hl2:s.heap.IsList l2 ys) (hx:xs[k1]?=some x) (hy:ys[k2]?=some y)
  (hQ:∀ h',IsZip h' z TI TO (rawInt s.heap.objs.size)->IsPair h' TO x y->IsTupIter h' i1 l1 (k1+1)->h'.IsListIter i2 l2 (k2+1)->IsPair h' s.heap.objs.size x y->h'.objs.size=s.heap.objs.size+1 ->
   (∀ c o,c≠z->c≠TO->c≠i1->c≠i2->s.heap.get? c=some o->h'.get? c=some o)->Q (some (.ref s.heap.objs.size)) { s with heap:=h' }) :
  wpAny (model prog w) A (pyNext (.ref z)) Q E s:=by
 have hT:s.TypeIs (.ref z) "zip" := ⟨_,hz,rfl⟩
 unfold pyNext
 exact wpAny_bind (wpAny_attempt (wpAny_callSpecial?_slot (name:=Str.ofString "__next__") hT PySem.F.slot_zip_next (wpAny_call_entry PySem.F.slot_zip_next hT PySem.F.entry_zip_next
  (zt_item D hz hTI hTO h1 h2 hl1 hl2 hx hy fun h' a1 a2 a3 a4 a5 a6 a7=>wpAny_pure (hQ h' a1 a2 a3 a4 a5 a6 a7)) (PySem.F.args_zip_next_1 _))))
theorem pn_zt_end {z TI TO i1 i2 l1 l2:Addr} {k1:Nat} {xs:Array Value} {a b:Value} {Q:Option Value->Shared->Prop} (hh:A.handled=none) (D:ZipApart z TI TO i1 i2 l1 l2)
  (hz:IsZip s.heap z TI TO .none) (hTI:IsPair s.heap TI (.ref i1) (.ref i2)) (hTO:IsPair s.heap TO a b) (h1:IsTupIter s.heap i1 l1 k1) (hl1:IsTup s.heap l1 xs) (hx:xs[k1]?=none)
  (hQ:∀ h',(∀ c o,c≠z->c≠TO->c≠i1->c≠i2->s.heap.get? c=some o->h'.get? c=some o)->Q none { s with heap:=h' }):wpAny (model prog w) A (pyNext (.ref z)) Q E s:=by
 have hT:s.TypeIs (.ref z) "zip" := ⟨_,hz,rfl⟩
 unfold pyNext
 refine wpAny_bind (wpAny_attempt (wpAny_callSpecial?_slot (name:=Str.ofString "__next__") hT PySem.F.slot_zip_next (wpAny_call_entry PySem.F.slot_zip_next hT PySem.F.entry_zip_next
  (zt_end hh D hz hTI hTO h1 hl1 hx fun h' e hk he=>?_) (PySem.F.args_zip_next_1 _))))
 obtain ⟨o,ho,hc⟩:=he
 refine wpAny_bind (wpAny_isInstance (T:="StopIteration") (b:=true) ⟨o,ho,hc⟩ isSubtype_stop ?_)
 exact wpAny_pure (hQ _ hk)
end
abbrev zt1 (h:Heap) (l1:Addr):Heap:=h.push { cls:=.type "tuple_iterator",data:=.fields #[.ref l1,.int 0 0] }
abbrev zt2 (h:Heap) (l1 l2:Addr):Heap:=(zt1 h l1).push { cls:=.type "list_iterator",data:=.fields #[.ref l2,.int 0 0] }
abbrev zt3 (h:Heap) (l1 l2:Addr):Heap:=(zt2 h l1 l2).push { cls:=.type "tuple",data:=.seq #[.ref h.objs.size,.ref (zt1 h l1).objs.size] }
abbrev zt4 (h:Heap) (l1 l2:Addr):Heap:=(zt3 h l1 l2).push { cls:=.type "tuple",data:=.seq #[.none,.none] }
abbrev zt5 (h:Heap) (l1 l2:Addr):Heap:=(zt4 h l1 l2).push { cls:=.type "zip",data:=.fields #[.none,.bool false,.bool false,.ref (zt2 h l1 l2).objs.size,.ref (zt3 h l1 l2).objs.size] }
theorem meets_zt (l1 l2:Addr) (xs ys:Array Value):Meets (Builtin.«zip.__new__» ⟨[.type "zip",.ref l1,.ref l2],[]⟩) (fun _ R s=>IsTup s.heap l1 xs/\s.heap.IsList l2 ys/\R (.ok (.ret (.ref (zt4 s.heap l1 l2).objs.size))) { s with heap:=zt5 s.heap l1 l2 }) :=
 .of_wp fun prog w A R s h=>by
  obtain ⟨hp,g,d,tk,os⟩:=s;obtain ⟨hl1,hl2,h⟩:=h
  have hsub:=sub_zip
  have hL1:IsTup (Shared.heap ⟨hp,g,d,tk,os⟩) l1 xs:=hl1
  have hL2:Heap.IsList (Shared.heap ⟨hp.push { cls:=.type "tuple_iterator",data:=.fields #[.ref l1,.int 0 0] },g,d,tk,os⟩) l2 ys:=Heap.IsList.push hl2 _
  wp_walk using iter_tuple hL1,wpAny_pyIter_list hL2
  exact ⟨_,rfl,h⟩
section
variable {prog:Program} {w:World} {A:Around} {E:Value->Shared->Prop} {s:Shared}
theorem call_zt {l1 l2:Addr} {xs ys:Array Value} {Q:Value->Shared->Prop} (hl1:IsTup s.heap l1 xs) (hl2:s.heap.IsList l2 ys)
  (h:∀ h',IsZip h' (s.heap.objs.size+4) (s.heap.objs.size+2) (s.heap.objs.size+3) .none->IsPair h' (s.heap.objs.size+2) (.ref s.heap.objs.size) (.ref (s.heap.objs.size+1)) ->
   IsPair h' (s.heap.objs.size+3) .none .none->IsTupIter h' s.heap.objs.size l1 0->h'.IsListIter (s.heap.objs.size+1) l2 0->h'.objs.size=s.heap.objs.size+5 ->
   (∀ c o,s.heap.get? c=some o->h'.get? c=some o)->Q (.ref (s.heap.objs.size+4)) { s with heap:=h' }) :
  wpAny (model prog w) A (call (.type "zip") [.ref l1,.ref l2]) Q E s:=by
 refine callType_new PySem.F.called_zip (by decide) (PySem.F.typeCall_zip_2 _ _) (PySem.F.newCall_zip_2 _ _) (fun obj=>PySem.F.args_object_init_3 obj _ _) PySem.F.entry_zip_new (meets_zt l1 l2 xs ys) ⟨hl1,hl2,?_⟩
 have z1:(zt1 s.heap l1).objs.size=s.heap.objs.size+1:=Heap.size_push ..
 have z2:(zt2 s.heap l1 l2).objs.size=s.heap.objs.size+2:=by rw [Heap.size_push,z1]
 have z3:(zt3 s.heap l1 l2).objs.size=s.heap.objs.size+3:=by rw [Heap.size_push,z2]
 have z4:(zt4 s.heap l1 l2).objs.size=s.heap.objs.size+4:=by rw [Heap.size_push,z3]
 have z5:(zt5 s.heap l1 l2).objs.size=s.heap.objs.size+5:=by rw [Heap.size_push,z4]
 have g5:(zt5 s.heap l1 l2).get? (zt4 s.heap l1 l2).objs.size=some _:=Heap.get?_push_size _ rfl
 have g4:(zt5 s.heap l1 l2).get? (zt3 s.heap l1 l2).objs.size=some _:=Heap.get?_push_of_some _ (Heap.get?_push_size _ rfl)
 have g3:(zt5 s.heap l1 l2).get? (zt2 s.heap l1 l2).objs.size=some _:=Heap.get?_push_of_some _ (Heap.get?_push_of_some _ (Heap.get?_push_size _ rfl))
 have g2:(zt5 s.heap l1 l2).get? (zt1 s.heap l1).objs.size=some _:=Heap.get?_push_of_some _ (Heap.get?_push_of_some _ (Heap.get?_push_of_some _ (Heap.get?_push_size _ rfl)))
 have g1:(zt5 s.heap l1 l2).get? s.heap.objs.size=some _:=Heap.get?_push_of_some _ (Heap.get?_push_of_some _ (Heap.get?_push_of_some _ (Heap.get?_push_of_some _ (Heap.get?_push_size _ rfl))))
 show _/\_
 rw [z2,z3,z4] at g5
 rw [z1,z2] at g3
 rw [z3] at g4
 rw [z1] at g2
 rw [z4]
 exact ⟨⟨_,g5,rfl⟩,h _ g5 g3 g4 ⟨_,g1,rfl,rfl⟩ ⟨_,g2,rfl,rfl⟩ z5 fun c o x=>Heap.get?_push_of_some _ (Heap.get?_push_of_some _ (Heap.get?_push_of_some _ (Heap.get?_push_of_some _ (Heap.get?_push_of_some _ x))))⟩
end
def IzT (K : PySem.W.Frag) (a b : Addr) : It :=
  ⟨fun i H => ∃ xs x ys y, SqT K H a xs ∧ xs[i]? = some x ∧ SqL K H b ys ∧ ys[i]? = some y, fun i H v H' => ∃ q x y, H q = none ∧ (∀ xs, SqT K H a xs → xs[i]? = some x) ∧ (∀ ys, SqL K H b ys → ys[i]? = some y) ∧ v = .ref q ∧ H' = upd H q (.tup [x, y]),
   fun i H => ∃ xs, SqT K H a xs ∧ xs.length ≤ i⟩
theorem turn_zipT {P:Program} {w:World} {K:PySem.W.Frag} {elts:List Expr} {x1} {tp:Pos} (a b z TI TO i1 i2:Addr) (D:ZipApart z TI TO i1 i2 a b) :
  Turn P w K (.Tuple elts x1 tp) (IzT K a b) [z,TO,i1,i2,TI] z (fun i h=>IsZip h z TI TO .none/\IsPair h TI (.ref i1) (.ref i2)/\(∃ u v,IsPair h TO u v)/\IsTupIter h i1 a i/\h.IsListIter i2 b i) where
 mem:=by simp
 obj:=fun i h st c hc=>by
  obtain ⟨hz,hTI,⟨u,v,hTO⟩,⟨o1,g1,_,d1⟩,o2,g2,_,d2⟩:=st
  simp only [List.mem_cons,List.not_mem_nil,or_false] at hc
  rcases hc with rfl | rfl | rfl | rfl | rfl
  ·exact ⟨_,hz,fun v z=>nomatch z⟩
  ·exact ⟨_,hTO,fun v z=>nomatch z⟩
  ·exact ⟨o1,g1,fun v z=>by rw [d1] at z;cases z⟩
  ·exact ⟨o2,g2,fun v z=>by rw [d2] at z;cases z⟩
  ·exact ⟨_,hTI,fun v z=>nomatch z⟩
 keep:=fun i h h' st k=>by
  obtain ⟨hz,hTI,⟨u,v,hTO⟩,h1,h2⟩:=st
  exact ⟨k z (by simp) _ hz,k TI (by simp) _ hTI,⟨u,v,k TO (by simp) _ hTO⟩,(let ⟨o,ho,r⟩:=h1;⟨o,k i1 (by simp) o ho,r⟩),h2.at fun o q=>k i2 (by simp) o q⟩
 item:=by
  intro X hP hw hK hc i pins s σ H E I hf st hg
  subst hP hw hK
  obtain ⟨hz,hTI,⟨u0,v0,hTO⟩,h1,h2⟩:=st
  obtain ⟨xs,x,ys,y,hq,hx,hr,hy⟩:=hg
  obtain ⟨its,rv,p,_⟩:=I.tuple hq
  obtain ⟨its2,rv2,p2,_⟩:=I.list hr
  obtain ⟨u,hu,ru⟩:=rv.get hx
  obtain ⟨v,hv,ru2⟩:=rv2.get hy
  have f1:=hf z (by simp)
  have f2:=hf TO (by simp)
  have f3:=hf i1 (by simp)
  have f4:=hf i2 (by simp)
  have f5:=hf TI (by simp)
  refine pn_zt_item D hz hTI hTO h1 h2 p p2.isList (x:=u) (y:=v) (by simpa using hu) (by simpa using hv) fun h' a1 a2 a3 a4 a5 a6 k1=>⟨_,rfl,?_⟩
  refine wpAny_letOwnedTupleGo_zip a1 fun h2' e2 sb=>?_
  have nq:∀ {b:Addr} {o:Obj},s.heap.get? b=some o->b≠s.heap.objs.size:=fun {b o} q=>Nat.ne_of_lt (Heap.lt_size q)
  have nz:=nq hz
  have nTO:=nq hTO
  have nTI:=nq hTI
  have n1:i1≠s.heap.objs.size:=let ⟨o,q,_⟩:=h1;nq q
  have n2:i2≠s.heap.objs.size:=let ⟨o,q,_⟩:=h2;nq q
  have hn:H s.heap.objs.size=none:=I.hok.fresh (Nat.le_refl _)
  have kk:∀ c o,c≠z->c≠TO->c≠i1->c≠i2->s.heap.get? c=some o->h2'.get? c=some o:=fun c o c1 c2 c3 c4 q=>sb.extBut _ _ c1 (k1 c o c1 c2 c3 c4 q)
  have tq:h2'.get? s.heap.objs.size=some { cls:=.type "tuple",data:=.seq #[u,v] }:=sb.extBut _ _ (Ne.symm nz) a5
  have hH:∀ c o,H c=some o->c≠z/\c≠TO/\c≠i1/\c≠i2/\c≠s.heap.objs.size:=fun c o q=>⟨ne_of_none q f1.1,ne_of_none q f2.1,ne_of_none q f3.1,ne_of_none q f4.1,ne_of_none q hn⟩
  refine ⟨.ref s.heap.objs.size,upd H s.heap.objs.size (.tup [x,y]),?_,rfl,⟨_,x,y,hn,fun zs hy'=>by rw [I.tuple_inj hy' hq];exact hx,fun zs hy'=>by rw [I.list_inj hy' hr];exact hy,rfl,rfl⟩,
   ⟨e2,sb.extBut _ _ D.TIz (k1 _ _ D.TIz D.TITO D.TIi1 D.TIi2 hTI),⟨_,_,sb.extBut _ _ D.TOz a2⟩,a3.extBut sb.extBut D.i1z,a4.extBut sb.extBut D.i2z⟩,fun b hb=>?_⟩
  ·refine Inv.call' (ch:=[z,TO,i1,i2]) I (s':={ s with heap:=h2' }) rfl ⟨fun b ob q n hb hx=>?_,fun b ob q n hb hx=>?_,fun b ob q n hx=>?_,fun b ob q hx=>?_,fun b ys q=>?_,fun b ob ys q=>?_,fun b ps q=>⟨#[],?_⟩⟩ ?_ I.bare fun b hb=>?_
   ·exact kk b ob (fun z=>hx (by simp [z])) (fun z=>hx (by simp [z])) (fun z=>hx (by simp [z])) (fun z=>hx (by simp [z])) q
   ·exact ⟨ob.slots,kk b ob (fun z=>hx (by simp [z])) (fun z=>hx (by simp [z])) (fun z=>hx (by simp [z])) (fun z=>hx (by simp [z])) q⟩
   ·rw [upd_ne (nq q)];exact n
   ·exact ⟨ob,kk b ob (fun z=>hx (by simp [z])) (fun z=>hx (by simp [z])) (fun z=>hx (by simp [z])) (fun z=>hx (by simp [z])) q⟩
   ·rw [upd_ne (hH _ _ q).2.2.2.2];exact q
   ·rw [upd_ne (hH _ _ q).2.2.2.2];exact q
   ·rw [upd_ne (hH _ _ q).2.2.2.2,q];simp
   ·intro b ob q
    by_cases hb:b=s.heap.objs.size
    ·subst hb
     rw [upd_same] at q
     cases q
     exact ⟨by show 2<=sizeLine;decide,[u,v],.cons ru (.cons ru2 .nil),⟨_,tq,rfl,0,rfl⟩⟩
    ·rw [upd_ne hb] at q
     refine (I.hok b ob q).stay (fun c v hc g=>?_) (fun c g=>?_) fun c ys g=>?_
     ·have hc':c≠z/\c≠TO/\c≠i1/\c≠i2/\c≠s.heap.objs.size:=by
       rcases hc with z | z
       ·rw [z];exact hH _ _ q
       ·exact hH _ _ z
      exact kk c v hc'.1 hc'.2.1 hc'.2.2.1 hc'.2.2.2.1 g
     ·rw [upd_ne (hH _ _ g).2.2.2.2];exact g
     ·rw [upd_ne (hH _ _ g).2.2.2.2];exact g
   ·have:b∈([z,TO,i1,i2,TI]:List Addr):=by simp only [List.mem_cons,List.not_mem_nil,or_false] at hb ⊢;exact (hb.elim .inl fun h=>.inr (h.elim .inl fun h=>.inr (h.elim .inl fun h=>.inr (.inl h))))
    have f:=hf b this
    exact ⟨f.2.2.2.1,f.2.1,f.2.2.2.2.1,f.2.2.2.2.2⟩
  ·have lt:b≠s.heap.objs.size:=by
    simp only [List.mem_cons,List.not_mem_nil,or_false] at hb
    rcases hb with rfl | rfl | rfl | rfl | rfl
    ·exact nz
    ·exact nTO
    ·exact n1
    ·exact n2
    ·exact nTI
   rw [upd_ne lt];exact (hf b hb).1
 done:=by
  intro X hP hw hK hc i pins s σ H E I hf st hg
  subst hP hw hK
  obtain ⟨hz,hTI,⟨u0,v0,hTO⟩,h1,h2⟩:=st
  obtain ⟨xs,hq,hx⟩:=hg
  obtain ⟨its,rv,p,_⟩:=I.tuple hq
  have hl:=rv.length
  refine pn_zt_end (I.ok.hd hc) D hz hTI hTO h1 p (by simp;omega) fun h' k=>⟨rfl,?_⟩
  have hH:∀ c o,H c=some o->c≠z/\c≠TO/\c≠i1/\c≠i2:=fun c o q=>⟨ne_of_none q (hf z (by simp)).1,ne_of_none q (hf TO (by simp)).1,ne_of_none q (hf i1 (by simp)).1,ne_of_none q (hf i2 (by simp)).1⟩
  refine Inv.call' (ch:=[z,TO,i1,i2]) I (s':={ s with heap:=h' }) rfl ⟨fun b ob q n hb hx=>?_,fun b ob q n hb hx=>?_,fun b ob q n hx=>n,fun b ob q hx=>?_,fun b ys q=>q,fun b ob ys q=>q,fun b ps q=>⟨#[],?_⟩⟩ ?_ I.bare fun b hb=>?_
  ·exact k b ob (fun z=>hx (by simp [z])) (fun z=>hx (by simp [z])) (fun z=>hx (by simp [z])) (fun z=>hx (by simp [z])) q
  ·exact ⟨ob.slots,k b ob (fun z=>hx (by simp [z])) (fun z=>hx (by simp [z])) (fun z=>hx (by simp [z])) (fun z=>hx (by simp [z])) q⟩
  ·exact ⟨ob,k b ob (fun z=>hx (by simp [z])) (fun z=>hx (by simp [z])) (fun z=>hx (by simp [z])) (fun z=>hx (by simp [z])) q⟩
  ·rw [q];simp
  ·intro b ob q
   refine (I.hok b ob q).stay (fun c v hc g=>?_) (fun c g=>g) fun c ys g=>g
   have hc':c≠z/\c≠TO/\c≠i1/\c≠i2:=by
    rcases hc with z | z
    ·rw [z];exact hH _ _ q
    ·exact hH _ _ z
   exact k c v hc'.1 hc'.2.1 hc'.2.2.1 hc'.2.2.2 g
  ·have:b∈([z,TO,i1,i2,TI]:List Addr):=by simp only [List.mem_cons,List.not_mem_nil,or_false] at hb ⊢;exact (hb.elim .inl fun h=>.inr (h.elim .inl fun h=>.inr (h.elim .inl fun h=>.inr (.inl h))))
   have f:=hf b this
   exact ⟨f.2.2.2.1,f.2.1,f.2.2.2.2.1,f.2.2.2.2.2⟩
 self:=fun _ _ _ _ _ st h=>wpAny_pyIter_zip st.1 h
def iZipT (K:PySem.W.Frag) (ta:TA):TI:=fun σ H R=>ta σ H fun vs H1=>∃ a b,vs=[.ref a,.ref b]/\(∃ xs,SqT K H1 a xs)/\(∃ ys,SqL K H1 b ys)/\R (IzT K a b) H1
section
variable {X:Cx}
theorem pi_zipT {elts:List Expr} {x1} {tp:Pos} {l m:Expr} {ta:TA} {p pos:Pos} (hg:Gl X "zip") (hm:X.mg "zip" = none) (ha:PA X [l,m] ta) (hs:starEach [l,m] X.env=(false,eval l X.env)::starEach [m] X.env:=by rfl) (hp:(backTo pos (starEach [m] X.env)).any (·.1)=false:=by rfl):PI X (.Tuple elts x1 tp) (.Call (.Name "zip" p) [l,m] [] pos) (iZipT X.K ta):=by
 intro pins s σ H R I h
 refine wpAny_Call_Name_kw (ld_blt I hg hm boot_zip ?_)
 refine PyProof.Rows.callWith_type1 (thn (ha pos pins s σ H _ I h) fun us s1 ⟨vs,H1,I1,r1,q1⟩=>?_) hs hp
 obtain ⟨a,b,rfl,⟨xs,hq⟩,⟨ys,hr⟩,q⟩:=q1
 obtain ⟨u,v,rfl,ru,rv⟩:=vals2 r1
 cases ru
 cases rv
 obtain ⟨its,_,pl,_⟩:=I1.tuple hq
 obtain ⟨its2,_,pl2,_⟩:=I1.list hr
 refine call_zt pl pl2.isList fun h' e1 e2 e3 i1 i2 z1 k1=>?_
 refine wpAny_pyIter_zip e1 ?_
 have la:@LT.lt Nat _ a s1.heap.objs.size:=let ⟨o,g,_⟩:=pl;Heap.lt_size g
 have lb:@LT.lt Nat _ b s1.heap.objs.size:=let ⟨o,g,_⟩:=pl2.isList;Heap.lt_size g
 refine ⟨s1.heap.objs.size+4,[s1.heap.objs.size+4,s1.heap.objs.size+3,s1.heap.objs.size,s1.heap.objs.size+1,s1.heap.objs.size+2],_,_,H1,rfl,I1.kept (t':=s1.toks) k1,turn_zipT a b _ _ _ _ _ (zipApart_new la lb),⟨e1,e2,⟨_,_,e3⟩,i1,i2⟩,fun c hc=>?_,q⟩
 have le:@LE.le Nat _ s1.heap.objs.size c:=by
  simp only [List.mem_cons,List.not_mem_nil,or_false] at hc
  rcases hc with z | z | z | z | z<;>rw [z]
  ·exact Nat.le_add_right _ 4
  ·exact Nat.le_add_right _ 3
  ·exact Nat.le_refl _
  ·exact Nat.le_add_right _ 1
  ·exact Nat.le_add_right _ 2
 exact I1.fpOk le (I1.hok.fresh le)
end
theorem lc_zipT {K:PySem.W.Frag} {a b:Addr} {xs zs:List V} {own:List Str} {fr:List Nat} {g:TG} {tt:TT} {te:TE} {σ:St} {Q:VK} {H:Hp} (le:xs.length=zs.length) (Pv:Nat->List V->Hp->Prop) (h0:Pv 0 [] H) (hlen:∀ i ys H,i<=xs.length->Pv i ys H->ys.length<=sizeLine)
  (hl:∀ i ys H,i<=xs.length->Pv i ys H->SqT K H a xs/\SqL K H b zs)
  (hs:∀ i x z ys H q (R:List V->Hp->Prop),xs[i]?=some x->zs[i]?=some z->Pv i ys H->H q=none->(∀ ys' H',Pv (i+1) ys' H'->R ys' H')->g (.ref q) (cSt own fr σ) (upd H q (.tup [x,z])) fun σ4 H4=>tt σ4 H4 fun b H5=>if b=true then te σ4 H5 fun y H6=>R (ys++[y]) H6 else R ys H5)
  (hd:∀ ys H,Pv xs.length ys H->∀ D,H D=none->Q (.ref D) (upd H D (.lst ys))):lcLoop own fr g tt te σ Q (IzT K a b) H:=by
 refine ⟨fun i m ys H=>m=xs.length - i/\i<=xs.length/\Pv i ys H,⟨xs.length,rfl,Nat.zero_le _,h0⟩,?_⟩
 rintro i m ys H2 ⟨rfl,hi,p⟩
 refine ⟨hlen i ys H2 hi p,?_⟩
 obtain ⟨q,q2⟩:=hl i ys H2 hi p
 by_cases h:i < xs.length
 ·refine .inr ⟨⟨xs,xs[i],zs,zs[i]'(by omega),q,by simp [h],q2,by simp⟩,fun x H3 ⟨r,y1,y2,hr,h1,h2,e1,e2⟩=>?_⟩
  subst e1 e2
  exact hs i y1 y2 ys _ r (fun ys' H'=>∃ m',m' < xs.length - i/\(m'=xs.length - (i+1)/\i+1<=xs.length/\Pv (i+1) ys' H')) (h1 xs q) (h2 zs q2) p hr fun ys' H' q=>⟨xs.length - (i+1),by omega,rfl,h,q⟩
 ·have e:i=xs.length:=by omega
  subst e
  exact .inl ⟨⟨xs,q,Nat.le_refl _⟩,hd ys H2 p⟩
end L2
namespace K90
open PySem PySem.Spec PyProof.Rows L2
abbrev sWO:Stmt:=top 129 -- words_of
abbrev sKO:Stmt:=top 130 -- kinds_of
abbrev sAS:Stmt:=top 131 -- as_it_stands
abbrev sRWd:Stmt:=top 136 -- read_word
abbrev sRO:Stmt:=top 137 -- read_order
abbrev tWeb:Str:="web"
abbrev tText:Str:="text"
abbrev kNew:Str:="new"
abbrev kRow:Str:="row"
abbrev kName:Str:="name"
structure Tabs (P:Program) (w:World) (K:PySem.W.Frag) (mg:Str->Option Value) (aF aR aT aM tW tX fA fTT fMW:Addr) (kF kR kT kM:List (Key × V)):Prop where
 dF:DKn P w K aF kF
 dR:DKn P w K aR kR
 dT:DKn P w K aT kT
 dM:DKn P w K aM kM
 gF:mg "FORMS" = some (.ref aF)
 gR:mg "READERS" = some (.ref aR)
 gT:mg "TELLERS" = some (.ref aT)
 gM:mg "MAKERS" = some (.ref aM)
 fW:valV kF (.inr tWeb)=some (.ref tW)
 fX:valV kF (.inr tText)=some (.ref tX)
 sW:∀ H,SqT K H tW [.str kNew,.str kRow]
 sX:∀ H,SqT K H tX [.str kName]
 rN:valV kR (.inr kNew)=some (.ref fA)
 rR:valV kR (.inr kRow)=some (.ref fA)
 rM:valV kR (.inr kName)=some (.ref fA)
 tT:valV kT (.inr tText)=some (.ref fTT)
 tW:valV kT (.inr tWeb)=none
 mW:valV kM (.inr tWeb)=some (.ref fMW)
def Wds (row:Str) (out:List Str):Prop :=
 (∃ (n r:Str),nm n=true/\1<=r.length/\r.length<=1200/\row=Str.ofString "web " ++ n++Str.ofString " " ++ r/\out=[tWeb,n,r]) \/
 ∃ n:Str,nm n=true/\row=Str.ofString "text " ++ n/\out=[tText,n]
theorem jn_len:∀ l:List (List Nat),l.length<=(jn [32] l).length+1
 | []=>by simp
 | [x]=>by simp
 | x::y::r=>by
  have:=jn_len (y::r)
  show (y::r).length+1<=(x++[32]++jn [32] (y::r)).length+1
  rw [List.length_append,List.length_append]
  simp only [List.length_singleton]
  omega
theorem words_web {n r:Str} (hn:nm n=true):Txt.split (Str.ofString "web " ++ n++Str.ofString " " ++ r) bl1=tWeb::n::Txt.split r bl1:=by
 have h1:=StrLaws.join_split r bl1
 have h2:=StrLaws.split_free r 32
 have h3:=split_ne r bl1
 have hb:(⟨#[32]⟩:Str)=bl1:=bl_eq.symm
 rw [hb] at h2
 generalize Txt.split r bl1=m at h1 h2 h3 ⊢
 have e:Str.ofString "web " ++ n++Str.ofString " " ++ r=Txt.join bl1 (tWeb::n::m):=by
  rw [show Txt.join bl1 (tWeb::n::m)=Str.join bl1 (tWeb::n::m) from StrLaws.glued_eq_join _ _]
  refine List.head_eq_of_cons_eq (cs_inj (l:=[_]) (m:=[_]) ?_)
  simp only [List.map_cons,List.map_nil]
  rw [cs_app,cs_app,cs_app,cs_join]
  congr 1
  have em:cs r=jn (cs bl1) (m.map cs):=by rw [<- cs_join,h1]
  have e1:cs (Str.ofString "web ")=cs tWeb++cs bl1:=by decide +kernel
  have e2:cs (Str.ofString " ")=cs bl1:=rfl
  rw [em,e1,e2]
  cases m with
  | nil=>exact absurd rfl h3
  | cons u m =>
   show _=cs tWeb++cs bl1++(cs n++cs bl1++jn (cs bl1) ((u::m).map cs))
   simp only [List.append_assoc]
 rw [e,bl_eq]
 refine split_join (by simp) fun x hx=>?_
 rcases List.mem_cons.mp hx with q | hx
 ·rw [q];decide +kernel
 ·rcases List.mem_cons.mp hx with q | hx
  ·rw [q];exact nm_free hn (by decide)
  ·exact h2 x hx
theorem words_text {n:Str} (hn:nm n=true):Txt.split (Str.ofString "text " ++ n) bl1=[tText,n]:=by
 have e:Str.ofString "text " ++ n=Txt.join bl1 [tText,n]:=by
  rw [show Txt.join bl1 [tText,n]=Str.join bl1 [tText,n] from StrLaws.glued_eq_join _ _]
  refine List.head_eq_of_cons_eq (cs_inj (l:=[_]) (m:=[_]) ?_)
  simp only [List.map_cons,List.map_nil]
  rw [cs_app,cs_join]
  congr 1
 rw [e,bl_eq]
 refine split_join (by simp) fun x hx=>?_
 rcases List.mem_cons.mp hx with q | hx
 ·rw [q];decide +kernel
 ·rw [List.mem_singleton.mp hx];exact nm_free hn (by decide)
section
variable {P:Program} {w:World} {K:PySem.W.Frag} {mg:Str->Option Value} {base:Heap}
def spWO:Sp:=fun vs H Q _=>∃ (row:Str) (out:List Str),vs=[.str row]/\Wds row out/\∀ l H',Same H H'->H' l=some (.lst (out.map V.str))->Q (.ref l) H'
abbrev nWO:List Str:=["row","words"]
theorem scWO:FnScope nWO ["row"] (defScope sWO):=⟨rfl,rfl,rfl,by decide +kernel,rfl,by decide +kernel,by decide +kernel⟩
theorem cut_to2 (x y:V) (l:List V):cutV (x::y::l) none (some 2)=[x,y]:=by
 unfold cutV HT.sIx
 simp
theorem cut_from2 (x y:V) (l:List V):cutV (x::y::l) (some 2) none=l:=by
 unfold cutV HT.sIx
 simp
theorem ok_wo {f:Addr} {fd:FuncData} (F:Fun K "words_of" "words_of" sWO f fd):FnOk P w K mg base CX0 1 f fd ["row"] spWO:=by
 refine F.ok scWO (fun vs H Q E h=>?_) (fun cdv A outer s H vs Q E hr h=>?_)
 ·obtain ⟨row,out,rfl,_⟩:=h
  rfl
 ·obtain ⟨row,out,rfl,wd,k⟩:=h
  refine ⟨_,pss_cons (ps_set (i:=1) scWO.nd rfl (Or.inl rfl) (pe_bm PySem.F.plainAttrs_str PySem.F.slot_str_split PySem.F.type_str_split mt_split (pv 0) (pa_cons pe_str pa_nil)))
   (pss_cons (ps_if (pt_cmpR op_eq (pe_ix ix_list (pv 1) pe_int (fun _ _=>rfl)) pe_str (nomark _))
    (pss_one (ps_ret (pe_op op_cat (pe_slice sl_list (pv 1) po_none (po_some pe_int)) (pe_lst (pa_cons (pe_bm PySem.F.plainAttrs_str PySem.F.slot_str_join PySem.F.type_str_join mt_join pe_str (pa_cons (pe_slice sl_list (pv 1) (po_some pe_int) po_none) pa_nil)) pa_nil))))) pss_nil)
   (pss_one (ps_ret (pv 1)))),?_⟩
  have big:5000<=sizeLine:=by decide
  rcases wd with ⟨n,r,hn,r1,rl,rfl,rfl⟩ | ⟨n,hn,rfl,rfl⟩
  ·have sp:=words_web (r:=r) hn
   have nl:=nm_len hn
   have h1:=StrLaws.join_split r bl1
   have ll:(Txt.split r bl1).length<=r.length+1:=by
    have:=jn_len ((Txt.split r bl1).map cs)
    rw [List.length_map] at this
    have e:=congrArg (fun z=>(cs z).length) h1
    simp only [cs_join] at e
    rw [show cs bl1=[32] from by decide +kernel] at e
    rw [len_cs r]
    omega
   have jn1:(Txt.split r bl1).map (·.length)=(Txt.split r bl1).map (·.length):=rfl
   have sm:((Txt.split r bl1).map (·.length)).sum+(Txt.split r bl1).length * bl1.length<=16777216:=by
    have hs:∀ l:List Str,(l.map (·.length)).sum<=(jn [32] (l.map cs)).length:=by
     intro l
     induction l with
     | nil=>simp
     | cons x l ih =>
      cases l with
      | nil=>simp [jn,len_cs]
      | cons y q =>
       rw [List.map_cons,List.sum_cons]
       show _<=(cs x++[32]++jn [32] ((y::q).map cs)).length
       rw [List.length_append,List.length_append,len_cs x]
       have:=ih
       omega
    have:=hs (Txt.split r bl1)
    have e:=congrArg (fun z=>(cs z).length) h1
    simp only [cs_join] at e
    rw [show cs bl1=[32] from by decide +kernel] at e
    rw [show bl1.length=1 from by decide +kernel]
    rw [len_cs r] at rl ll
    omega
   refine ⟨_,rfl,rfl,_,bl1,rfl,rfl,rfl,?_,?_,fun l1 n1=>?_⟩
   ·rw [app_len,app_len,app_len,show (Str.ofString "web ").length=4 from by decide +kernel,show (Str.ofString " ").length=1 from by decide +kernel]
    omega
   ·rw [sp]
    simp only [List.length_cons]
    omega
   rw [sp]
   have s1:=same_upd (o:=.lst ((tWeb::n::Txt.split r bl1).map V.str)) n1
   have h1':=upd_same (H:=H) (a:=l1) (o:=.lst ((tWeb::n::Txt.split r bl1).map V.str))
   change tSeq _ _ _ _ (upd H l1 (.lst ((tWeb::n::Txt.split r bl1).map V.str)))
   generalize upd H l1 (.lst ((tWeb::n::Txt.split r bl1).map V.str))=H1 at s1 h1' ⊢
   have at0:atI ((tWeb::n::Txt.split r bl1).map V.str) 0=some (V.str tWeb):=atI_nat (j:=0) (by simp)
   refine ⟨_,rfl,l1,_,0,.str tWeb,rfl,rfl,SqL.of h1',at0,rfl,_,rfl,?_⟩
   rw [decide_eq_true rfl]
   have jr:Txt.join bl1 (Txt.split r bl1)=r:=(StrLaws.glued_eq_join _ _).trans h1
   refine iteT ⟨_,rfl,2,rfl,l1,_,rfl,SqL.of h1',fun l2 n2=>?_⟩
   rw [List.map_cons,List.map_cons,cut_to2]
   have s2:=same_upd (o:=.lst [.str tWeb,.str n]) n2
   have h2':=upd_same (H:=H1) (a:=l2) (o:=.lst [.str tWeb,.str n])
   have h12:=s2 _ _ h1'
   generalize upd H1 l2 (.lst [.str tWeb,.str n])=H2 at s2 h2' h12 ⊢
   refine ⟨rfl,_,rfl,2,rfl,l1,_,rfl,SqL.of h12,fun l3 n3=>?_⟩
   rw [List.map_cons,List.map_cons,cut_from2]
   have s3:=same_upd (o:=.lst ((Txt.split r bl1).map V.str)) n3
   refine ⟨bl1,l3,Txt.split r bl1,rfl,rfl,SqL.of upd_same,sm,?_⟩
   rw [jr]
   refine ⟨(show 1<=sizeLine by decide),fun l4 n4=>?_⟩
   have s4:=same_upd (o:=.lst [.str r]) n4
   refine ⟨l2,l4,_,_,rfl,rfl,s4 _ _ (s3 _ _ h2'),upd_same,(by show 2+1<=sizeLine;omega),fun l5 n5=>?_⟩
   exact k l5 _ (s1.trans (s2.trans (s3.trans (s4.trans (same_upd n5))))) upd_same
  ·have sp:=words_text hn
   have nl:=nm_len hn
   refine ⟨_,rfl,rfl,_,bl1,rfl,rfl,rfl,?_,?_,fun l1 n1=>?_⟩
   ·rw [app_len,show (Str.ofString "text ").length=5 from by decide +kernel]
    omega
   ·rw [sp]
    show 2<=sizeLine
    omega
   rw [sp]
   have s1:=same_upd (o:=.lst ([tText,n].map V.str)) n1
   have h1':=upd_same (H:=H) (a:=l1) (o:=.lst ([tText,n].map V.str))
   have at0:atI ([tText,n].map V.str) 0=some (V.str tText):=atI_nat (j:=0) (by simp)
   refine ⟨_,rfl,l1,_,0,.str tText,rfl,rfl,SqL.of h1',at0,rfl,_,rfl,?_⟩
   rw [decide_eq_false (by decide +kernel)]
   exact iteF ⟨_,rfl,k l1 _ s1 h1'⟩
end
section
variable {P:Program} {w:World} {K:PySem.W.Frag} {mg:Str->Option Value} {base:Heap}
variable {aF aR aT aM tW tX fA fTT fMW fWO fKO fRWd:Addr} {kF kR kT kM:List (Key × V)} {fdA fdWO fdKO fdRWd:FuncData}
def spKO (tW tX:Addr):Sp:=fun vs H Q _=>(vs=[.str tWeb,.int 2]/\Q (.ref tW) H)\/(vs=[.str tText,.int 1]/\Q (.ref tX) H)
abbrev nKO:List Str:=["first","many","kinds"]
theorem scKO:FnScope nKO ["first","many"] (defScope sKO):=⟨rfl,rfl,rfl,by decide +kernel,rfl,by decide +kernel,by decide +kernel⟩
theorem ok_ko {f:Addr} {fd:FuncData} (F:Fun K "kinds_of" "kinds_of" sKO f fd) (B:Tabs P w K mg aF aR aT aM tW tX fA fTT fMW kF kR kT kM) (T:Glb mg):FnOk P w K mg base CX0 1 f fd ["first","many"] (spKO tW tX):=by
 refine F.ok scKO (fun vs H Q E h=>?_) (fun cdv A outer s H vs Q E hr h=>?_)
 ·rcases h with ⟨rfl,_⟩ | ⟨rfl,_⟩<;>rfl
 ·refine ⟨_,pss_cons (ps_if (pt_cmp (pc_knotin B.dF (pv 0) (pe_glob (v:=.ref aF) rfl B.gF rfl))) (pss_one ps_never) pss_nil)
   (pss_cons (ps_set (i:=2) scKO.nd rfl (Or.inl rfl) (pe_kget B.dF (pe_glob (v:=.ref aF) rfl B.gF rfl) (pv 0) (fun _ _=>rfl)))
   (pss_cons (ps_if (pt_cmpR op_eq (pe_ix ix_tup (pv 2) (pe_un un_neg pe_int) (fun _ _=>rfl)) pe_str (nomark _)) (pss_one ps_never) pss_nil)
   (pss_cons (ps_if (pt_cmpR op_ne (pe_callB call_len_seq (by rfl) T.len PySem.boot_len (pa_cons (pv 2) pa_nil)) (pv 1) (nomark _)) (pss_one ps_never) pss_nil)
   (pss_one (ps_ret (pv 2)))))),?_⟩
  rcases h with ⟨rfl,k⟩ | ⟨rfl,k⟩
  ·refine ⟨_,rfl,.inr tWeb,rfl,rfl,_,rfl,?_⟩
   rw [B.fW]
   refine iteF ?_
   refine ⟨_,rfl,.inr tWeb,_,rfl,rfl,B.fW,?_⟩
   refine ⟨_,rfl,1,rfl,tW,_,-1,.str kRow,rfl,rfl,B.sW _,rfl,rfl,_,rfl,?_⟩
   rw [decide_eq_false (by decide +kernel)]
   refine iteF ?_
   refine ⟨_,rfl,tW,_,rfl,.inr (B.sW _),_,rfl,rfl,_,rfl,iteF ?_⟩
   exact ⟨_,rfl,k⟩
  ·refine ⟨_,rfl,.inr tText,rfl,rfl,_,rfl,?_⟩
   rw [B.fX]
   refine iteF ?_
   refine ⟨_,rfl,.inr tText,_,rfl,rfl,B.fX,?_⟩
   refine ⟨_,rfl,1,rfl,tX,_,-1,.str kName,rfl,rfl,B.sX _,rfl,rfl,_,rfl,?_⟩
   rw [decide_eq_false (by decide +kernel)]
   refine iteF ?_
   refine ⟨_,rfl,tX,_,rfl,.inr (B.sX _),_,rfl,rfl,_,rfl,iteF ?_⟩
   exact ⟨_,rfl,k⟩
def spAS:Sp:=fun vs H Q _=>∃ z:Str,vs=[.str z]/\Q (.str z) H
theorem scAS:FnScope ["word"] ["word"] (defScope sAS):=⟨rfl,rfl,rfl,by decide +kernel,rfl,by decide +kernel,by decide +kernel⟩
theorem ok_as {f:Addr} {fd:FuncData} (F:Fun K "as_it_stands" "as_it_stands" sAS f fd):FnOk P w K mg base CX0 1 f fd ["word"] spAS:=by
 refine F.ok scAS (fun vs H Q E h=>?_) (fun cdv A outer s H vs Q E hr h=>?_)
 ·obtain ⟨z,rfl,_⟩:=h
  rfl
 ·obtain ⟨z,rfl,k⟩:=h
  exact ⟨_,pss_one (ps_ret (pv 0)),_,rfl,k⟩
def IsKind (z:Str):Prop:=z=kNew\/z=kRow\/z=kName
def spRWd:Sp:=fun vs H Q _=>∃ k z:Str,vs=[.str k,.str z]/\IsKind k/\1<=z.length/\z.length<=2000/\Q (.str z) H
abbrev nRWd:List Str:=["kind","word","reader"]
theorem scRWd:FnScope nRWd ["kind","word"] (defScope sRWd):=⟨rfl,rfl,rfl,by decide +kernel,rfl,by decide +kernel,by decide +kernel⟩
theorem ok_rwd {f:Addr} {fd:FuncData} (F:Fun K "read_word" "read_word" sRWd f fd) (B:Tabs P w K mg aF aR aT aM tW tX fA fTT fMW kF kR kT kM) (DA:Df K mg "as_it_stands" sAS ["word"] fA fdA):FnOk P w K mg base CX0 2 f fd ["kind","word"] spRWd:=by
 have GA:FnOk P w K mg base CX0 1 fA fdA ["word"] spAS:=ok_as DA.fn
 refine F.ok scRWd (fun vs H Q E h=>?_) (fun cdv A outer s H vs Q E hr h=>?_)
 ·obtain ⟨k,z,rfl,_⟩:=h
  rfl
 ·obtain ⟨kd,z,rfl,ik,z1,z2,k⟩:=h
  have h1:=hr.mono (j:=1) (by decide)
  refine ⟨_,pss_cons (ps_if (pt_not (pt_truth (pv 1) (fun _=>rfl))) (pss_one ps_never) pss_nil)
   (pss_cons (ps_set (i:=2) scRWd.nd rfl (Or.inl rfl) (pe_kget B.dR (pe_glob (v:=.ref aR) rfl B.gR rfl) (pv 0) (fun _ _=>rfl)))
   (pss_one (ps_ret (pe_callV GA h1 DA.fn.kp DA.b .nil pass0 (pv 2) (pa_cons (pv 1) pa_nil))))),?_⟩
  have big:5000<=sizeLine:=by decide
  have rk:valV kR (.inr kd)=some (.ref fA):=by
   rcases ik with rfl | rfl | rfl
   ·exact B.rN
   ·exact B.rR
   ·exact B.rM
  refine ⟨_,rfl,true,⟨by omega,?_⟩,iteF ?_⟩
  ·symm
   rw [bne_iff_ne]
   omega
  refine ⟨_,rfl,.inr kd,_,rfl,rfl,rk,?_⟩
  exact ⟨_,rfl,rfl,_,rfl,z,rfl,k⟩
end
section
variable {P:Program} {w:World} {K:PySem.W.Frag} {mg:Str->Option Value} {base:Heap}
variable {aF aR aT aM tW tX fA fTT fMW fWO fKO fRWd:Addr} {kF kR kT kM:List (Key × V)} {fdA fdWO fdKO fdRWd:FuncData}
def Tld (row first:Str) (td:List (Str × Str)):Prop :=
 (∃ (n r:Str),nm n=true/\1<=r.length/\r.length<=1200/\row=Str.ofString "web " ++ n++Str.ofString " " ++ r/\first=tWeb/\td=[(kNew,n),(kRow,r)]) \/
 ∃ n:Str,nm n=true/\row=Str.ofString "text " ++ n/\first=tText/\td=[(kName,n)]
def spRO:Sp:=fun vs H Q _=>∃ (row first:Str) (td:List (Str × Str)),vs=[.str row]/\Tld row first td/\∀ t L us H',Same H H'->H' t=some (.tup [.str first,.ref L])->H' L=some (.lst (us.map V.ref))->TiesAt H' us td->Q (.ref t) H'
abbrev nRO:List Str:=["row","words","kinds"]
theorem scRO:FnScope nRO ["row"] (defScope sRO):=⟨rfl,rfl,rfl,by decide +kernel,rfl,by decide +kernel,by decide +kernel⟩
theorem ok_ro {f:Addr} {fd:FuncData} (F:Fun K "read_order" "read_order" sRO f fd) (B:Tabs P w K mg aF aR aT aM tW tX fA fTT fMW kF kR kT kM) (DW:Df K mg "words_of" sWO ["row"] fWO fdWO) (DK:Df K mg "kinds_of" sKO ["first","many"] fKO fdKO) (DR:Df K mg "read_word" sRWd ["kind","word"] fRWd fdRWd) (DA:Df K mg "as_it_stands" sAS ["word"] fA fdA) (hz:mg "zip" = none) (T:Glb mg):FnOk P w K mg base CX0 3 f fd ["row"] spRO:=by
 have GW:FnOk P w K mg base CX0 1 fWO fdWO ["row"] spWO:=ok_wo DW.fn
 have GK:FnOk P w K mg base CX0 1 fKO fdKO ["first","many"] (spKO tW tX):=ok_ko DK.fn B T
 have GR:FnOk P w K mg base CX0 2 fRWd fdRWd ["kind","word"] spRWd:=ok_rwd DR.fn B DA
 refine F.ok scRO (fun vs H Q E h=>?_) (fun cdv A outer s H vs Q E hr h=>?_)
 ·obtain ⟨row,first,td,rfl,_⟩:=h
  rfl
 ·obtain ⟨row,first,td,rfl,tl,k⟩:=h
  have h1:=hr.mono (j:=1) (by decide)
  obtain ⟨tk,hko,hsq,hkd,few,wds⟩:∃ tk,(∀ (H:Hp) (Q:VK) (E:XK),Q (.ref tk) H->spKO tW tX [.str first,.int td.length] H Q E)/\(∀ H,SqT K H tk ((td.map (·.1)).map V.str))/\(∀ p∈td,IsKind p.1/\1<=p.2.length/\p.2.length<=2000)/\td.length<=2/\Wds row (first::td.map (·.2)):=by
   rcases tl with ⟨n,r,hn,r1,rl,rfl,rfl,rfl⟩ | ⟨n,hn,rfl,rfl,rfl⟩
   ·refine ⟨tW,fun H Q E q=>.inl ⟨rfl,q⟩,B.sW,fun p hp=>?_,(by show 2<=2;decide),.inl ⟨n,r,hn,r1,rl,rfl,rfl⟩⟩
    have nl:=nm_len hn
    have np:=nm_pos hn
    rcases List.mem_cons.mp hp with rfl | hp
    ·exact ⟨.inl rfl,np,by show n.length<=2000;omega⟩
    ·rw [List.mem_singleton.mp hp]
     exact ⟨.inr (.inl rfl),r1,by show r.length<=2000;omega⟩
   ·refine ⟨tX,fun H Q E q=>.inr ⟨rfl,q⟩,B.sX,fun p hp=>?_,(by show 1<=2;decide),.inr ⟨n,hn,rfl,rfl⟩⟩
    have nl:=nm_len hn
    have np:=nm_pos hn
    rw [List.mem_singleton.mp hp]
    exact ⟨.inr (.inr rfl),np,by show n.length<=2000;omega⟩
  refine ⟨_,pss_cons (ps_if (pt_not (pt_val (pe_callB (call_isinst (T:="str")) (by rfl) T.isinst boot_isinstance (pa_cons (pv 0) (pa_cons (pe_bltn (v:=.ty "str") rfl T.str PyProof.Rows.boot_str rfl) pa_nil))) (fun _=>rfl))) (pss_one ps_never) pss_nil)
   (pss_cons (ps_set (i:=1) scRO.nd rfl (Or.inl rfl) (pe_call GW h1 rfl DW.mgf DW.fn.kp DW.b .nil pass0 (pa_cons (pv 0) pa_nil)))
   (pss_cons (ps_set (i:=2) scRO.nd rfl (Or.inl rfl) (pe_call GK h1 rfl DK.mgf DK.fn.kp DK.b .nil pass0 (pa_cons (pe_ix ix_list (pv 1) pe_int (fun _ _=>rfl)) (pa_cons (pe_op op_sub (pe_callB call_len_seq (by rfl) T.len PySem.boot_len (pa_cons (pv 1) pa_nil)) pe_int) pa_nil))))
   (pss_one (ps_ret (pe_tup (pa_cons (pe_ix ix_list (pv 1) pe_int (fun _ _=>rfl)) (pa_cons
    (pe_lc ["kind","word"] [] rfl (compSc (osc:=(defScope sRO).names) (N:=nRO) rfl rfl (by decide +kernel)) (gk_two (K:=K) (k:=2) (by decide) (by decide)) (pi_zipT rfl hz (pa_cons (pv 2) (pa_cons (pe_slice sl_list (pv 1) (po_some pe_int) po_none) pa_nil)))
     (fun _ _ _=>pg_tup rfl (pgs_cons (pg_name (i:=0) (show (["kind","word"]:List Str).Nodup by decide +kernel) rfl (Or.inl rfl)) (pgs_cons (pg_name (i:=1) (show (["kind","word"]:List Str).Nodup by decide +kernel) rfl (Or.inl rfl)) pgs_nil)))
     (fun _ _ _=>pifs_nil)
     (fun _ _ _=>pe_tup (pa_cons (pv 0) (pa_cons (pe_call GR hr rfl DR.mgf DR.fn.kp DR.b .nil pass0 (pa_cons (pv 0) (pa_cons (pv 1) pa_nil))) pa_nil)))) pa_nil))))))),?_⟩
  have big:5000<=sizeLine:=by decide
  refine ⟨_,rfl,_,_,true,rfl,.str _,rfl,_,rfl,iteF ?_⟩
  refine ⟨_,rfl,row,_,rfl,wds,fun l1 H1 s1 hl1=>?_⟩
  have at0:atI ((first::td.map (·.2)).map V.str) 0=some (V.str first):=atI_nat (j:=0) (by simp)
  have ln:(((first::td.map (·.2)).map V.str).length:Int) - 1=td.length:=by simp
  refine ⟨_,rfl,l1,_,0,.str first,rfl,rfl,SqL.of hl1,at0,_,rfl,l1,_,rfl,.inl (SqL.of hl1),_,_,rfl,rfl,?_⟩
  dsimp only [tNil]
  rw [ln]
  refine hko _ _ _ ?_
  refine ⟨_,rfl,l1,_,0,.str first,rfl,rfl,SqL.of hl1,at0,_,rfl,_,rfl,1,rfl,l1,_,rfl,SqL.of hl1,fun l2 n2=>?_⟩
  rw [List.map_cons,cut1]
  have s2:=s1.trans (same_upd (o:=.lst ((td.map (·.2)).map V.str)) n2)
  have h2:=upd_same (H:=H1) (a:=l2) (o:=.lst ((td.map (·.2)).map V.str))
  generalize upd H1 l2 (.lst ((td.map (·.2)).map V.str))=H2 at s2 h2 ⊢
  refine ⟨tk,l2,rfl,⟨_,hsq _⟩,⟨_,SqL.of h2⟩,lc_zipT (K:=K) (xs:=(td.map (·.1)).map V.str) (zs:=(td.map (·.2)).map V.str) (by simp) (fun i ys H3=>Same H2 H3/\∃ us,ys=us.map V.ref/\TiesAt H3 us (td.take i)) ⟨Same.refl _,[],rfl,.nil⟩ ?_ ?_ ?_ ?_⟩
  ·rintro i ys H3 _ ⟨_,us,rfl,hU⟩
   rw [List.length_map,hU.len,List.length_take]
   omega
  ·rintro i ys H3 _ ⟨s3,_⟩
   exact ⟨hsq _,SqL.of (s3 _ _ h2)⟩
  ·rintro i x y ys H3 q R hx hy ⟨s3,us,rfl,hU⟩ nq kR
   rw [List.getElem?_map,List.getElem?_map] at hx hy
   obtain ⟨z1,ez1,rfl⟩:=Option.map_eq_some_iff.mp hx
   obtain ⟨p,ep,rfl⟩:=Option.map_eq_some_iff.mp ez1
   rw [ep] at hy
   cases hy
   have hp:=hkd p (List.mem_of_getElem? ep)
   have sq:=same_upd (o:=.tup [.str p.1,.str p.2]) nq
   simp only [tYes,if_true]
   refine ⟨q,_,rfl,SqT.of upd_same,rfl,_,_,rfl,_,_,rfl,rfl,?_⟩
   refine ⟨_,rfl,_,rfl,_,rfl,p.1,p.2,rfl,hp.1,hp.2.1,hp.2.2,(by show 2<=sizeLine;decide),fun t nt=>?_⟩
   refine kR _ _ ⟨s3.trans (sq.trans (same_upd nt)),us++[t],by simp,?_⟩
   rw [List.take_add_one,ep]
   exact TiesAt.snoc ((hU.same sq).same (same_upd nt)) upd_same
  ·rintro ys H3 ⟨s3,us,rfl,hU⟩ D hD
   rw [List.length_map,List.length_map,List.take_of_length_le (Nat.le_refl _)] at hU
   refine ⟨(by show 2<=sizeLine;decide),fun t nt=>?_⟩
   have sD:=same_upd (o:=.lst (us.map V.ref)) hD
   exact k t D us _ (s2.trans (s3.trans (sD.trans (same_upd nt)))) upd_same ((same_upd nt) _ _ upd_same) ((hU.same sD).same (same_upd nt))
end
abbrev sTT:Stmt:=top 143 -- tell_text
abbrev sMW:Stmt:=top 157 -- make_web
abbrev sDI:Stmt:=inClass (top 165) 0
abbrev sDM:Stmt:=inClass (top 165) 1
abbrev sDS:Stmt:=inClass (top 165) 2
section
variable {P:Program} {w:World} {K:PySem.W.Frag} {mg:Str->Option Value} {base:Heap}
variable {C D fSW fRR fN:Addr} {fdSW fdRR fdN:FuncData}
def spTT (C:Addr):Sp:=fun vs H Q _=>∃ (l x:Addr) (ns:List Str) (ps:List (Str × Str)),vs=[.ref l]/\H l=some (.lst [.ref x])/\WebObj C H x ns ps/\GoodW ns ps/\∀ H',Same H H'->Q (.str (wrow ns ps)) H'
theorem scTT:FnScope ["given"] ["given"] (defScope sTT):=⟨rfl,rfl,rfl,by decide +kernel,rfl,by decide +kernel,by decide +kernel⟩
theorem ok_tt {f:Addr} {fd:FuncData} (F:Fun K "tell_text" "tell_text" sTT f fd) (DW:Df K mg "show_web" sSW ["web"] fSW fdSW) (GW:FnOk P w K mg base CX0 3 fSW fdSW ["web"] (spSW C)):FnOk P w K mg base CX0 4 f fd ["given"] (spTT C):=by
 refine F.ok scTT (fun vs H Q E h=>?_) (fun cdv A outer s H vs Q E hr h=>?_)
 ·obtain ⟨l,x,ns,ps,rfl,_⟩:=h
  rfl
 ·obtain ⟨l,x,ns,ps,rfl,hl,hW,g,k⟩:=h
  refine ⟨_,pss_one (ps_ret (pe_call GW hr rfl DW.mgf DW.fn.kp DW.b .nil pass0 (pa_cons (pe_ix ix_list (pv 0) pe_int (fun _ _=>rfl)) pa_nil))),?_⟩
  exact ⟨_,rfl,l,_,0,.ref x,rfl,rfl,SqL.of hl,rfl,x,ns,ps,rfl,hW,g,k⟩
def spMW (C:Addr):Sp:=fun vs H Q _=>∃ (l:Addr) (ns:List Str) (ps:List (Str × Str)),vs=[.ref l]/\H l=some (.lst [.str (wrow ns ps)])/\GoodW ns ps/\∀ y H',WebObj C H' y (srt ns) ps->Same H H'->Q (.ref y) H'
theorem scMW:FnScope ["given"] ["given"] (defScope sMW):=⟨rfl,rfl,rfl,by decide +kernel,rfl,by decide +kernel,by decide +kernel⟩
theorem ok_mw {f:Addr} {fd:FuncData} (F:Fun K "make_web" "make_web" sMW f fd) (DR:Df K mg "read_row" sRR ["text"] fRR fdRR) (GR:FnOk P w K mg base CX0 8 fRR fdRR ["text"] (spRR C)):FnOk P w K mg base CX0 9 f fd ["given"] (spMW C):=by
 refine F.ok scMW (fun vs H Q E h=>?_) (fun cdv A outer s H vs Q E hr h=>?_)
 ·obtain ⟨l,ns,ps,rfl,_⟩:=h
  rfl
 ·obtain ⟨l,ns,ps,rfl,hl,g,k⟩:=h
  refine ⟨_,pss_one (ps_ret (pe_call GR hr rfl DR.mgf DR.fn.kp DR.b .nil pass0 (pa_cons (pe_ix ix_list (pv 0) pe_int (fun _ _=>rfl)) pa_nil))),?_⟩
  exact ⟨_,rfl,l,_,0,.str (wrow ns ps),rfl,rfl,SqL.of hl,rfl,ns,ps,rfl,g,k⟩
structure DC (K:PySem.W.Frag) (mg:Str->Option Value) (D:Addr):Prop where
 cl:Cls K D
 nW:NoAttr K D "webs"
 mgD:mg "Desk" = some (.ref D)
def dfs (dw:Addr):List (Str × V):=[("webs",.ref dw)]
theorem dfs_w (dw:Addr):(dfs dw).lookup ("webs" : Str)=some (V.ref dw):=rfl
theorem dfs_no (dw:Addr) (m:Str) (h1:(m == ("webs" : Str))=false):(dfs dw).lookup m=none:=by
 unfold dfs
 rw [List.lookup_cons,h1]
 rfl
def DeskO (D:Addr) (H:Hp) (x dw:Addr) (kvs:List (Key × V)):Prop:=(∃ dx,H x=some (.ins D dx (dfs dw)))/\H dw=some (.dK kvs)
theorem DeskO.same {H H':Hp} {x dw:Addr} {kvs:List (Key × V)} (h:DeskO D H x dw kvs) (s:Same H H'):DeskO D H' x dw kvs:=let ⟨⟨dx,h1⟩,h2⟩:=h;⟨⟨dx,s _ _ h1⟩,s _ _ h2⟩
def spDI (D:Addr):Sp:=fun vs H Q _=>∃ x:Addr,vs=[.ref x]/\(∃ dx,H x=some (.ins D dx []))/\∀ dw H',DeskO D H' x dw []->H dw=none->But x H H'->Q .non H'
theorem scDI:FnScope ["self"] ["self"] (defScope sDI):=⟨rfl,rfl,rfl,by decide +kernel,rfl,by decide +kernel,by decide +kernel⟩
theorem ok_di {f:Addr} {fd:FuncData} (F:Fun K "__init__" "Desk.__init__" sDI f fd) (W:DC K mg D):FnOk P w K mg base CX0 1 f fd ["self"] (spDI D):=by
 refine F.ok scDI (fun vs H Q E h=>?_) (fun cdv A outer s H vs Q E hr h=>?_)
 ·obtain ⟨x,rfl,_⟩:=h
  rfl
 ·obtain ⟨x,rfl,⟨dx,hx⟩,k⟩:=h
  refine ⟨_,pss_one (ps_fld (pv 0) pe_dnewK rfl),?_⟩
  intro dw nw
  have nx:x≠dw:=ne_of_none hx nw
  have hx1:upd H dw (.dK []) x=some (.ins D dx []):=by rw [upd_ne nx];exact hx
  refine ⟨_,rfl,x,D,dx,_,rfl,hx1,W.cl,W.nW,(by show 0 < 1000;decide),?_⟩
  refine k dw _ ⟨⟨dx,?_⟩,?_⟩ nw fun c o e n=>?_
  ·rw [upd_same]
   rfl
  ·rw [upd_ne (Ne.symm nx)];exact upd_same
  ·rw [upd_ne n,upd_ne (ne_of_none e nw)];exact e
def spDM (D:Addr):Sp:=fun vs H Q _=>∃ (x dw:Addr) (kd z:Str) (kvs:List (Key × V)),vs=[.ref x,.str kd,.str z]/\DeskO D H x dw kvs /\
 ((kd=kNew/\nm z=true/\∀ H',Same H H'->Q (.str z) H')\/(kd=kRow/\Q (.str z) H)\/(kd=kName/\∃ v,valV kvs (.inr z)=some v/\Q v H))
abbrev nDM:List Str:=["self","kind","thing"]
theorem scDM:FnScope nDM ["self","kind","thing"] (defScope sDM):=⟨rfl,rfl,rfl,by decide +kernel,rfl,by decide +kernel,by decide +kernel⟩
theorem ok_dm {f:Addr} {fd:FuncData} (F:Fun K "meant" "Desk.meant" sDM f fd) (W:DC K mg D) (DN:Df K mg "is_name" sName ["thing"] fN fdN) (T:Glb mg):FnOk P w K mg base CX0 2 f fd ["self","kind","thing"] (spDM D):=by
 have GN:FnOk P w K mg base CX0 1 fN fdN ["thing"] (spName (K:=K)):=ok_name DN.fn T
 refine F.ok scDM (fun vs H Q E h=>?_) (fun cdv A outer s H vs Q E hr h=>?_)
 ·obtain ⟨x,dw,kd,z,kvs,rfl,_⟩:=h
  rfl
 ·obtain ⟨x,dw,kd,z,kvs,rfl,⟨⟨dx,hx⟩,hw⟩,h⟩:=h
  have hu:=low 0 hr
  refine ⟨_,pss_cons (ps_if (PW.pt (pw_and (pt_cmpR op_eq (pv 1) pe_str (nomark _)) (pw_and1 (pt_not (pt_val (pe_call GN hr rfl DN.mgf DN.fn.kp DN.b .nil pass0 (pa_cons (pv 2) pa_nil)) (fun _=>rfl)))))) (pss_one ps_never) pss_nil)
   (pss_cons (ps_if (pt_cmpR op_ne (pv 1) pe_str (nomark _)) (pss_one (ps_ret (pv 2))) pss_nil)
   (pss_cons (ps_if (pt_cmp (pc_dnotin hu (pv 2) (pe_fld (pv 0) rfl))) (pss_one ps_never) pss_nil)
   (pss_one (ps_ret (pe_dget hu (pe_fld (pv 0) rfl) (pv 2) (fun _ _=>rfl)))))),?_⟩
  rcases h with ⟨rfl,hz,k⟩ | ⟨rfl,k⟩ | ⟨rfl,v,hv,k⟩
  ·have nl:=nm_len hz
   refine ⟨_,rfl,rfl,_,rfl,?_⟩
   rw [decide_eq_true rfl]
   refine iteT ⟨_,rfl,.inl ⟨z,rfl,by omega,fun H1 s1=>⟨_,rfl,?_⟩⟩⟩
   rw [hz]
   refine iteF ⟨_,rfl,rfl,_,rfl,?_⟩
   rw [decide_eq_false (by decide +kernel)]
   exact iteT ⟨_,rfl,k _ s1⟩
  ·refine ⟨_,rfl,rfl,_,rfl,?_⟩
   rw [decide_eq_false (by decide +kernel)]
   refine iteF (iteF ⟨_,rfl,rfl,_,rfl,?_⟩)
   rw [decide_eq_false (by decide +kernel)]
   exact iteT ⟨_,rfl,k⟩
  ·refine ⟨_,rfl,rfl,_,rfl,?_⟩
   rw [decide_eq_false (by decide +kernel)]
   refine iteF (iteF ⟨_,rfl,rfl,_,rfl,?_⟩)
   rw [decide_eq_true rfl]
   refine iteF ⟨_,rfl,_,rfl,x,D,dx,_,_,rfl,hx,W.cl,W.nW,dfs_w dw,dw,some v,rfl,.inl ⟨kvs,.inr z,.inl hw,rfl,hv.symm⟩,_,rfl,iteF ?_⟩
   exact ⟨_,rfl,x,D,dx,_,_,rfl,hx,W.cl,W.nW,dfs_w dw,_,rfl,dw,v,rfl,.inl ⟨kvs,.inr z,.inl hw,rfl,hv.symm⟩,k⟩
end
theorem jn_ge (sep x:List Nat) (l:List (List Nat)):x.length<=(jn sep (x::l)).length:=by
 cases l with
 | nil=>exact Nat.le_refl _
 | cons y r =>
  show _<=(x++sep++jn sep (y::r)).length
  rw [List.length_append,List.length_append]
  omega
theorem wrow_pos (ns:List Str) (ps:List (Str × Str)):1<=(wrow ns ps).length:=by
 unfold wrow
 rw [len_cs,show Txt.join sm2 (headT (srt ns)::ps.map rowT)=Str.join sm2 (headT (srt ns)::ps.map rowT) from StrLaws.glued_eq_join _ _,cs_join,List.map_cons]
 refine Nat.le_trans ?_ (jn_ge _ _ _)
 unfold headT
 rw [show Txt.join bl1 (plc::srt ns)=Str.join bl1 (plc::srt ns) from StrLaws.glued_eq_join _ _,cs_join,List.map_cons]
 exact Nat.le_trans (by rw [cs_plc];decide) (jn_ge _ _ _)
section
variable {P:Program} {w:World} {K:PySem.W.Frag} {mg:Str->Option Value} {base:Heap}
variable {C D fSW fRR fN fRO fM fTT fMW aF aR aT aM tW tX fA:Addr} {kF kR kT kM:List (Key × V)} {fdSW fdRR fdN fdRO fdM fdTT fdMW:FuncData}
abbrev tOk:Str:="ok"
def spDS (C D : Addr) : Sp := fun vs H Q _ => ∃ (x dw : Addr) (row : Str) (kvs : List (Key × V)), vs = [.ref x, .str row] ∧ DeskO D H x dw kvs ∧ kvs.length ≤ 100 ∧
  ((∃ (n : Str) (ns : List Str) (ps : List (Str × Str)), nm n = true ∧ GoodW ns ps ∧ row = Str.ofString "web " ++ n ++ Str.ofString " " ++ wrow ns ps ∧ ∀ y H', WebObj C H' y (srt ns) ps → DeskO D H' x dw (putK kvs (.inr n) (.ref y)) → But dw H H' → Q (.str tOk) H') ∨
   ∃ (n : Str) (y : Addr) (ns : List Str) (ps : List (Str × Str)), nm n = true ∧ row = Str.ofString "text " ++ n ∧ valV kvs (.inr n) = some (.ref y) ∧ WebObj C H y ns ps ∧ GoodW ns ps ∧ ∀ H', Same H H' → Q (.str (wrow ns ps)) H')
abbrev nDS:List Str:=["self","row","word","told","given","teller","maker","made"]
theorem scDS:FnScope nDS ["self","row"] (defScope sDS):=⟨rfl,rfl,rfl,by decide +kernel,rfl,by decide +kernel,by decide +kernel⟩
theorem ok_ds {f : Addr} {fd : FuncData} (F : Fun K "say" "Desk.say" sDS f fd) (W : DC K mg D) (B : Tabs P w K mg aF aR aT aM tW tX fA fTT fMW kF kR kT kM) (Mm : Meth K D "meant" fM) (bM : Binds K fdM ["self", "kind", "thing"] []) (GM : FnOk P w K mg base CX0 2 fM fdM ["self", "kind", "thing"] (spDM D))
    (DO : Df K mg "read_order" sRO ["row"] fRO fdRO) (GO : FnOk P w K mg base CX0 3 fRO fdRO ["row"] spRO) (DT : Df K mg "tell_text" sTT ["given"] fTT fdTT) (GT : FnOk P w K mg base CX0 4 fTT fdTT ["given"] (spTT C)) (DM : Df K mg "make_web" sMW ["given"] fMW fdMW) (GW : FnOk P w K mg base CX0 9 fMW fdMW ["given"] (spMW C)) : FnOk P w K mg base CX0 10 f fd ["self", "row"] (spDS C D) := by
  refine F.ok scDS (fun vs H Q E h => ?_) (fun cdv A outer s H vs Q E hr h => ?_)
  · obtain ⟨x, dw, row, kvs, rfl, _⟩ := h
    rfl
  · obtain ⟨x, dw, row, kvs, rfl, dO, few, h⟩ := h
    have hu := low 0 hr
    have h2 := hr.mono (j := 2) (by decide)
    have h3 := hr.mono (j := 3) (by decide)
    have h4 := hr.mono (j := 4) (by decide)
    obtain ⟨first, td, mv, tl, hm, fin⟩ : ∃ (first : Str) (td : List (Str × Str)) (mv : Str × Str → V), Tld row first td ∧
        (∀ p ∈ td, ∀ (H3 : Hp) (R : VK) (E3 : XK), DeskO D H3 x dw kvs → (∀ H', Same H3 H' → R (mv p) H') → spDM D [.ref x, .str p.1, .str p.2] H3 R E3) ∧
        ((first = tWeb ∧ ∃ (n : Str) (ns : List Str) (ps : List (Str × Str)), GoodW ns ps ∧ td.map mv = [.str n, .str (wrow ns ps)] ∧ ∀ y H', WebObj C H' y (srt ns) ps → DeskO D H' x dw (putK kvs (.inr n) (.ref y)) → But dw H H' → Q (.str tOk) H') ∨
         (first = tText ∧ ∃ (y : Addr) (ns : List Str) (ps : List (Str × Str)), td.map mv = [.ref y] ∧ WebObj C H y ns ps ∧ GoodW ns ps ∧ ∀ H', Same H H' → Q (.str (wrow ns ps)) H')) := by
      rcases h with ⟨n, ns, ps, hn, g, rfl, k⟩ | ⟨n, y, ns, ps, hn, rfl, hv, hW, g, k⟩
      · refine ⟨tWeb, [(kNew, n), (kRow, wrow ns ps)], fun p => .str p.2, .inl ⟨n, _, hn, wrow_pos ns ps, Nat.le_trans (wrow_len g) (by decide), rfl, rfl, rfl⟩, fun p hp H3 R E3 d3 q => ?_, .inl ⟨rfl, n, ns, ps, g, rfl, k⟩⟩
        rcases List.mem_cons.mp hp with rfl | hp
        · exact ⟨x, dw, _, _, kvs, rfl, d3, .inl ⟨rfl, hn, q⟩⟩
        · rw [List.mem_singleton.mp hp] at q ⊢
          exact ⟨x, dw, _, _, kvs, rfl, d3, .inr (.inl ⟨rfl, q _ (Same.refl _)⟩)⟩
      · refine ⟨tText, [(kName, n)], fun _ => .ref y, .inr ⟨n, hn, rfl, rfl, rfl⟩, fun p hp H3 R E3 d3 q => ?_, .inr ⟨rfl, y, ns, ps, rfl, hW, g, k⟩⟩
        rw [List.mem_singleton.mp hp] at q ⊢
        exact ⟨x, dw, _, _, kvs, rfl, d3, .inr (.inr ⟨rfl, _, hv, q _ (Same.refl _)⟩)⟩
    refine ⟨_, pss_cons (ps_asg (pe_call GO h3 rfl DO.mgf DO.fn.kp DO.b .nil pass0 (pa_cons (pv 1) pa_nil)) (pg_tup rfl (pgs_cons (pg_name (i := 2) scDS.nd rfl (Or.inl rfl)) (pgs_cons (pg_name (i := 3) scDS.nd rfl (Or.inl rfl)) pgs_nil))))
      (pss_cons (ps_setL (i := 4) ["kind", "thing"] [0] scDS.nd rfl rfl rfl (compSc (osc := (defScope sDS).names) (N := nDS) rfl rfl (by decide +kernel)) (gk_two (K := K) (k := 2) (by decide) (by decide)) (pi_list (pv 3))
        (fun _ _ _ => pg_tup rfl (pgs_cons (pg_name (i := 0) (show (["kind", "thing", "self"] : List Str).Nodup by decide +kernel) rfl (Or.inl rfl)) (pgs_cons (pg_name (i := 1) (show (["kind", "thing", "self"] : List Str).Nodup by decide +kernel) rfl (Or.inl rfl)) pgs_nil)))
        (fun _ _ _ => pifs_nil)
        (fun _ _ _ => pe_meth (pv 2) W.cl Mm GM h2 bM .nil pass0 (pa_cons (pv 0) (pa_cons (pv 1) pa_nil))))
      (pss_cons (ps_if (pt_cmp (pc_kin B.dT (pv 2) (pe_glob (v := .ref aT) rfl B.gT rfl)))
        (pss_cons (ps_set (i := 5) scDS.nd rfl (Or.inl rfl) (pe_kget B.dT (pe_glob (v := .ref aT) rfl B.gT rfl) (pv 2) (fun _ _ => rfl)))
        (pss_one (ps_ret (pe_callV GT h4 DT.fn.kp DT.b .nil pass0 (pv 5) (pa_cons (pv 4) pa_nil))))) pss_nil)
      (pss_cons (ps_set (i := 6) scDS.nd rfl (Or.inl rfl) (pe_kget B.dM (pe_glob (v := .ref aM) rfl B.gM rfl) (pv 2) (fun _ _ => rfl)))
      (pss_cons (ps_set (i := 7) scDS.nd rfl (Or.inl rfl) (pe_callV GW hr DM.fn.kp DM.b .nil pass0 (pv 6) (pa_cons (pe_slice sl_list (pv 4) (po_some pe_int) po_none) pa_nil)))
      (pss_cons (ps_dput hu (pe_fld (pv 0) rfl) (pe_ix ix_list (pv 4) pe_int (fun _ _ => rfl)) (pv 7) rfl)
      (pss_one (ps_ret pe_str))))))), ?_⟩
    have big : 5000 ≤ sizeLine := by decide
    have tlen : td.length ≤ 2 := by
      rcases tl with ⟨n, r, _, _, _, _, _, rfl⟩ | ⟨n, _, _, _, rfl⟩
      · exact Nat.le_refl 2
      · exact (by decide : 1 ≤ 2)
    refine ⟨_, rfl, row, first, td, rfl, tl, fun t L us H1 s1 ht hL hU => ?_⟩
    refine ⟨t, _, rfl, SqT.of ht, rfl, _, _, rfl, _, _, rfl, rfl, ?_⟩
    have d1 := dO.same s1
    refine ⟨_, rfl, L, rfl, ⟨_, SqL.of hL⟩, lc_list (K := K) (xs := us.map V.ref) (fun i ys H3 => Same H1 H3 ∧ ys = (td.take i).map mv) ⟨Same.refl _, rfl⟩ ?_ ?_ ?_ ?_⟩
    · rintro i ys H3 _ ⟨_, rfl⟩
      rw [List.length_map, List.length_take]
      omega
    · rintro i ys H3 _ ⟨s3, _⟩
      exact SqL.of (s3 _ _ hL)
    · rintro i v ys H3 R hv ⟨s3, rfl⟩ kR
      rw [List.getElem?_map] at hv
      obtain ⟨u, eu, rfl⟩ := Option.map_eq_some_iff.mp hv
      obtain ⟨p, ep, hp⟩ := (hU.same s3).get eu
      have d3 := d1.same s3
      obtain ⟨⟨dx, hx3⟩, hw3⟩ := id d3
      simp only [tYes, if_true]
      refine ⟨u, _, rfl, SqT.of hp, rfl, _, _, rfl, _, _, rfl, rfl, ?_⟩
      refine ⟨_, rfl, x, dx, _, rfl, hx3, dfs_no dw _ (by decide +kernel), _, rfl, _, rfl, ?_⟩
      dsimp only [tNil]
      refine hm p (List.mem_of_getElem? ep) _ _ _ d3 ?_
      intro H4 s4
      refine kR _ _ ⟨s3.trans s4, ?_⟩
      rw [List.take_add_one, ep]
      simp
    rintro ys H3 ⟨s3, rfl⟩ G nG
    rw [List.length_map, hU.len, List.take_of_length_le (Nat.le_refl _)]
    have s4 : Same H (upd H3 G (.lst (td.map mv))) := s1.trans (s3.trans (same_upd nG))
    have hG := upd_same (H := H3) (a := G) (o := .lst (td.map mv))
    generalize upd H3 G (.lst (td.map mv)) = H4 at s4 hG ⊢
    rcases fin with ⟨rfl, n, ns, ps, g, em, k⟩ | ⟨rfl, y, ns, ps, em, hW, g, k⟩
    · rw [em] at hG
      refine ⟨_, rfl, .inr tWeb, rfl, rfl, _, rfl, ?_⟩
      rw [B.tW]
      refine iteF ⟨_, rfl, .inr tWeb, _, rfl, rfl, B.mW, ?_⟩
      refine ⟨_, rfl, rfl, _, rfl, 1, rfl, G, _, rfl, SqL.of hG, fun l5 n5 => ?_⟩
      rw [cut1]
      refine ⟨l5, ns, ps, rfl, upd_same, g, fun y H6 W6 s6 => ?_⟩
      have s06 := s4.trans ((same_upd n5).trans s6)
      have hG6 := ((same_upd n5).trans s6) _ _ hG
      obtain ⟨⟨dx, hx6⟩, hw6⟩ := dO.same s06
      refine ⟨_, rfl, _, rfl, x, D, dx, _, _, rfl, hx6, W.cl, W.nW, dfs_w dw, _, rfl, G, _, 0, .str n, rfl, rfl, SqL.of hG6, rfl, dw, _, rfl, DPut.k (k := (.inr n : Key)) hw6 (by omega), ?_⟩
      have nx : x ≠ dw := ne_of hx6 hw6 (by intro z; cases z)
      have bt : But dw H (upd H6 dw (.dK (putK kvs (.inr n) (.ref y)))) := fun c o e nc => by rw [upd_ne nc]; exact s06 c o e
      refine k y _ ?_ ⟨⟨dx, by rw [upd_ne nx]; exact hx6⟩, upd_same⟩ bt
      obtain ⟨dy, kp, kt, ts, w1, w2, w3, w4⟩ := W6
      refine ⟨dy, kp, kt, ts, ?_, ?_, ?_, ?_⟩
      · rw [upd_ne (ne_of w1 hw6 (by intro z; cases z))]; exact w1
      · rw [upd_ne (ne_of w2 hw6 (by intro z; cases z))]; exact w2
      · rw [upd_ne (ne_of w3 hw6 (by intro z; cases z))]; exact w3
      · exact w4.mono fun t xs e => by rw [upd_ne (ne_of e hw6 (by intro z; cases z))]; exact e
    · rw [em] at hG
      refine ⟨_, rfl, .inr tText, rfl, rfl, _, rfl, ?_⟩
      rw [B.tT]
      refine iteT ⟨_, rfl, .inr tText, _, rfl, rfl, B.tT, ?_⟩
      exact ⟨_, rfl, rfl, _, rfl, G, y, ns, ps, rfl, hG, hW.same s4, g, fun H5 s5 => k _ (s4.trans s5)⟩
end
abbrev sWrn:Stmt:=top 171 -- _law_written
theorem jn_snoc (sep x:List Nat):∀ l:List (List Nat),l≠[]->jn sep (l++[x])=jn sep l++sep++x
 | [],h=>absurd rfl h
 | [y],_=>rfl
 | y::z::r,_=>by
  show y++sep++jn sep (z::r++[x])=y++sep++jn sep (z::r)++sep++x
  rw [jn_snoc sep x (z::r) (by simp)]
  simp only [List.append_assoc]
theorem join_snoc (sep x:Str) {l:List Str} (h:l≠[]):Txt.join sep (l++[x])=Txt.join sep l++sep++x:=by
 rw [show Txt.join sep l=Str.join sep l from StrLaws.glued_eq_join _ _,show Txt.join sep (l++[x])=Str.join sep (l++[x]) from StrLaws.glued_eq_join _ _]
 refine List.head_eq_of_cons_eq (cs_inj (l:=[_]) (m:=[_]) ?_)
 simp only [List.map_cons,List.map_nil]
 rw [cs_app,cs_app,cs_join,cs_join,List.map_append]
 congr 1
 exact jn_snoc _ _ _ (by simpa using h)
theorem app_assoc (x y z:Str):x++y++z=x++(y++z):=by
 refine List.head_eq_of_cons_eq (cs_inj (l:=[_]) (m:=[_]) ?_)
 simp only [List.map_cons,List.map_nil]
 rw [cs_app,cs_app,cs_app,cs_app,List.append_assoc]
theorem app5 (x s a g b:Str):x++s++(a++g++b)=x++s++a++g++b:=by rw [app_assoc (x++s++a) g b,app_assoc (x++s) a (g++b),app_assoc a g b]
section
variable {P:Program} {w:World} {K:PySem.W.Frag} {mg:Str->Option Value} {base:Heap}
def spWrn:Sp:=fun vs H Q _=>∃ (a b:Addr) (ns:List Str) (ps:List (Str × Str)) (ts:List Addr),vs=[.ref a,.ref b]/\Lists H a b ns ps ts/\srt ns=ns/\∀ H',Same H H'->Q (.str (wrow ns ps)) H'
abbrev nWr:List Str:=["_law_names","_law_pairs","_law_found","_law_begin","_law_end"]
theorem scWr:FnScope nWr ["_law_names","_law_pairs"] (defScope sWrn):=⟨rfl,rfl,rfl,by decide +kernel,rfl,by decide +kernel,by decide +kernel⟩
theorem good_take {ns:List Str} {ps:List (Str × Str)} (g:GoodW ns ps) (i:Nat):GoodW ns (ps.take i):=⟨g.good,fun p hp=>g.ins p (List.mem_of_mem_take hp),by rw [List.length_take];have:=g.few;omega⟩
theorem ok_wrn {f:Addr} {fd:FuncData} (F:Fun K "_law_written" "_law_written" sWrn f fd):FnOk P w K mg base CX0 1 f fd ["_law_names","_law_pairs"] spWrn:=by
 refine F.ok scWr (fun vs H Q E h=>?_) (fun cdv A outer s H vs Q E hr h=>?_)
 ·obtain ⟨a,b,ns,ps,ts,rfl,_⟩:=h
  rfl
 ·obtain ⟨a,b,ns,ps,ts,rfl,L,sn,k⟩:=h
  refine ⟨_,pss_cons (ps_set (i:=2) scWr.nd rfl (Or.inl rfl) (pe_bm PySem.F.plainAttrs_str PySem.F.slot_str_join PySem.F.type_str_join mt_join pe_str (pa_cons (pe_op op_cat (pe_lst (pa_cons pe_str pa_nil)) (pv 0)) pa_nil)))
   (pss_cons (ps_for PassesOwn.never rfl (pi_list (pv 1)) (pg_tup rfl (pgs_cons (pg_name (i:=3) scWr.nd rfl (Or.inl rfl)) (pgs_cons (pg_name (i:=4) scWr.nd rfl (Or.inl rfl)) pgs_nil)))
    (pss_one (ps_set (i:=2) scWr.nd rfl (Or.inl rfl) (pe_op op_add_str (pe_op op_add_str (pe_op op_add_str (pe_op op_add_str (pv 2) pe_str) (pv 3)) pe_str) (pv 4)))))
   (pss_one (ps_ret (pv 2)))),?_⟩
  have g:GoodW ns ps:=⟨L.good,L.ins,L.few⟩
  have few:=L.good.few
  have big:5000<=sizeLine:=by decide
  refine ⟨rfl,(by decide),fun l1 n1=>?_⟩
  have s1:=same_upd (o:=.lst [.str plc]) n1
  refine ⟨_,rfl,l1,a,_,_,rfl,rfl,upd_same,s1 _ _ L.ha,(by rw [List.length_map];exact Nat.le_trans (show 1+ns.length<=13 by omega) (by decide)),fun l2 n2=>?_⟩
  have s2:=s1.trans (same_upd (o:=.lst ([.str plc]++ns.map V.str)) n2)
  refine ⟨bl1,l2,plc::ns,rfl,rfl,SqL.of upd_same,Nat.le_trans (head_sum L.good.nms few) (by decide),?_⟩
  change tSeq _ _ _ _ (upd (upd H l1 (.lst [.str plc])) l2 (.lst ([.str plc]++ns.map V.str)))
  generalize upd (upd H l1 (.lst [.str plc])) l2 (.lst ([.str plc]++ns.map V.str))=H2 at s2 ⊢
  have L2':=L.same s2
  have lt:(ts.map V.ref).length=ps.length:=by rw [List.length_map,L.hT.len]
  have e0:wrow ns []=headT ns:=by
   unfold wrow
   rw [sn]
   rfl
  refine ⟨_,rfl,b,rfl,⟨_,SqL.of L2'.hb⟩,for_list (K:=K) (xs:=ts.map V.ref) (fun i σ H3=>∃ v3 v4,σ=[some (.ref a),some (.ref b),some (.str (wrow ns (ps.take i))),v3,v4]/\H3=H2) ⟨none,none,?_,rfl⟩ ?_ ?_ ?_⟩
  ·show [some (V.ref a),some (V.ref b),some (V.str (headT ns)),none,none]=_
   rw [List.take_zero,e0]
  ·rintro i σ H3 _ ⟨v3,v4,rfl,rfl⟩
   exact SqL.of L2'.hb
  ·rintro i v σ H3 hv ⟨v3,v4,rfl,rfl⟩
   rw [List.getElem?_map] at hv
   obtain ⟨t,et,rfl⟩:=Option.map_eq_some_iff.mp hv
   obtain ⟨p,ep,ht⟩:=L2'.hT.get et
   have hp:=List.mem_of_getElem? ep
   have l1':=nm_len (g.nmp p hp).1
   have l2':=nm_len (g.nmp p hp).2
   have wl:=wrow_len (good_take g i)
   have e3:gt3.length=3:=by decide +kernel
   refine ⟨t,_,rfl,SqT.of ht,rfl,_,_,rfl,_,_,rfl,rfl,?_⟩
   refine ⟨_,rfl,_,_,rfl,rfl,(by rw [show (Str.ofString "; ").length=2 from len_sm2];omega),_,rfl,_,_,rfl,rfl,(by rw [app_len,show (Str.ofString "; ").length=2 from len_sm2];omega),_,_,rfl,rfl,(by rw [app_len,app_len,show (Str.ofString "; ").length=2 from len_sm2,show (Str.ofString " > ").length=3 from e3];omega),_,rfl,_,_,rfl,rfl,(by rw [app_len,app_len,app_len,show (Str.ofString "; ").length=2 from len_sm2,show (Str.ofString " > ").length=3 from e3];omega),?_⟩
   refine ⟨some (.str p.1),some (.str p.2),?_,rfl⟩
   have ew:wrow ns (ps.take (i+1))=wrow ns (ps.take i)++sm2++p.1++gt3++p.2:=by
    unfold wrow
    rw [List.take_add_one,ep,Option.toList_some,List.map_append,List.map_cons,List.map_nil,<- List.cons_append,join_snoc _ _ (by simp)]
    exact app5 _ _ _ _ _
   rw [ew]
   rfl
  ·rintro σ H3 ⟨v3,v4,rfl,rfl⟩
   rw [lt,List.take_of_length_le (Nat.le_refl _)]
   exact ⟨_,rfl,k _ s2⟩
end
end K90
namespace L2
open PySem PySem.Spec PyProof.Rows
section
variable {X:Cx} {CX:CXT} {k:Nat} {f C:Addr} {fd:FuncData} {ps ks:List Str} {sp:Sp} {E:XK} {x m:Str} {p pos apos kpos:Pos} {o:Expr} {kws:List Keyword} {te ta:TE} {t tk:TA}
variable {g:List Value->List Value->List Value} {gV:List V->List V->List V}
theorem pe_callK0 (F:FnOk X.prog X.w X.K X.mg X.base CX k f fd ps sp) (hr:Room k X.A) (hg:Gl X x) (hm:X.mg x=some (.ref f)) (hk:PySem.W.keepIn X.K (.ref f)=true) (hb:KBinds X.K fd ps ks g gV) (hx:Passes CX X E)
  (hkw:PK X kws tk) (hall:(backToKw pos (keywordEach kws X.env)).all (·.1.isSome)=true:=by rfl) (hks:(backToKw pos (keywordEach kws X.env)).filterMap (·.1)=ks:=by rfl)
  (hdb:(x == ("__debug__" : Str))=false:=by decide)
  (hpl:((backTo pos (starEach [] X.env)).any (·.1) || (backToKw pos (keywordEach kws X.env)).any (·.1.isNone))=false:=by rfl) :
  PE X (.Call (.Name x p) [] kws pos) (tCallK sp gV E tNil tk):=by
 intro pins s σ H Q I h
 refine wpAny_Call_Name_kw (ld_glob I hg hm ?_ hdb)
 refine PySem.W.callWith_KW0 (h₀:=X.base) I.ok.mod.kin hk hall (thn (hkw pos pins s σ H _ I h) fun ws s2 ⟨zs,H2,I2,rz,q2⟩=>⟨I2.kIn,?_⟩) hpl
 rw [hks]
 exact run_fnk (us:=[]) (vs:=[]) F hr hb hx I2 .nil rz q2
def tMethK (C:Addr) (m:Str) (sp:Sp) (gV:List V->List V->List V) (E:XK) (ta:TE) (tk:TA):TE:=fun σ H Q=>ta σ H fun x H1=>∃ a dx fs,x=.ref a/\H1 a=some (.ins C dx fs)/\fs.lookup m=none/\tk σ H1 fun zs H2=>sp (gV [x] zs) H2 Q E
theorem pe_methK0 {pl:Sem Bool} (he:PE X o ta) (c:Cls X.K C) (hm:Meth X.K C m f) (F:FnOk X.prog X.w X.K X.mg X.base CX k f fd ps sp) (hr:Room k X.A) (hb:KBinds X.K fd ps ks g gV) (hx:Passes CX X E)
  (hkw:PK X kws tk) (hall:(backToKw pos (keywordEach kws X.env)).all (·.1.isSome)=true:=by rfl) (hks:(backToKw pos (keywordEach kws X.env)).filterMap (·.1)=ks:=by rfl)
  (hpl:((backTo pos (starEach [] X.env)).any (·.1) || (backToKw pos (keywordEach kws X.env)).any (·.1.isNone))=false:=by rfl)
  (ht:eval (.Call (.Attribute o m apos) [] kws pos) X.env=(do
   let ov <- eval o X.env
   standAt apos.atName
   let (f,first) <- holding [ov] (getMethod ov m pl)
   callWith pos f first (backTo pos (starEach [] X.env)) (backToKw pos (keywordEach kws X.env))):=by rfl) :
  PE X (.Call (.Attribute o m apos) [] kws pos) (tMethK C m sp gV E ta tk):=by
 intro pins s σ H Q I h
 refine PySem.W.methodCall_KW (pl:=pl) (thn (he pins s σ H _ I h) fun u s1 ⟨x,H1,I1,rx,a,dx,fs,ex,ea,l,q⟩=>?_) ht
 subst ex
 obtain rfl:u=Value.ref a:=rx
 refine getmeth_ok I1 ea c hm l ?_
 refine PySem.W.callWith_KW0 (first:=[.ref a]) (h₀:=X.base) I.ok.mod.kin hm.kp hall (thn (hkw pos pins s1 σ H1 _ I1 q) fun ws s2 ⟨zs,H2,I2,rz,q2⟩=>⟨I2.kIn,?_⟩) hpl
 rw [hks]
 exact run_fnk (us:=[.ref a]) (vs:=[.ref a]) F hr hb hx I2 (.cons rfl .nil) rz q2
end
end L2
namespace K90
open PySem PySem.Spec PyProof.Rows L2
theorem al_strs {K:PySem.W.Frag} {H:Hp} {p q:Addr} {zs:List Str} {n:Nat} (hp:SqL K H p (zs.map V.str)) (hq:SqL K H q (zs.map V.str)):AlS K H n (.ref p) (.ref q) :=
 ⟨p,q,_,_,rfl,rfl,.inl ⟨hp,hq⟩,rfl,fun i a b ea eb=>by
  rw [ea] at eb
  cases eb
  obtain ⟨z,_,rfl⟩:=List.mem_map.mp (List.mem_of_getElem? ea)
  exact Al.txt⟩
theorem al_pair {K:PySem.W.Frag} {H:Hp} {p q:Addr} {x y:Str} {n:Nat} (hp:H p=some (.tup [.str x,.str y])) (hq:H q=some (.tup [.str x,.str y])):AlS K H n (.ref p) (.ref q) :=
 ⟨p,q,_,_,rfl,rfl,.inr ⟨SqT.of hp,SqT.of hq⟩,rfl,fun i a b ea eb=>by
  rw [ea] at eb
  cases eb
  have m:=List.mem_of_getElem? ea
  simp only [List.mem_cons,List.not_mem_nil,or_false] at m
  rcases m with rfl | rfl<;>exact Al.txt⟩
theorem al_ties {K:PySem.W.Frag} {H:Hp} {p q:Addr} {ts us:List Addr} {ps:List (Str × Str)} {n:Nat} (hp:SqL K H p (ts.map V.ref)) (hq:SqL K H q (us.map V.ref)) (h1:TiesAt H ts ps) (h2:TiesAt H us ps):AlS K H (n+1) (.ref p) (.ref q) :=
 ⟨p,q,_,_,rfl,rfl,.inl ⟨hp,hq⟩,by rw [List.length_map,List.length_map,h1.len,h2.len],fun i a b ea eb=>by
  rw [List.getElem?_map] at ea eb
  obtain ⟨t,et,rfl⟩:=Option.map_eq_some_iff.mp ea
  obtain ⟨u,eu,rfl⟩:=Option.map_eq_some_iff.mp eb
  obtain ⟨p1,e1,ht⟩:=h1.get et
  obtain ⟨p2,e2,hu⟩:=h2.get eu
  rw [e1] at e2
  cases e2
  exact (al_pair ht hu).al⟩
def g1 {α:Type}:List α->List α->List α | [],[a]=>[a] | _,_=>[]
def g3 {α:Type}:List α->List α->List α | [],[a,b,c]=>[a,b,c] | _,_=>[]
def gs1 {α:Type}:List α->List α->List α | [x],[a]=>[x,a] | _,_=>[]
theorem rel_1 {vs zs:List V} {us ws:List Value} (r:Vals vs us) (q:Vals zs ws):Vals (g1 vs zs) (g1 us ws):=by
 match vs,us,r,zs,ws,q with
 | [],_,.nil,[],_,.nil=>exact .nil
 | [],_,.nil,[a],_,.cons h .nil=>exact .cons h .nil
 | [],_,.nil,a::b::l,_,.cons h (.cons h2 t)=>exact .nil
 | x::l,_,.cons h t,_,_,_=>exact .nil
theorem rel_s1 {vs zs:List V} {us ws:List Value} (r:Vals vs us) (q:Vals zs ws):Vals (gs1 vs zs) (gs1 us ws):=by
 match vs,us,r,zs,ws,q with
 | [],_,.nil,_,_,_=>exact .nil
 | [x],_,.cons hx .nil,[],_,.nil=>exact .nil
 | [x],_,.cons hx .nil,[a],_,.cons h .nil=>exact .cons hx (.cons h .nil)
 | [x],_,.cons hx .nil,a::b::l,_,.cons h (.cons h2 t)=>exact .nil
 | x::y::l,_,.cons h (.cons h2 t),_,_,_=>exact .nil
section
variable {K:PySem.W.Frag} {f:Addr} {fd:FuncData} {x qual p q r:Str} {st:Stmt}
abbrev BA (x qual:Str) (st:Stmt) (as:List Value) (kw:List (Str × Value)) (bs:List (Str × Value)):Prop:=∀ (kV doc pm:Value) (an:Option Addr) (cdv ct:Value),bindArgs (PySem.W.fnOf x qual (defArgs st) (defBody st) (defScope st) .none kV doc pm an cdv ct) ⟨as,kw⟩=pure bs
theorem to_1 (F:Fun K x qual st f fd) (h:∀ a,BA x qual st [] [(p,a)] [(p,a)]):KBinds K fd [p] [p] g1 g1:=by
 refine ⟨fun s us ws _ hl=>?_,rel_1⟩
 obtain ⟨oc,od,kV,doc,pm,an,cdv,ct,osl,rfl,lk,hcd⟩:=F.ex
 match us,ws,hl with
 | [],[a],_=>exact BindsTo.of_eq (h a kV doc pm an cdv ct)
theorem to_s1 (F:Fun K x qual st f fd) (h:∀ o a,BA x qual st [o] [(q,a)] [(p,o),(q,a)]):KBinds K fd [p,q] [q] gs1 gs1:=by
 refine ⟨fun s us ws _ hl=>?_,rel_s1⟩
 obtain ⟨oc,od,kV,doc,pm,an,cdv,ct,osl,rfl,lk,hcd⟩:=F.ex
 match us,ws,hl with
 | [o],[a],_=>exact BindsTo.of_eq (h o a kV doc pm an cdv ct)
theorem kb_sti (F:Fun K "show_ties" "show_ties" sSTi f fd):KBinds K fd ["ties"] ["ties"] g1 g1:=to_1 F fun _ _ _ _ _ _ _=>rfl
theorem kb_sc (F:Fun K "show_cut" "show_cut" sSC f fd):KBinds K fd ["cut"] ["cut"] g1 g1:=to_1 F fun _ _ _ _ _ _ _=>rfl
theorem kb_scs (F:Fun K "show_cuts" "show_cuts" sSCs f fd):KBinds K fd ["cuts"] ["cuts"] g1 g1:=to_1 F fun _ _ _ _ _ _ _=>rfl
theorem kb_sw (F:Fun K "show_web" "show_web" sSW f fd):KBinds K fd ["web"] ["web"] g1 g1:=to_1 F fun _ _ _ _ _ _ _=>rfl
theorem kb_rr (F:Fun K "read_row" "read_row" sRR f fd):KBinds K fd ["text"] ["text"] g1 g1:=to_1 F fun _ _ _ _ _ _ _=>rfl
theorem kb_ds (F:Fun K "say" "Desk.say" sDS f fd):KBinds K fd ["self","row"] ["row"] gs1 gs1:=to_s1 F fun _ _ _ _ _ _ _ _=>rfl
end
abbrev sSh:Stmt:=top 172 -- _law_shown_right
theorem cut_to11 (xs:List V):cutV xs none (some 11)=xs.take 11:=by
 unfold cutV HT.sIx
 simp
theorem inRow_one (z:Str):inRow [z]=z:=by
 unfold inRow
 rw [if_neg (by simp)]
 exact StrLaws.glued_eq_join _ _
theorem joinS {N:L2.St->Hp->Prop} {G:Prop} (S:L2.St->Hp->Prop) (use:(∀ σ H,S σ H->N σ H)->G) (rest:∀ σ H,S σ H->N σ H):G:=use rest
theorem Same.but' {H H1:Hp} {p:Addr} (s:Same H H1):But p H H1:=fun c o e _=>s c o e
theorem Row.same {H H1:Hp} {p:Addr} (r:Row H p) (s:Same H H1):Row H1 p:=let ⟨a,b,e⟩:=r;⟨a,b,s _ _ e⟩
section
variable {P:Program} {w:World} {K:PySem.W.Frag} {mg:Str->Option Value} {base:Heap}
variable {fD fST fSC fSCs:Addr} {fdD fdST fdSC fdSCs:FuncData}
def spSh:Sp:=fun vs H Q _=>∃ (p a:Addr) (ns:List Str),vs=[.ref p,.ref a]/\Row H p/\H a=some (.lst (ns.map V.str))/\GoodP ns/\∀ H',Row H' p->But p H H'->Q (.bl true) H'
abbrev nSh:List Str:=["_law_pot","_law_names","_law_some","_law_due","_law_at","_law_part","_law_often"]
theorem scSh:FnScope nSh ["_law_pot","_law_names"] (defScope sSh):=⟨rfl,rfl,rfl,by decide +kernel,rfl,by decide +kernel,by decide +kernel⟩
theorem ok_sh {f:Addr} {fd:FuncData} (F:Fun K "_law_shown_right" "_law_shown_right" sSh f fd) (D:Df K mg "_law_draw" sDraw ["_law_pot","_law_many"] fD fdD) (DT:Df K mg "show_ties" sSTi ["ties"] fST fdST) (GT:FnOk P w K mg base CX0 2 fST fdST ["ties"] (spSTi (K:=K))) (DC:Df K mg "show_cut" sSC ["cut"] fSC fdSC) (DCs:Df K mg "show_cuts" sSCs ["cuts"] fSCs fdSCs) (GCs:FnOk P w K mg base CX0 3 fSCs fdSCs ["cuts"] (spSCs (K:=K))) (T:Glb mg):FnOk P w K mg base CX0 4 f fd ["_law_pot","_law_names"] spSh:=by
 have G:FnOk P w K mg base CX0 1 fD fdD ["_law_pot","_law_many"] spDraw:=ok_draw D.fn T
 have GC:FnOk P w K mg base CX0 1 fSC fdSC ["cut"] (spSC (K:=K)):=ok_sc DC.fn
 refine F.ok scSh (fun vs H Q E h=>?_) (fun cdv A outer s H vs Q E hr h=>?_)
 ·obtain ⟨p,a,ns,rfl,_⟩:=h
  rfl
 ·obtain ⟨p,a,ns,rfl,hp,ha,good,k⟩:=h
  have h1:=hr.mono (j:=1) (by decide)
  have h2:=hr.mono (j:=2) (by decide)
  have hu:=low 0 hr
  refine ⟨_,pss_cons (ps_setL (i:=2) ["_law_k"] [0] scSh.nd rfl rfl rfl (compSc (osc:=(defScope sSh).names) (N:=nSh) rfl rfl (by decide +kernel)) (gk_name (by decide)) (pi_range1 rfl T.range (pa_cons pe_int pa_nil))
    (fun _ _ _=>pg_name (i:=0) (show (["_law_k","_law_pot"]:List Str).Nodup by decide +kernel) rfl (Or.inl rfl))
    (fun _ _ _=>pifs_one (pt_cmpR (r:=rEq) op_eq (pe_call G h1 rfl D.mgf D.fn.kp D.b .nil pass0 (pa_cons (pv 1) (pa_cons pe_int pa_nil))) pe_int (nomark _)))
    (fun _ _ _=>pv 0))
   (pss_cons (ps_set (i:=3) scSh.nd rfl (Or.inl rfl) (pe_bm PySem.F.plainAttrs_str PySem.F.slot_str_join PySem.F.type_str_join mt_join pe_str (pa_cons
    (pe_lc ["_law_k"] [] rfl (compSc (osc:=(defScope sSh).names) (N:=nSh) rfl rfl (by decide +kernel)) (gk_name (by decide)) (pi_list (pv 2))
     (fun _ _ _=>pg_name (i:=0) (show (["_law_k"]:List Str).Nodup by decide +kernel) rfl (Or.inl rfl)) (fun _ _ _=>pifs_nil)
     (fun _ _ _=>pe_callTy (r:=rStrI) call_str_int (by rfl) T.str PyProof.Rows.boot_str (pa_cons (pv 0) pa_nil))) pa_nil)))
   (pss_cons (ps_if (pt_cmpR (op_eq_nil hu) (pv 2) (pe_lst pa_nil) (nomark _)) (pss_one (ps_set (i:=3) scSh.nd rfl (Or.inl rfl) pe_str)) pss_nil)
   (pss_cons (ps_if (PW.pt (pw_or (pt_cmpR op_ne (pe_callK0 GT h2 rfl DT.mgf DT.fn.kp (kb_sti DT.fn) pass0 (pk_cons (pv 2) pk_nil)) (pv 3) (nomark _)) (pw_or1 (pt_cmpR op_ne (pe_call GT h2 rfl DT.mgf DT.fn.kp DT.b .nil pass0 (pa_cons (pv 2) pa_nil)) (pv 3) (nomark _))))) (pss_one ps_never) pss_nil)
   (pss_cons (ps_set (i:=4) scSh.nd rfl (Or.inr rfl) (pe_call G h1 rfl D.mgf D.fn.kp D.b .nil pass0 (pa_cons (pv 0) (pa_cons (pe_callB call_len_seq (by rfl) T.len PySem.boot_len (pa_cons (pv 1) pa_nil)) pa_nil))))
   (pss_cons (ps_set (i:=5) scSh.nd rfl (Or.inl rfl) (pe_callTy call_tuple_of (by rfl) T.tuple PyProof.Rows.boot_tuple (pa_cons (pe_slice sl_list
    (pe_lc ["_law_name_here"] [1,4,0] rfl (compSc (osc:=(defScope sSh).names) (N:=nSh) rfl rfl (by decide +kernel)) (gk_name (by decide)) (pi_list (pv 1))
     (fun _ _ _=>pg_name (i:=0) (show (["_law_name_here","_law_names","_law_at","_law_pot"]:List Str).Nodup by decide +kernel) rfl (Or.inl rfl))
     (fun _ _ _=>pifs_one (PW.pt (pw_or (pt_cmpR (r:=rEq) op_eq (pv 0) (pe_ix (r:=rIxL K) ix_list (pv 1) (pv 2) (fun _ _=>rfl)) (nomark _)) (pw_or1 (pt_cmpR (r:=rEq) op_eq (pe_call G h1 rfl D.mgf D.fn.kp D.b .nil pass0 (pa_cons (pv 3) (pa_cons pe_int pa_nil))) pe_int (nomark _))))))
     (fun _ _ _=>pv 0)) po_none (po_some pe_int)) pa_nil)))
   (pss_cons (ps_set (i:=6) scSh.nd rfl (Or.inl rfl) (pe_op op_add pe_int (pe_call G h1 rfl D.mgf D.fn.kp D.b .nil pass0 (pa_cons (pv 0) (pa_cons (pe_op op_sub (pe_op op_pow pe_int pe_int) pe_int) pa_nil)))))
   (pss_cons (ps_if (PW.pt (pw_or (pt_cmpR op_ne (pe_callK0 GC h1 rfl DC.mgf DC.fn.kp (kb_sc DC.fn) pass0 (pk_cons (pv 5) pk_nil)) (pe_bm PySem.F.plainAttrs_str PySem.F.slot_str_join PySem.F.type_str_join mt_joinT pe_str (pa_cons (pv 5) pa_nil)) (nomark _)) (pw_or1 (pt_cmpR op_ne (pe_callK0 GCs hr rfl DCs.mgf DCs.fn.kp (kb_scs DCs.fn) pass0 (pk_cons (pe_lst (pa_cons (pv 5) pa_nil)) pk_nil)) (pe_bm PySem.F.plainAttrs_str PySem.F.slot_str_join PySem.F.type_str_join mt_joinT pe_str (pa_cons (pv 5) pa_nil)) (nomark _))))) (pss_one ps_never) pss_nil)
   (pss_one (ps_ret (pe_and (pe_cmpR op_eq (pe_callK0 GCs hr rfl DCs.mgf DCs.fn.kp (kb_scs DCs.fn) pass0 (pk_cons (pe_lst (pa_cons (pe_tup (pa_cons (pv 5) (pa_cons (pv 6) pa_nil))) pa_nil)) pk_nil)) (pe_op op_add_str (pe_op op_add_str (pe_bm PySem.F.plainAttrs_str PySem.F.slot_str_join PySem.F.type_str_join mt_joinT pe_str (pa_cons (pv 5) pa_nil)) pe_str) (pe_callTy (r:=rStrI) call_str_int (by rfl) T.str PyProof.Rows.boot_str (pa_cons (pv 6) pa_nil))) (nomark _)) (pe_one (pe_cmpR op_eq (pe_callK0 GCs hr rfl DCs.mgf DCs.fn.kp (kb_scs DCs.fn) pass0 (pk_cons (pe_lst pa_nil) pk_nil)) pe_str (nomark _))))))))))))),?_⟩
  have big:5000<=sizeLine:=by decide
  have nap:a≠p:=fun e=>by
   obtain ⟨x,y,r⟩:=hp
   rw [e,r] at ha
   cases ns<;>simp at ha
  have t30:(30:Int).toNat=30:=rfl
  refine ⟨_,rfl,by omega,by omega,lc_range (fun i ys H2=>Row H2 p/\But p H H2/\∃ ks:List Int,ys=ks.map V.int/\ks.length<=i/\∀ x∈ks,0<=x/\x < 30) ⟨hp,But.refl _ _,[],rfl,Nat.le_refl _,fun _ z=>nomatch z⟩ ?_ ?_ ?_⟩
  ·rintro i ys H2 hi ⟨_,_,ks,rfl,hl,_⟩
   rw [List.length_map]
   omega
  ·rintro i ys H2 R hi ⟨hp2,b2,ks,rfl,hl,hk⟩ kR
   simp only [gName]
   refine ⟨_,rfl,p,3,rfl,hp2,by decide,by decide,fun d H3 _ _ hp3 b3=>⟨rfl,_,rfl,?_⟩⟩
   refine ite2 (fun _=>⟨_,rfl,kR _ _ ⟨hp3,b2.trans b3,ks++[0+(i:Int)],by simp,by simp;omega,fun x hx=>?_⟩⟩) (fun _=>kR _ _ ⟨hp3,b2.trans b3,ks,rfl,by omega,hk⟩)
   rcases List.mem_append.mp hx with q | q
   ·exact hk x q
   ·rw [List.mem_singleton.mp q];omega
  rintro ys H2 ⟨hp2,b2,ks,rfl,kl,hk⟩ ls nls
  have kl':ks.length<=30:=by omega
  have hk':∀ x∈ks,0<=x/\x < 10 ^ 13:=fun x hx=>by have:=hk x hx;omega
  have ha2:=b2 _ _ ha nap
  have s3:=same_upd (o:=.lst (ks.map V.int)) nls
  have h3:=upd_same (H:=H2) (a:=ls) (o:=.lst (ks.map V.int))
  have hp3:=hp2.same s3
  have ha3:=s3 _ _ ha2
  have b3:But p H (upd H2 ls (.lst (ks.map V.int))):=b2.trans (Same.but' (p:=p) s3)
  change tSeq _ _ _ _ (upd H2 ls (.lst (ks.map V.int)))
  generalize upd H2 ls (.lst (ks.map V.int))=H3 at s3 h3 hp3 ha3 b3 ⊢
  refine ⟨rfl,_,rfl,ls,rfl,⟨_,SqL.of h3⟩,lc_list (K:=K) (xs:=ks.map V.int) (fun i ys H4=>H4=H3/\ys=((ks.take i).map txt).map V.str) ⟨rfl,rfl⟩ ?_ ?_ ?_ ?_⟩
  ·rintro i ys H4 _ ⟨_,rfl⟩
   rw [List.length_map,List.length_map,List.length_take]
   omega
  ·rintro i ys H4 _ ⟨rfl,_⟩
   exact SqL.of h3
  ·rintro i v ys H4 R hv ⟨rfl,rfl⟩ kR
   rw [List.getElem?_map] at hv
   obtain ⟨j,ej,rfl⟩:=Option.map_eq_some_iff.mp hv
   have hj:=hk' j (List.mem_of_getElem? ej)
   simp only [tYes,gName,if_true]
   refine ⟨_,rfl,j,rfl,log_small hj.1 hj.2,kR _ _ ⟨rfl,?_⟩⟩
   rw [List.take_add_one,ej]
   simp
   rfl
  rintro ys H4 ⟨rfl,rfl⟩ lt nlt
  rw [List.length_map,List.take_of_length_le (Nat.le_refl _)]
  have ft:=fits_ints hk' (by omega:ks.length<=100)
  have s5:=same_upd (o:=.lst ((ks.map txt).map V.str)) nlt
  refine ⟨bl1,lt,ks.map txt,rfl,rfl,SqL.of upd_same,?_,?_⟩
  ·unfold Fits at ft
   rw [show bl1.length=1 from by decide +kernel]
   omega
  have h5:=s5 _ _ h3
  have hp5:=hp3.same s5
  have ha5:=s5 _ _ ha3
  have b5:=b3.trans (Same.but' (p:=p) s5)
  change tSeq _ _ _ _ (upd H4 lt (.lst ((ks.map txt).map V.str)))
  generalize upd H4 lt (.lst ((ks.map txt).map V.str))=H5 at s5 h5 hp5 ha5 b5 ⊢
  apply joinS (fun σ HH=>σ=[some (.ref p),some (.ref a),some (.ref ls),some (.str (inRow (ks.map txt))),none,none,none]/\Row HH p/\But p H HH/\HH a=some (.lst (ns.map V.str))/\HH ls=some (.lst (ks.map V.int)))
  ·intro rest
   refine ⟨_,rfl,(by decide),fun le nle=>?_⟩
   have s6:=same_upd (o:=.lst []) nle
   refine ⟨ls,le,_,rfl,rfl,SqL.of (s6 _ _ h5),SqL.of upd_same,_,rfl,?_⟩
   rcases Decidable.em (ks≠[]) with e | e
   ·cases ks with
    | nil=>exact absurd rfl e
    | cons k0 ks =>
     refine iteF (rest _ _ ⟨?_,hp5.same s6,b5.trans (Same.but' (p:=p) s6),s6 _ _ ha5,s6 _ _ h5⟩)
     rfl
   ·cases ks with
    | nil =>
     refine iteT (rest _ _ ⟨?_,hp5.same s6,b5.trans (Same.but' (p:=p) s6),s6 _ _ ha5,s6 _ _ h5⟩)
     rfl
    | cons k0 ks=>exact absurd (by simp) e
  rintro σ H6 ⟨rfl,hp6,b6,ha6,h6⟩
  refine ⟨_,rfl,ls,ks,rfl,SqL.of h6,hk',by omega,fun H7 s7=>⟨_,rfl,rfl,_,rfl,?_⟩⟩
  rw [decide_eq_true rfl]
  refine iteF ⟨_,rfl,ls,ks,rfl,SqL.of (s7 _ _ h6),hk',by omega,fun H8 s8=>⟨_,rfl,rfl,_,rfl,?_⟩⟩
  rw [decide_eq_true rfl]
  refine iteF ?_
  have s68:=s7.trans s8
  have ha8:=s68 _ _ ha6
  have hp8:=hp6.same s68
  have b8:=b6.trans (Same.but' (p:=p) s68)
  have hlen:((ns.map V.str).length:Int)=ns.length:=by rw [List.length_map]
  have lpos:(0:Int) < ns.length:=by have:=good.one;omega
  have lbig:(ns.length:Int) < 2 ^ 64:=by have:=good.few;omega
  refine ⟨_,rfl,_,rfl,a,_,rfl,.inl (SqL.of ha8),p,_,rfl,hp8,by rw [hlen];exact lpos,by rw [hlen];exact lbig,fun at_ H9 o1 o2 hp9 b9=>?_⟩
  rw [hlen] at o2
  obtain ⟨m,rfl⟩:=Int.eq_ofNat_of_zero_le o1
  have hm:m < ns.length:=by omega
  have ha9:=b9 _ _ ha8 nap
  have b09:=b8.trans b9
  have atm:atI (ns.map V.str) (m:Int)=some (V.str ns[m]):=atI_nat (j:=m) (xs:=ns.map V.str) (v:=V.str ns[m]) (by simp [hm])
  refine ⟨_,rfl,a,rfl,⟨_,SqL.of ha9⟩,lc_list (K:=K) (xs:=ns.map V.str) (fun i ys H2=>Row H2 p/\But p H H2/\H2 a=some (.lst (ns.map V.str))/\∃ zs:List Str,ys=zs.map V.str/\zs.length<=i/\(∀ z∈zs,nm z=true)/\(m < i->zs≠[])) ⟨hp9,b09,ha9,[],rfl,Nat.le_refl _,(fun _ z=>nomatch z),fun z=>absurd z (Nat.not_lt_zero _)⟩ ?_ ?_ ?_ ?_⟩
  ·rintro i ys H2 hi ⟨_,_,_,zs,rfl,zl,_⟩
   rw [List.length_map] at hi ⊢
   have:=good.few
   omega
  ·rintro i ys H2 _ ⟨_,_,ha2',_⟩
   exact SqL.of ha2'
  ·rintro i v ys H2 R hv ⟨hp2',bb,ha2',zs,rfl,zl,zn,zm⟩ kR
   rw [List.getElem?_map] at hv
   obtain ⟨z,ez,rfl⟩:=Option.map_eq_some_iff.mp hv
   have hz:=good.nms z (List.mem_of_getElem? ez)
   have add:∀ H3,Row H3 p->But p H2 H3->R (zs.map V.str++[V.str z]) H3:=fun H3 r3 c3=>kR _ _ ⟨r3,bb.trans c3,c3 _ _ ha2' nap,zs++[z],by simp,by simp;omega,fun y hy=>by
    rcases List.mem_append.mp hy with q | q
    ·exact zn y q
    ·rw [List.mem_singleton.mp q];exact hz,fun _=>by simp⟩
   simp only [gName]
   refine ⟨_,rfl,_,rfl,_,rfl,a,_,(m:Int),.str ns[m],rfl,rfl,SqL.of ha2',atm,rfl,_,rfl,?_⟩
   refine ite2 (fun c=>iteT ⟨_,rfl,add _ hp2' (But.refl _ _)⟩) (fun c=>?_)
   refine ⟨_,rfl,p,2,rfl,hp2',by decide,by decide,fun d H3 _ _ hp3' c3=>⟨rfl,_,rfl,?_⟩⟩
   refine ite2 (fun _=>⟨_,rfl,add _ hp3' c3⟩) (fun _=>kR _ _ ⟨hp3',bb.trans c3,c3 _ _ ha2' nap,zs,rfl,by omega,zn,fun mi=>?_⟩)
   rcases Nat.lt_or_ge m i with q | q
   ·exact zm q
   ·obtain rfl:m=i:=by omega
    exfalso
    have e:z=ns[m]:=by
     rw [List.getElem?_eq_getElem hm] at ez
     exact (Option.some.inj ez).symm
    rw [e] at c
    simp at c
  rintro ys Ha ⟨hpa,ba,haa,zs,rfl,zl,zn,zm⟩ lc nlc
  have zne:zs≠[]:=zm (by rw [List.length_map];exact hm)
  refine ⟨11,rfl,lc,_,rfl,SqL.of upd_same,fun l2 n2=>?_⟩
  rw [cut_to11,<- List.map_take]
  refine ⟨l2,_,rfl,.inl ⟨SqL.of upd_same,fun t nt=>?_⟩⟩
  obtain ⟨qs,hqs⟩:∃ qs,qs=zs.take 11:=⟨_,rfl⟩
  have qne:qs≠[]:=by
   rw [hqs]
   cases zs with
   | nil=>exact absurd rfl zne
   | cons z zs=>simp
  have qn:∀ z∈qs,nm z=true:=fun z hz=>zn z (by rw [hqs] at hz;exact List.mem_of_mem_take hz)
  have ql:qs.length<=11:=by rw [hqs,List.length_take];omega
  rw [<- hqs] at nt ⊢
  have qf:Fits qs:=by
   have:=sum_le (b:=8) (l:=qs) fun x hx=>nm_len (qn x hx)
   unfold Fits
   omega
  have sb:Same Ha (upd (upd (upd Ha lc (.lst (zs.map V.str))) l2 (.lst (qs.map V.str))) t (.tup (qs.map V.str))):=by
   exact (same_upd nlc).trans ((same_upd n2).trans (same_upd nt))
  have hb:=upd_same (H:=upd (upd Ha lc (.lst (zs.map V.str))) l2 (.lst (qs.map V.str))) (a:=t) (o:=.tup (qs.map V.str))
  change tSeq _ _ _ _ (upd (upd (upd Ha lc (.lst (zs.map V.str))) l2 (.lst (qs.map V.str))) t (.tup (qs.map V.str)))
  generalize upd (upd (upd Ha lc (.lst (zs.map V.str))) l2 (.lst (qs.map V.str))) t (.tup (qs.map V.str))=Hb at sb hb ⊢
  have hpb:=hpa.same sb
  have bb:=ba.trans (Same.but' (p:=p) sb)
  refine ⟨_,rfl,_,_,rfl,rfl,⟨by decide,by decide,by decide⟩,_,_,rfl,rfl,p,_,rfl,hpb,(by decide),(by decide),fun d Hc d0 d1 hpc bc=>⟨_,_,rfl,rfl,?_⟩⟩
  have ntp:t≠p:=fun e=>by
   obtain ⟨x,y,r⟩:=hpb
   rw [e,r] at hb
   cases hb
  have hc:=bc _ _ hb ntp
  have bH:=bb.trans bc
  have jb:(qs.map (·.length)).sum+qs.length * pl1.length<=16777216:=by
   unfold Fits at qf
   rw [show pl1.length=1 from by decide +kernel]
   omega
  have jl:(Txt.join pl1 qs).length<=1000:=by
   have:=join_le pl1 qs
   rw [show pl1.length=1 from by decide +kernel] at this
   have:=sum_le (b:=8) (l:=qs) fun x hx=>nm_len (qn x hx)
   omega
  have on0:0<=1+d:=by omega
  have on1:1+d < 10 ^ 13:=by
   have:d < 10 ^ 12 - 1:=d1
   omega
  have e2:st1.length=1:=by decide +kernel
  have e3:(Str.ofString (toString (1+d))).length<=13:=txt_len on0 on1
  refine ⟨_,rfl,t,qs,rfl,SqT.of hc,qf,rfl,_,rfl,pl1,t,qs,rfl,rfl,SqT.of hc,jb,rfl,_,rfl,?_⟩
  rw [decide_eq_true rfl]
  refine iteF ⟨_,rfl,(show 1<=sizeLine by decide),fun l3 n3=>?_⟩
  have sd:=same_upd (o:=.lst [V.ref t]) n3
  refine ⟨l3,[(t,Txt.join pl1 qs)],rfl,upd_same,fun q hq=>?_,(by show 1<=100;decide),?_,fun He se=>?_⟩
  ·rw [List.mem_singleton.mp hq]
   exact .inl ⟨qs,qne,SqT.of (sd _ _ hc),qf,rfl⟩
  ·show (Txt.join pl1 qs).length+0+1<=100000
   omega
  have he:=se _ _ (sd _ _ hc)
  refine ⟨rfl,_,rfl,pl1,t,qs,rfl,rfl,SqT.of he,jb,rfl,_,rfl,?_⟩
  rw [show inRow ([(t,Txt.join pl1 qs)].map (·.2))=Txt.join pl1 qs from inRow_one _,decide_eq_true rfl]
  refine iteF ?_
  have sE:=sd.trans se
  have hpE:=hpc.same sE
  have bE:=bH.trans (Same.but' (p:=p) sE)
  refine ⟨_,rfl,_,rfl,(show 2<=sizeLine by decide),fun tt ntt=>⟨(show 1<=sizeLine by decide),fun l4 n4=>?_⟩⟩
  have sf:=(same_upd (o:=.tup [V.ref t,V.int (1+d)]) ntt).trans (same_upd (o:=.lst [V.ref tt]) n4)
  have htt:=(same_upd (o:=.lst [V.ref tt]) n4) _ _ (upd_same (H:=He) (a:=tt) (o:=.tup [V.ref t,V.int (1+d)]))
  refine ⟨l4,[(tt,Txt.join pl1 qs++st1++txt (1+d))],rfl,upd_same,fun q hq=>?_,(by show 1<=100;decide),?_,fun Hg sg=>?_⟩
  ·rw [List.mem_singleton.mp hq]
   exact .inr ⟨t,qs,1+d,SqT.of htt,sf _ _ he,qf,on0,on1,rfl⟩
  ·show (Txt.join pl1 qs++st1++txt (1+d)).length+0+1<=100000
   rw [app_len,app_len,e2]
   have:(txt (1+d)).length<=13:=e3
   omega
  have hg:=sg _ _ (sf _ _ he)
  refine ⟨rfl,_,rfl,pl1,t,qs,rfl,rfl,SqT.of hg,jb,_,_,rfl,rfl,(by rw [show (Str.ofString "*").length=1 from e2];omega),_,rfl,1+d,rfl,log_small on0 on1,_,_,rfl,rfl,(by rw [app_len,show (Str.ofString "*").length=1 from e2];omega),rfl,?_⟩
  rw [show inRow ([(tt,Txt.join pl1 qs++st1++txt (1+d))].map (·.2))=Txt.join pl1 qs++st1++txt (1+d) from inRow_one _]
  refine ⟨_,rfl,?_⟩
  rw [decide_eq_true rfl]
  refine iteT ⟨(show 0<=sizeLine by decide),fun l5 n5=>?_⟩
  have sh:=same_upd (o:=.lst []) n5
  refine ⟨l5,[],rfl,upd_same,(fun _ z=>nomatch z),(by show 0<=100;decide),(by show 0+0<=100000;decide),fun Hi si=>⟨rfl,?_⟩⟩
  have sAll:=sf.trans (sg.trans (sh.trans si))
  exact k _ (hpE.same sAll) (bE.trans (Same.but' (p:=p) sAll))
end
abbrev sDrn:Stmt:=top 170 -- _law_drawn
section
variable {P:Program} {w:World} {K:PySem.W.Frag} {mg:Str->Option Value} {base:Heap}
def spDrn:Sp:=fun vs H Q _=>∃ (p:Addr),vs=[.ref p]/\Row H p/\∀ (t a b:Addr) (ns:List Str) (ps:List (Str × Str)) (ts:List Addr) (H':Hp),Lists H' a b ns ps ts->srt ns=ns->H' t=some (.tup [.ref a,.ref b])->H a=none->H b=none->a≠b->Row H' p->But p H H'->Q (.ref t) H'
abbrev nDr:List Str:=["_law_pot","_law_names","_law_k","_law_pairs"]
theorem scDr:FnScope nDr ["_law_pot"] (defScope sDrn):=⟨rfl,rfl,rfl,by decide +kernel,rfl,by decide +kernel,by decide +kernel⟩
def DI1 (p q:Addr) (H:Hp) (i:Nat) (σ:L2.St) (H2:Hp):Prop:=∃ (v3:Option V) (ns:List Str),σ=[some (V.ref p),some (V.ref q),v3,none]/\Row H2 p/\But p H H2/\H2 q=some (.lst (ns.map V.str))/\ns.length=i/\(∀ z∈ns,nm z=true)/\ns.Nodup
def DI2 (p q b:Addr) (H:Hp) (ns:List Str) (i:Nat) (σ:L2.St) (H2:Hp):Prop:=∃ (v3:Option V) (ps:List (Str × Str)) (ts:List Addr),σ=[some (V.ref p),some (V.ref q),v3,some (V.ref b)]/\Row H2 p/\But p H H2/\Lists H2 q b ns ps ts/\ps.length=i
theorem ok_drn {f fD fN:Addr} {fd fdD fdN:FuncData} (F:Fun K "_law_drawn" "_law_drawn" sDrn f fd) (D:Df K mg "_law_draw" sDraw ["_law_pot","_law_many"] fD fdD) (DN:Df K mg "_law_name" sLName ["_law_pot","_law_taken"] fN fdN) (T:Glb mg):FnOk P w K mg base CX0 3 f fd ["_law_pot"] spDrn:=by
 have G:FnOk P w K mg base CX0 1 fD fdD ["_law_pot","_law_many"] spDraw:=ok_draw D.fn T
 have GN:FnOk P w K mg base CX0 2 fN fdN ["_law_pot","_law_taken"] spLN:=ok_lname DN.fn D T
 refine F.ok scDr (fun vs H Q E h=>?_) (fun cdv A outer s H vs Q E hr h=>?_)
 ·obtain ⟨p,rfl,_⟩:=h
  rfl
 ·obtain ⟨p,rfl,hp,k⟩:=h
  have h1:=hr.mono (j:=1) (by decide)
  refine ⟨_,pss_cons (ps_set (i:=1) scDr.nd rfl (Or.inl rfl) (pe_lst pa_nil))
   (pss_cons (ps_for PassesOwn.never rfl (pi_range1 rfl T.range (pa_cons (pe_op op_add pe_int (pe_call G h1 rfl D.mgf D.fn.kp D.b .nil pass0 (pa_cons (pv 0) (pa_cons pe_int pa_nil)))) pa_nil)) (pg_name (i:=2) scDr.nd rfl (Or.inl rfl))
    (pss_one (ps_expr (pe_bm PySem.F.plainAttrs_list PySem.F.slot_list_append PySem.F.type_list_append mt_append (pv 1) (pa_cons (pe_call GN hr rfl DN.mgf DN.fn.kp DN.b .nil pass0 (pa_cons (pv 0) (pa_cons (pv 1) pa_nil))) pa_nil)))))
   (pss_cons (ps_set (i:=3) scDr.nd rfl (Or.inl rfl) (pe_lst pa_nil))
   (pss_cons (ps_for PassesOwn.never rfl (pi_range1 rfl T.range (pa_cons (pe_call G h1 rfl D.mgf D.fn.kp D.b .nil pass0 (pa_cons (pv 0) (pa_cons pe_int pa_nil))) pa_nil)) (pg_name (i:=2) scDr.nd rfl (Or.inl rfl))
    (pss_one (ps_expr (pe_bm PySem.F.plainAttrs_list PySem.F.slot_list_append PySem.F.type_list_append mt_append (pv 3) (pa_cons (pe_tup (pa_cons
     (pe_ix ix_list (pv 1) (pe_call G h1 rfl D.mgf D.fn.kp D.b .nil pass0 (pa_cons (pv 0) (pa_cons (pe_callB call_len_seq (by rfl) T.len PySem.boot_len (pa_cons (pv 1) pa_nil)) pa_nil))) (fun _ _=>rfl)) (pa_cons
     (pe_ix ix_list (pv 1) (pe_call G h1 rfl D.mgf D.fn.kp D.b .nil pass0 (pa_cons (pv 0) (pa_cons (pe_callB call_len_seq (by rfl) T.len PySem.boot_len (pa_cons (pv 1) pa_nil)) pa_nil))) (fun _ _=>rfl)) pa_nil))) pa_nil)))))
   (pss_one (ps_ret (pe_tup (pa_cons (pe_callB call_sorted_txt (by rfl) T.sorted boot_sorted (pa_cons (pv 1) pa_nil)) (pa_cons (pv 3) pa_nil)))))))),?_⟩
  refine ⟨(by decide),fun q hq=>?_⟩
  have npq:p≠q:=ne_of_none hp.lst.choose_spec hq
  refine ⟨_,rfl,p,12,rfl,hp.upd_ne npq,by decide,by decide,fun d1 H1 d1a d1b hp1 b1=>?_⟩
  refine ⟨_,_,rfl,rfl,_,rfl,by omega,by omega,?_⟩
  have b1':But p H H1:=fun c o e n=>b1 c o (by rw [L2.upd_ne (ne_of_none e hq)];exact e) n
  refine for_range (DI1 p q H) ⟨_,[],rfl,hp1,b1',b1 _ _ upd_same (Ne.symm npq),rfl,(fun _ z=>nomatch z),List.nodup_nil⟩ ?_ ?_
  ·rintro i σ H2 hi ⟨v3,ns,rfl,hp2,b2,hq2,hl,hn,nd⟩
   refine ⟨_,rfl,.inl ⟨rfl,_,SqL.of hq2⟩,_,rfl,_,rfl,p,q,ns,rfl,hp2,hq2,by omega,fun z H3 hz nz hp3 b3=>?_⟩
   have hq3:=b3 _ _ hq2 (Ne.symm npq)
   refine ⟨q,_,_,rfl,rfl,hq3,(by rw [List.length_map,hl];exact small1000 (by omega)),?_⟩
   refine ⟨_,ns++[z],rfl,hp3.upd_ne npq,(b2.trans b3).upd_new hq,?_,by simp [hl],?_,?_⟩
   ·rw [upd_same];simp
   ·intro y hy
    rcases List.mem_append.mp hy with h | h
    ·exact hn y h
    ·rw [List.mem_singleton.mp h];exact hz
   ·exact nd_snoc nd nz
  ·rintro σ H3 ⟨v3,ns,rfl,hp3,b03,hq3,hl,hn,nd⟩
   refine ⟨(by decide),fun b hb=>?_⟩
   have nqb:q≠b:=ne_of_none hq3 hb
   have npb:p≠b:=ne_of_none hp3.lst.choose_spec hb
   have Hb:H b=none:=by
    cases e:H b with
    | none=>rfl
    | some o=>exact absurd (b03 _ _ e (Ne.symm npb)) (by rw [hb];intro z;cases z)
   have good:GoodP ns:=⟨by omega,by omega,hn,nd⟩
   refine ⟨_,rfl,p,31,rfl,hp3.upd_ne npb,by decide,by decide,fun d2 H4 d2a d2b hp4 b4=>?_⟩
   have b04:But p H H4:=fun c o e n=>b4 c o (by rw [L2.upd_ne (ne_of_none e Hb)];exact b03 c o e n) n
   have hq4:=b4 q _ (by rw [L2.upd_ne nqb];exact hq3) (Ne.symm npq)
   have hb4:=b4 b _ upd_same (Ne.symm npb)
   refine ⟨_,rfl,by omega,by omega,?_⟩
   refine for_range (DI2 p q b H ns) ⟨_,[],[],rfl,hp4,b04,⟨hq4,hb4,.nil,good,(fun _ z=>nomatch z),by decide⟩,rfl⟩ ?_ ?_
   ·rintro i σ H5 hi ⟨v3,ps,ts,rfl,hp5,b5,L5,hl5⟩
    have hlen:((ns.map V.str).length:Int)=ns.length:=by rw [List.length_map]
    have lpos:(0:Int) < ns.length:=by have:=good.one;omega
    have lbig:(ns.length:Int) < 2 ^ 64:=by have:=good.few;omega
    refine ⟨_,rfl,.inl ⟨rfl,_,SqL.of L5.hb⟩,_,rfl,_,rfl,_,rfl,q,_,rfl,.inl (SqL.of L5.ha),p,_,rfl,hp5,by rw [hlen];exact lpos,by rw [hlen];exact lbig,fun one H6 o1 o2 hp6 b6=>?_⟩
    have L6:=But.lists L5 b6 hp5.lst (Ne.symm npq) (Ne.symm npb)
    rw [hlen] at o2
    obtain ⟨m,rfl⟩:=Int.eq_ofNat_of_zero_le o1
    have hm:m < ns.length:=by omega
    refine ⟨q,_,_,_,rfl,rfl,SqL.of L6.ha,atI_nat (j:=m) (v:=.str ns[m]) (by simp [hm]),?_⟩
    refine ⟨_,rfl,_,rfl,_,rfl,q,_,rfl,.inl (SqL.of L6.ha),p,_,rfl,hp6,by rw [hlen];exact lpos,by rw [hlen];exact lbig,fun oth H8 t1 t2 hp8 b7=>?_⟩
    have L8:=But.lists L6 b7 hp6.lst (Ne.symm npq) (Ne.symm npb)
    rw [hlen] at t2
    obtain ⟨n,rfl⟩:=Int.eq_ofNat_of_zero_le t1
    have hn':n < ns.length:=by omega
    have b8:But p H H8:=(b5.trans b6).trans b7
    refine ⟨q,_,_,_,rfl,rfl,SqL.of L8.ha,atI_nat (j:=n) (v:=.str ns[n]) (by simp [hn']),(by show 2<=sizeLine;decide),fun t ht=>?_⟩
    have L9:=L8.same (same_upd (o:=.tup [.str ns[m],.str ns[n]]) ht)
    have lts:ts.length=i:=by rw [L8.hT.len,hl5]
    refine ⟨b,_,_,rfl,rfl,L9.hb,(by rw [List.length_map,lts];exact small1000 (by omega)),?_⟩
    have npt:p≠t:=ne_of_none hp8.lst.choose_spec ht
    have Ht:H t=none:=by
     cases e:H t with
     | none=>rfl
     | some o=>exact absurd (b8 _ _ e (Ne.symm npt)) (by rw [ht];intro z;cases z)
    refine ⟨_,ps++[(ns[m],ns[n])],ts++[t],rfl,(hp8.upd_ne npt).upd_ne npb,(b8.upd_new Ht).upd_new Hb,⟨?_,?_,?_,good,?_,?_⟩,by simp [hl5]⟩
    ·rw [L2.upd_ne nqb];exact L9.ha
    ·rw [upd_same];simp
    ·refine TiesAt.snoc (L9.hT.mono fun t' xs e=>?_) ?_
     ·rw [L2.upd_ne (ne_of e L9.hb (by intro z;cases z))];exact e
     ·rw [L2.upd_ne (ne_of upd_same L9.hb (by intro z;cases z))];exact upd_same
    ·intro z hz
     rcases List.mem_append.mp hz with h | h
     ·exact L8.ins z h
     ·rw [List.mem_singleton.mp h];exact ⟨List.getElem_mem hm,List.getElem_mem hn'⟩
    ·rw [List.length_append,hl5];simp;omega
   ·rintro σ H5 ⟨v3,ps,ts,rfl,hp5,b5,L5,hl5⟩
    have few:ns.length<=12:=good.few
    refine ⟨_,rfl,q,ns,rfl,SqL.of L5.ha,by omega,fun l hl0=>?_⟩
    have L6:=L5.same (same_upd (o:=.lst ((srt ns).map V.str)) hl0)
    have npl:p≠l:=ne_of_none hp5.lst.choose_spec hl0
    have Hl:H l=none:=by
     cases e:H l with
     | none=>rfl
     | some o=>exact absurd (b5 _ _ e (Ne.symm npl)) (by rw [hl0];intro z;cases z)
    have nlb:l≠b:=fun e=>by rw [e] at hl0;rw [L5.hb] at hl0;cases hl0
    refine ⟨_,rfl,(by show 2<=sizeLine;decide),fun t ht=>?_⟩
    have hp6:=hp5.upd_ne (o:=.lst ((srt ns).map V.str)) npl
    have npt:p≠t:=ne_of_none hp6.lst.choose_spec ht
    have b6:But p H (upd H5 l (.lst ((srt ns).map V.str))):=b5.upd_new Hl
    have Ht:H t=none:=by
     cases e:H t with
     | none=>rfl
     | some o=>exact absurd (b6 _ _ e (Ne.symm npt)) (by rw [ht];intro z;cases z)
    have L7:Lists (upd H5 l (.lst ((srt ns).map V.str))) l b (srt ns) ps ts:=⟨upd_same,L6.hb,L6.hT,⟨by rw [srt_len];exact good.one,by rw [srt_len];exact good.few,fun z hz=>hn z (srt_mem.mp hz),srt_nd nd⟩,fun z hz=>⟨srt_mem.mpr (L6.ins z hz).1,srt_mem.mpr (L6.ins z hz).2⟩,L6.few⟩
    exact k t l b (srt ns) ps ts _ (L7.same (same_upd ht)) (srt_of (List.Perm.refl _) (srt_pw ns)).symm upd_same Hl Hb nlb (hp6.upd_ne npt) (b6.upd_new Ht)
end
section
variable {P:Program} {w:World} {K:PySem.W.Frag} {mg:Str->Option Value} {base:Heap}
variable {C D fI fP fS fR fDr fWr fSW fRR fSh fDI fDS:Addr} {fdI fdP fdS fdR fdDr fdWr fdSW fdRR fdSh fdDI fdDS:FuncData}
def spLaw (K:PySem.W.Frag):Sp:=fun vs H Q _=>∃ (a:Addr) (ns:List Int),vs=[.ref a]/\SqL K H a (ns.map V.int)/\ns.length<=63/\∀ H',Q (.bl true) H'
abbrev nL:List Str:=["_law_script","_law_k","_law_pot","_law_names","_law_pairs","_law_due","_law_told","_law_desk"]
theorem scL:FnScope nL ["_law_script"] (defScope sLaw):=⟨rfl,rfl,rfl,by decide +kernel,rfl,by decide +kernel,by decide +kernel⟩
theorem ok_law {f:Addr} {fd:FuncData} (F:Fun K "law" "law" sLaw f fd) (M:Mt K mg C fP fS fdP fdS) (MkW:Mk K C fI) (bI:Binds K fdI ["self","places","ties"] []) (GI:FnOk P w K mg base CX0 4 fI fdI ["self","places","ties"] (spInit C))
  (DR:Df K mg "_law_pot_at" sRow ["_law_script","_law_k"] fR fdR) (DDr:Df K mg "_law_drawn" sDrn ["_law_pot"] fDr fdDr) (GDr:FnOk P w K mg base CX0 3 fDr fdDr ["_law_pot"] spDrn) (DWr:Df K mg "_law_written" sWrn ["_law_names","_law_pairs"] fWr fdWr)
  (DSW:Df K mg "show_web" sSW ["web"] fSW fdSW) (GSW:FnOk P w K mg base CX0 3 fSW fdSW ["web"] (spSW C)) (DRR:Df K mg "read_row" sRR ["text"] fRR fdRR) (GRR:FnOk P w K mg base CX0 8 fRR fdRR ["text"] (spRR C))
  (DSh:Df K mg "_law_shown_right" sSh ["_law_pot","_law_names"] fSh fdSh) (GSh:FnOk P w K mg base CX0 4 fSh fdSh ["_law_pot","_law_names"] spSh)
  (WD:DC K mg D) (MkD:Mk K D fDI) (bDI:Binds K fdDI ["self"] []) (GDI:FnOk P w K mg base CX0 1 fDI fdDI ["self"] (spDI D)) (FS:Fun K "say" "Desk.say" sDS fDS fdDS) (MmS:Meth K D "say" fDS) (GDS:FnOk P w K mg base CX0 10 fDS fdDS ["self","row"] (spDS C D)) (T:Glb mg):FnOk P w K mg base CX0 11 f fd ["_law_script"] (spLaw K):=by
 have GR:FnOk P w K mg base CX0 1 fR fdR ["_law_script","_law_k"] (spRow (K:=K)):=ok_row DR.fn T
 have GWr:FnOk P w K mg base CX0 1 fWr fdWr ["_law_names","_law_pairs"] spWrn:=ok_wrn DWr.fn
 have GP:FnOk P w K mg base CX0 1 fP fdP ["self"] (spPl C):=ok_places M.pF M.wc T
 have GT:FnOk P w K mg base CX0 1 fS fdS ["self"] (spTs C):=ok_ties M.sF M.wc T
 refine F.ok scL (fun vs H Q E h=>?_) (fun cdv A outer s H vs Q E hr h=>?_)
 ·obtain ⟨a,ns,rfl,_⟩:=h
  rfl
 ·obtain ⟨a,ns,rfl,hS,hlen,k⟩:=h
  have hr1:=hr.mono (j:=1) (by decide)
  have hr2:=hr.mono (j:=2) (by decide)
  have hr3:=hr.mono (j:=3) (by decide)
  have hr4:=hr.mono (j:=4) (by decide)
  have hr5:=hr.mono (j:=5) (by decide)
  have hr8:=hr.mono (j:=8) (by decide)
  refine ⟨_,pss_cons (ps_for PassesOwn.never rfl (pi_range1 rfl T.range (pa_cons (pe_callB (call_max2 rfl) (by rfl) T.max boot_max (pa_cons pe_int (pa_cons (pe_callB (call_min2 rfl) (by rfl) T.min boot_min (pa_cons (pe_callB call_len_seq (by rfl) T.len PySem.boot_len (pa_cons (pv 0) pa_nil)) (pa_cons pe_int pa_nil))) pa_nil))) pa_nil)) (pg_name (i:=1) scL.nd rfl (Or.inl rfl))
    (pss_cons (ps_set (i:=2) scL.nd rfl (Or.inl rfl) (pe_call GR hr1 rfl DR.mgf DR.fn.kp DR.b .nil pass0 (pa_cons (pv 0) (pa_cons (pv 1) pa_nil))))
    (pss_cons (ps_asg (pe_call GDr hr3 rfl DDr.mgf DDr.fn.kp DDr.b .nil pass0 (pa_cons (pv 2) pa_nil)) (pg_tup rfl (pgs_cons (pg_name (i:=3) scL.nd rfl (Or.inl rfl)) (pgs_cons (pg_name (i:=4) scL.nd rfl (Or.inl rfl)) pgs_nil))))
    (pss_cons (ps_set (i:=5) scL.nd rfl (Or.inl rfl) (pe_call GWr hr1 rfl DWr.mgf DWr.fn.kp DWr.b .nil pass0 (pa_cons (pv 3) (pa_cons (pv 4) pa_nil))))
    (pss_cons (ps_if (pt_cmpR op_ne (pe_callK0 GSW hr3 rfl DSW.mgf DSW.fn.kp (kb_sw DSW.fn) pass0 (pk_cons (pe_make MkW GI hr5 rfl M.wc.mgC bI .nil pass0 (pa_cons (pv 3) (pa_cons (pv 4) pa_nil))) pk_nil)) (pv 5) (nomark _)) (pss_one ps_never) pss_nil)
    (pss_cons (ps_set (i:=6) scL.nd rfl (Or.inl rfl) (pe_callK0 GRR hr8 rfl DRR.mgf DRR.fn.kp (kb_rr DRR.fn) pass0 (pk_cons (pv 5) pk_nil)))
    (pss_cons (ps_if (PW.pt (pw_or (pt_cmpR (op_ne_al 0 (low 0 hr)) (pe_meth0 (pv 6) M.wc.cl M.pM GP hr1 M.pB .nil pass0) (pv 3) (nomark _)) (pw_or (pt_cmpR (op_ne_al 1 (low 1 hr)) (pe_meth0 (pv 6) M.wc.cl M.sM GT hr1 M.sB .nil pass0) (pv 4) (nomark _)) (pw_or1 (pt_not (pt_val (pe_call GSh hr4 rfl DSh.mgf DSh.fn.kp DSh.b .nil pass0 (pa_cons (pv 2) (pa_cons (pv 3) pa_nil))) (fun _=>rfl))))))) (pss_one ps_never) pss_nil)
    (pss_cons (ps_set (i:=7) scL.nd rfl (Or.inl rfl) (pe_make0 MkD GDI hr2 rfl WD.mgD bDI .nil pass0))
    (pss_one (ps_if (PW.pt (pw_or (pt_cmpR op_ne (pe_methK0 (pv 7) WD.cl MmS GDS hr (kb_ds FS) pass0 (pk_cons (pe_op op_add_str (pe_op op_add_str (pe_op op_add_str pe_str (pe_ix ix_list (pv 3) pe_int (fun _ _=>rfl))) pe_str) (pv 5)) pk_nil)) pe_str (nomark _)) (pw_or1 (pt_cmpR op_ne (pe_methK0 (pv 7) WD.cl MmS GDS hr (kb_ds FS) pass0 (pk_cons (pe_op op_add_str pe_str (pe_ix ix_list (pv 3) pe_int (fun _ _=>rfl))) pk_nil)) (pv 5) (nomark _))))) (pss_one ps_never) pss_nil))))))))))
   (pss_one (ps_ret pe_bl)),?_⟩
  refine ⟨_,rfl,a,_,rfl,.inl hS,_,_,rfl,_,_,rfl,_,rfl,?_,?_,?_⟩
  ·split<;>(try split)<;>omega
  ·rw [List.length_map]
   split<;>(try split)<;>omega
  refine for_range (fun i σ H2=>∃ v1 v2 v3 v4 v5 v6 v7,σ=[some (V.ref a),v1,v2,v3,v4,v5,v6,v7]/\Same H H2) ⟨_,_,_,_,_,_,_,rfl,Same.refl H⟩ ?_ ?_
  ·rintro i0 σ H2 hi0 ⟨v1,v2,v3,v4,v5,v6,v7,rfl,s2⟩
   refine ⟨_,rfl,_,rfl,a,ns,i0,(by simp),s2.seq hS,hlen,fun p H3 np row3 same3=>?_⟩
   refine ⟨_,rfl,p,rfl,row3,fun tq la lb zs ps ts H4 L4 sz ht4 na nb nab row4 but4=>?_⟩
   have s4:Same H2 H4:=Same.but same3 but4 np
   refine ⟨tq,_,rfl,SqT.of ht4,rfl,_,_,rfl,_,_,rfl,rfl,?_⟩
   have g:GoodW zs ps:=⟨L4.good,L4.ins,L4.few⟩
   have big:5000<=sizeLine:=by decide
   refine ⟨_,rfl,_,rfl,la,lb,zs,ps,ts,rfl,L4,sz,fun H5 s5=>?_⟩
   have L5:=L4.same s5
   refine ⟨_,rfl,_,rfl,?_⟩
   intro x dx nx ndx nex
   have sx:Same H5 (upd (upd H5 dx (.own x)) x (.ins C dx [])):=Same.upd_new (same_upd ndx) nx
   refine ⟨x,la,lb,zs,ps,ts,rfl,⟨dx,upd_same⟩,L5.same sx,fun H6 W6 b6=>⟨rfl,?_⟩⟩
   have s56:Same H5 H6:=Same.but sx b6 nx
   refine ⟨x,zs,ps,rfl,W6,g,fun H7 s7=>⟨_,rfl,rfl,_,rfl,?_⟩⟩
   rw [decide_eq_true rfl]
   refine iteF ⟨_,rfl,zs,ps,rfl,g,fun y H8 W8 s8=>?_⟩
   rw [sz] at W8
   have s48:Same H4 H8:=s5.trans (s56.trans (s7.trans s8))
   have L8:=L4.same s48
   have row8:=row4.same s48
   obtain ⟨d1,f1,q1,r1⟩:=W8.meth "places"
   refine ⟨_,rfl,y,d1,f1,rfl,q1,r1,y,zs,ps,rfl,W8,fun l9 n9=>?_⟩
   rw [sz]
   have s9:=same_upd (o:=.lst (zs.map V.str)) n9
   have W9:=W8.same s9
   have L9:=L8.same s9
   refine ⟨_,rfl,al_strs (SqL.of upd_same) (SqL.of L9.ha),_,rfl,iteF ?_⟩
   obtain ⟨d2,f2,q2,r2⟩:=W9.meth "ties"
   refine ⟨_,rfl,y,d2,f2,rfl,q2,r2,y,zs,ps,rfl,W9,fun l10 us n10 hU=>?_⟩
   have s10:=same_upd (o:=.lst (us.map V.ref)) n10
   have L10:=L9.same s10
   refine ⟨_,rfl,al_ties (SqL.of upd_same) (SqL.of L10.hb) (hU.same s10) L10.hT,_,rfl,iteF ?_⟩
   have row10:=(row8.same s9).same s10
   refine ⟨_,rfl,_,rfl,p,la,zs,rfl,row10,L10.ha,L4.good,fun H11 row11 b11=>⟨_,rfl,iteF ?_⟩⟩
   have s210:Same H2 (upd (upd H8 l9 (.lst (zs.map V.str))) l10 (.lst (us.map V.ref))):=s4.trans (s48.trans (s9.trans s10))
   have s211:Same H2 H11:=Same.but s210 b11 np
   have nlp:la≠p:=Ne.symm (ne_of_none row3.lst.choose_spec na)
   have ha11:=b11 _ _ L10.ha nlp
   intro xd dxd nxd ndxd nexd
   have sxd:Same H11 (upd (upd H11 dxd (.own xd)) xd (.ins D dxd [])):=Same.upd_new (same_upd ndxd) nxd
   refine ⟨xd,rfl,⟨dxd,upd_same⟩,fun dw H12 dO nw b12=>⟨rfl,?_⟩⟩
   have s1112:Same H11 H12:=Same.but sxd b12 nxd
   have s212:=s211.trans s1112
   have ha12:=s1112 _ _ ha11
   have ndw:H11 dw=none:=sxd.free nw
   obtain ⟨z0,zr,ez⟩:∃ z0 zr,zs=z0::zr:=by
    cases zs with
    | nil=>exact absurd L4.good.one (by decide)
    | cons z0 zr=>exact ⟨z0,zr,rfl⟩
   have hz0:nm z0=true:=L4.good.nms z0 (by rw [ez];exact List.mem_cons_self)
   have zl:=nm_len hz0
   have at0:atI (zs.map V.str) 0=some (V.str z0):=by rw [ez];exact atI_nat (j:=0) rfl
   have wl:=wrow_len g
   have l4:(Str.ofString "web ").length=4:=by decide +kernel
   have l1:(Str.ofString " ").length=1:=by decide +kernel
   have l5:(Str.ofString "text ").length=5:=by decide +kernel
   obtain ⟨⟨dx12,hx12⟩,hw12⟩:=id dO
   refine ⟨_,rfl,xd,dx12,_,rfl,hx12,dfs_no dw _ (by decide +kernel),_,rfl,la,_,0,.str z0,rfl,rfl,SqL.of ha12,at0,_,_,rfl,rfl,(by rw [l4];omega),_,_,rfl,rfl,(by rw [app_len,l4,l1];omega),_,rfl,_,_,rfl,rfl,(by rw [app_len,app_len,l4,l1];omega),?_⟩
   refine ⟨xd,dw,_,[],rfl,dO,(by show 0<=100;decide),.inl ⟨z0,zs,ps,hz0,g,rfl,fun y2 H13 W13 dO13 b13=>?_⟩⟩
   refine ⟨rfl,_,rfl,?_⟩
   rw [decide_eq_true rfl]
   have nld:la≠dw:=ne_of ha12 hw12 (by intro z;cases z)
   have ha13:=b13 _ _ ha12 nld
   have s213:Same H2 H13:=Same.but s212 b13 (s211.free ndw)
   rw [sz] at W13
   obtain ⟨⟨dx13,hx13⟩,hw13⟩:=id dO13
   refine iteF ⟨_,rfl,xd,dx13,_,rfl,hx13,dfs_no dw _ (by decide +kernel),_,rfl,la,_,0,.str z0,rfl,rfl,SqL.of ha13,at0,_,_,rfl,rfl,(by rw [l5];omega),?_⟩
   refine ⟨xd,dw,_,_,rfl,dO13,(by show 1<=100;decide),.inr ⟨z0,y2,zs,ps,hz0,rfl,?_,W13,g,fun H14 s14=>⟨_,rfl,rfl,_,rfl,?_⟩⟩⟩
   ·simp [putK,valV]
   ·rw [decide_eq_true rfl]
    exact iteF ⟨_,_,_,_,_,_,_,rfl,s2.trans (s213.trans s14)⟩
  ·rintro σ H2 ⟨v1,v2,v3,v4,v5,v6,v7,rfl,s2⟩
   exact k H2
end
theorem law_all {P:Program} {w:World} {K:PySem.W.Frag} {mg:Str->Option Value} {base:Heap} {C D f fI fP fS fDI fDM fDS f_dN f_dA f_dTi f_d1 f_d2 f_dWT f_dWO f_dRd f_dIR f_dST f_dSC f_dSE f_dSCs f_dSW f_dRR f_dWd f_dKO f_dAS f_dRWd f_dRO f_dTT f_dMW f_dR f_dD f_dLN f_dDr f_dWr f_dSh aF aR aT aM tW tX:Addr} {fd fdI fdP fdS fdDI fdDM fdDS fd_dN fd_dA fd_dTi fd_d1 fd_d2 fd_dWT fd_dWO fd_dRd fd_dIR fd_dST fd_dSC fd_dSE fd_dSCs fd_dSW fd_dRR fd_dWd fd_dKO fd_dAS fd_dRWd fd_dRO fd_dTT fd_dMW fd_dR fd_dD fd_dLN fd_dDr fd_dWr fd_dSh:FuncData} {kF kR kT kM:List (Key × V)}
  (F:Fun K "law" "law" sLaw f fd) (FI:Fun K "__init__" "Web.__init__" sInit fI fdI) (MkW:Mk K C fI) (bI:Binds K fdI ["self","places","ties"] []) (M:Mt K mg C fP fS fdP fdS)
  (WD:DC K mg D) (FDI:Fun K "__init__" "Desk.__init__" sDI fDI fdDI) (MkD:Mk K D fDI) (bDI:Binds K fdDI ["self"] []) (FDM:Fun K "meant" "Desk.meant" sDM fDM fdDM) (MmM:Meth K D "meant" fDM) (bDM:Binds K fdDM ["self","kind","thing"] []) (FDS:Fun K "say" "Desk.say" sDS fDS fdDS) (MmS:Meth K D "say" fDS)
  (dN:Df K mg "is_name" sName ["thing"] f_dN fd_dN) (dA:Df K mg "is_among" sAmong ["places","thing"] f_dA fd_dA) (dTi:Df K mg "is_tie" sTie ["places","thing"] f_dTi fd_dTi) (d1:Df K mg "check_places" sChkP ["places"] f_d1 fd_d1) (d2:Df K mg "check_ties" sChkT ["places","ties"] f_d2 fd_d2)
  (dWT:Df K mg "web_text" sWText ["web"] f_dWT fd_dWT) (dWO:Df K mg "web_of_rows" sWRows ["first","others"] f_dWO fd_dWO) (dRd:Df K mg "read_web" sRead ["text"] f_dRd fd_dRd)
  (dIR:Df K mg "in_a_row" sIR ["words"] f_dIR fd_dIR) (dST:Df K mg "show_ties" sSTi ["ties"] f_dST fd_dST) (dSC:Df K mg "show_cut" sSC ["cut"] f_dSC fd_dSC) (dSE:Df K mg "show_entry" sSE ["thing"] f_dSE fd_dSE) (dSCs:Df K mg "show_cuts" sSCs ["cuts"] f_dSCs fd_dSCs) (dSW:Df K mg "show_web" sSW ["web"] f_dSW fd_dSW) (dRR:Df K mg "read_row" sRR ["text"] f_dRR fd_dRR)
  (dWd:Df K mg "words_of" sWO ["row"] f_dWd fd_dWd) (dKO:Df K mg "kinds_of" sKO ["first","many"] f_dKO fd_dKO) (dAS:Df K mg "as_it_stands" sAS ["word"] f_dAS fd_dAS) (dRWd:Df K mg "read_word" sRWd ["kind","word"] f_dRWd fd_dRWd) (dRO:Df K mg "read_order" sRO ["row"] f_dRO fd_dRO)
  (dTT:Df K mg "tell_text" sTT ["given"] f_dTT fd_dTT) (dMW:Df K mg "make_web" sMW ["given"] f_dMW fd_dMW)
  (dR:Df K mg "_law_pot_at" sRow ["_law_script","_law_k"] f_dR fd_dR) (dD:Df K mg "_law_draw" sDraw ["_law_pot","_law_many"] f_dD fd_dD) (dLN:Df K mg "_law_name" sLName ["_law_pot","_law_taken"] f_dLN fd_dLN) (dDr:Df K mg "_law_drawn" sDrn ["_law_pot"] f_dDr fd_dDr) (dWr:Df K mg "_law_written" sWrn ["_law_names","_law_pairs"] f_dWr fd_dWr) (dSh:Df K mg "_law_shown_right" sSh ["_law_pot","_law_names"] f_dSh fd_dSh)
  (B:Tabs P w K mg aF aR aT aM tW tX f_dAS f_dTT f_dMW kF kR kT kM) (hz:mg "zip" = none) (T:Glb mg):FnOk P w K mg base CX0 11 f fd ["_law_script"] (spLaw K):=by
 have GI:FnOk P w K mg base CX0 4 fI fdI ["self","places","ties"] (spInit C):=ok_init FI M.wc dN dA dTi d1 d2 T
 have GWT:FnOk P w K mg base CX0 2 f_dWT fd_dWT ["web"] (spWT C):=ok_wtext dWT.fn M T
 have GWO:FnOk P w K mg base CX0 6 f_dWO fd_dWO ["first","others"] (spWR C):=ok_wrows dWO.fn MkW M.wc.mgC bI GI T
 have GRd:FnOk P w K mg base CX0 7 f_dRd fd_dRd ["text"] (spRW C):=ok_read dRd.fn dWT GWT dWO GWO T
 have GSW:FnOk P w K mg base CX0 3 f_dSW fd_dSW ["web"] (spSW C):=ok_sw dSW.fn dWT GWT
 have GRR:FnOk P w K mg base CX0 8 f_dRR fd_dRR ["text"] (spRR C):=ok_rr dRR.fn dRd GRd dSW GSW T
 have GTT:FnOk P w K mg base CX0 4 f_dTT fd_dTT ["given"] (spTT C):=ok_tt dTT.fn dSW GSW
 have GMW:FnOk P w K mg base CX0 9 f_dMW fd_dMW ["given"] (spMW C):=ok_mw dMW.fn dRR GRR
 have GRO:FnOk P w K mg base CX0 3 f_dRO fd_dRO ["row"] spRO:=ok_ro dRO.fn B dWd dKO dRWd dAS hz T
 have GDM:FnOk P w K mg base CX0 2 fDM fdDM ["self","kind","thing"] (spDM D):=ok_dm FDM WD dN T
 have GDS:FnOk P w K mg base CX0 10 fDS fdDS ["self","row"] (spDS C D):=ok_ds FDS WD B MmM bDM GDM dRO GRO dTT GTT dMW GMW
 have GST:FnOk P w K mg base CX0 2 f_dST fd_dST ["ties"] (spSTi (K:=K)):=ok_sti dST.fn dIR T
 have GCs:FnOk P w K mg base CX0 3 f_dSCs fd_dSCs ["cuts"] (spSCs (K:=K)):=ok_scs dSCs.fn dIR dSE dSC T
 exact ok_law F M MkW bI GI dR dDr (ok_drn dDr.fn dD dLN T) dWr dSW GSW dRR GRR dSh (ok_sh dSh.fn dD dST GST dSC dSCs GCs T) WD MkD bDI (ok_di FDI WD) FDS MmS GDS T
end K90
namespace L2
open PySem PySem.Spec PyProof.Rows
def tabEs (w:World) (l:List (Str × Tok × Addr)):List DictEntry:=l.map fun p=>⟨PyData.keyHash w.params p.1,.str p.1 p.2.1,.ref p.2.2⟩
def tabKv (l:List (Str × Tok × Addr)):List (Key × V):=l.map fun p=>(.inr p.1,.ref p.2.2)
theorem tab_kv:∀ l:List (Str × Tok × Addr),KV (tabKv l) (l.map fun p=>(.inr p.1,.ref p.2.2))
 | []=>.nil
 | p::l=>.cons ⟨rfl,rfl⟩ (tab_kv l)
theorem tab_prs {P:Program} {w:World}:∀ l:List (Str × Tok × Addr),Pairs (mixKind P w) (tabEs w l) (l.map fun p=>(.inr p.1,.ref p.2.2))
 | []=>.nil
 | p::l=>.cons (by show Value.isStrOf p.1 (.str p.1 p.2.1)=true;simp [Value.isStrOf]) rfl (tab_prs l)
theorem dkn_tab {P:Program} {w:World} {K:PySem.W.Frag} {a:Addr} {o:Obj} {es:Array DictEntry} {ep:Nat} {l:List (Str × Tok × Addr)} (lk:K.lookup a=some o) (ed:o.ExactDict) (hd:o.data=.dict es ep) (he:es.toList=tabEs w l) (nd:(l.map (·.1)).Nodup) (ns:(a == sysModules)=false):DKn P w K a (tabKv l):=by
 refine ⟨ns,fun h hK=>⟨l.map fun p=>(.inr p.1,.ref p.2.2),?_,o,es,ep,hK _ _ lk,ed,hd,?_,?_,?_⟩⟩
 ·exact tab_kv l
 ·intro e hm
  rw [<- Array.mem_toList_iff,he] at hm
  obtain ⟨p,_,rfl⟩:=List.mem_map.mp hm
  exact ⟨.inr p.1,by show Value.isStrOf p.1 (.str p.1 p.2.1)=true;simp [Value.isStrOf],rfl⟩
 ·rw [he]
  exact tab_prs l
 ·rw [List.map_map]
  have:(l.map (·.1)).map (Sum.inr:Str->Key)=l.map ((fun x=>x.1) ∘ fun p:Str × Tok × Addr=>((Sum.inr p.1:Key),Value.ref p.2.2)):=by
   rw [List.map_map]
   rfl
  rw [<- this]
  exact List.Pairwise.map _ (fun a b n e=>n (Sum.inr.inj e)) nd
theorem sqt_top {K:PySem.W.Frag} {a:Addr} {o:Obj} {its:Array Value} {n:Nat} {xs:List V} (lk:K.lookup a=some o) (hc:o.cls=.type "tuple") (hd:o.data=.seq its n) (hz:its.size<=sizeLine) (hv:Vals xs its.toList) (H:Hp):SqT K H a xs:=.inr ⟨o,its,n,lk,hc,hd,hz,hv⟩
end L2
namespace K90
open PySem PySem.Spec PyProof.Rows L2
theorem all_mk {l:PySem.W.OpenLaw} {w:World} {K:PySem.W.Frag} {h:Heap} {mg:Str->Option Value} {fa:Addr} {C:Addr} {f1:Addr} {od1 an1:Option Addr} {sl1:Array (Option Value)} {oc1 kV1 dc1 pm1 cd1 ct1:Value} {f2:Addr} {od2 an2:Option Addr} {sl2:Array (Option Value)} {oc2 kV2 dc2 pm2 cd2 ct2:Value} {f3:Addr} {od3 an3:Option Addr} {sl3:Array (Option Value)} {oc3 kV3 dc3 pm3 cd3 ct3:Value} {Dk:Addr} {f4:Addr} {od4 an4:Option Addr} {sl4:Array (Option Value)} {oc4 kV4 dc4 pm4 cd4 ct4:Value} {f5:Addr} {od5 an5:Option Addr} {sl5:Array (Option Value)} {oc5 kV5 dc5 pm5 cd5 ct5:Value} {f6:Addr} {od6 an6:Option Addr} {sl6:Array (Option Value)} {oc6 kV6 dc6 pm6 cd6 ct6:Value} {f7:Addr} {od7 an7:Option Addr} {sl7:Array (Option Value)} {oc7 kV7 dc7 pm7 cd7 ct7:Value} {f8:Addr} {od8 an8:Option Addr} {sl8:Array (Option Value)} {oc8 kV8 dc8 pm8 cd8 ct8:Value} {f9:Addr} {od9 an9:Option Addr} {sl9:Array (Option Value)} {oc9 kV9 dc9 pm9 cd9 ct9:Value} {f10:Addr} {od10 an10:Option Addr} {sl10:Array (Option Value)} {oc10 kV10 dc10 pm10 cd10 ct10:Value} {f11:Addr} {od11 an11:Option Addr} {sl11:Array (Option Value)} {oc11 kV11 dc11 pm11 cd11 ct11:Value} {f12:Addr} {od12 an12:Option Addr} {sl12:Array (Option Value)} {oc12 kV12 dc12 pm12 cd12 ct12:Value} {f13:Addr} {od13 an13:Option Addr} {sl13:Array (Option Value)} {oc13 kV13 dc13 pm13 cd13 ct13:Value} {f14:Addr} {od14 an14:Option Addr} {sl14:Array (Option Value)} {oc14 kV14 dc14 pm14 cd14 ct14:Value} {f15:Addr} {od15 an15:Option Addr} {sl15:Array (Option Value)} {oc15 kV15 dc15 pm15 cd15 ct15:Value} {f16:Addr} {od16 an16:Option Addr} {sl16:Array (Option Value)} {oc16 kV16 dc16 pm16 cd16 ct16:Value} {f17:Addr} {od17 an17:Option Addr} {sl17:Array (Option Value)} {oc17 kV17 dc17 pm17 cd17 ct17:Value} {f18:Addr} {od18 an18:Option Addr} {sl18:Array (Option Value)} {oc18 kV18 dc18 pm18 cd18 ct18:Value} {f19:Addr} {od19 an19:Option Addr} {sl19:Array (Option Value)} {oc19 kV19 dc19 pm19 cd19 ct19:Value} {f20:Addr} {od20 an20:Option Addr} {sl20:Array (Option Value)} {oc20 kV20 dc20 pm20 cd20 ct20:Value} {f21:Addr} {od21 an21:Option Addr} {sl21:Array (Option Value)} {oc21 kV21 dc21 pm21 cd21 ct21:Value} {f22:Addr} {od22 an22:Option Addr} {sl22:Array (Option Value)} {oc22 kV22 dc22 pm22 cd22 ct22:Value} {f23:Addr} {od23 an23:Option Addr} {sl23:Array (Option Value)} {oc23 kV23 dc23 pm23 cd23 ct23:Value} {f24:Addr} {od24 an24:Option Addr} {sl24:Array (Option Value)} {oc24 kV24 dc24 pm24 cd24 ct24:Value} {f25:Addr} {od25 an25:Option Addr} {sl25:Array (Option Value)} {oc25 kV25 dc25 pm25 cd25 ct25:Value} {f26:Addr} {od26 an26:Option Addr} {sl26:Array (Option Value)} {oc26 kV26 dc26 pm26 cd26 ct26:Value} {f27:Addr} {od27 an27:Option Addr} {sl27:Array (Option Value)} {oc27 kV27 dc27 pm27 cd27 ct27:Value} {f28:Addr} {od28 an28:Option Addr} {sl28:Array (Option Value)} {oc28 kV28 dc28 pm28 cd28 ct28:Value} {f29:Addr} {od29 an29:Option Addr} {sl29:Array (Option Value)} {oc29 kV29 dc29 pm29 cd29 ct29:Value} {f30:Addr} {od30 an30:Option Addr} {sl30:Array (Option Value)} {oc30 kV30 dc30 pm30 cd30 ct30:Value} {f31:Addr} {od31 an31:Option Addr} {sl31:Array (Option Value)} {oc31 kV31 dc31 pm31 cd31 ct31:Value} {f32:Addr} {od32 an32:Option Addr} {sl32:Array (Option Value)} {oc32 kV32 dc32 pm32 cd32 ct32:Value} {f33:Addr} {od33 an33:Option Addr} {sl33:Array (Option Value)} {oc33 kV33 dc33 pm33 cd33 ct33:Value} {f34:Addr} {od34 an34:Option Addr} {sl34:Array (Option Value)} {oc34 kV34 dc34 pm34 cd34 ct34:Value} {f35:Addr} {od35 an35:Option Addr} {sl35:Array (Option Value)} {oc35 kV35 dc35 pm35 cd35 ct35:Value} {t_LONGEST:Tok} {t_MOST_PLACES:Tok} {t_MOST_TIES:Tok} (X:K.In h) (G:h.Ns mainGlobals mg) (hfa:mg "law" = some (.ref fa))
  (aC:W.nsIn K mainGlobals "Web" = some (some (.ref C)))
  (a1:W.findIn K (.ref C) "__init__" = some (some (.ref f1)))
  (i1:W.isFn K (.ref f1)=true)
  (l1:K.lookup f1=some ⟨oc1,od1,.func (PySem.W.fnOf "__init__" "Web.__init__" (defArgs sInit) (defBody sInit) (defScope sInit) .none kV1 dc1 pm1 an1 cd1 ct1),sl1⟩)
  (c1:W.codeIn K cd1 "Web.__init__" = true)
  (k1:W.keepIn K (.ref f1)=true)
  (a2:W.findIn K (.ref C) "places" = some (some (.ref f2)))
  (i2:W.isFn K (.ref f2)=true)
  (l2:K.lookup f2=some ⟨oc2,od2,.func (PySem.W.fnOf "places" "Web.places" (defArgs sPlaces) (defBody sPlaces) (defScope sPlaces) .none kV2 dc2 pm2 an2 cd2 ct2),sl2⟩)
  (c2:W.codeIn K cd2 "Web.places" = true)
  (k2:W.keepIn K (.ref f2)=true)
  (a3:W.findIn K (.ref C) "ties" = some (some (.ref f3)))
  (i3:W.isFn K (.ref f3)=true)
  (l3:K.lookup f3=some ⟨oc3,od3,.func (PySem.W.fnOf "ties" "Web.ties" (defArgs sTies) (defBody sTies) (defScope sTies) .none kV3 dc3 pm3 an3 cd3 ct3),sl3⟩)
  (c3:W.codeIn K cd3 "Web.ties" = true)
  (k3:W.keepIn K (.ref f3)=true)
  (pgC:W.plainGet K C Str.empty=true)
  (hdC:W.hasDictIn K C=true)
  (poC:W.plainOver K C=true)
  (saC:W.findIn K (.ref C) "__setattr__" = some (some (.builtin "object.__setattr__")))
  (mkC:W.makesIn K C=true)
  (kcC:W.keepIn K (.ref C)=true)
  (nAC0:W.findIn K (.ref C) "kept_places" = some none)
  (nAC1:W.findIn K (.ref C) "kept_ties" = some none)
  (aDk:W.nsIn K mainGlobals "Desk" = some (some (.ref Dk)))
  (a4:W.findIn K (.ref Dk) "__init__" = some (some (.ref f4)))
  (i4:W.isFn K (.ref f4)=true)
  (l4:K.lookup f4=some ⟨oc4,od4,.func (PySem.W.fnOf "__init__" "Desk.__init__" (defArgs sDI) (defBody sDI) (defScope sDI) .none kV4 dc4 pm4 an4 cd4 ct4),sl4⟩)
  (c4:W.codeIn K cd4 "Desk.__init__" = true)
  (k4:W.keepIn K (.ref f4)=true)
  (a5:W.findIn K (.ref Dk) "meant" = some (some (.ref f5)))
  (i5:W.isFn K (.ref f5)=true)
  (l5:K.lookup f5=some ⟨oc5,od5,.func (PySem.W.fnOf "meant" "Desk.meant" (defArgs sDM) (defBody sDM) (defScope sDM) .none kV5 dc5 pm5 an5 cd5 ct5),sl5⟩)
  (c5:W.codeIn K cd5 "Desk.meant" = true)
  (k5:W.keepIn K (.ref f5)=true)
  (a6:W.findIn K (.ref Dk) "say" = some (some (.ref f6)))
  (i6:W.isFn K (.ref f6)=true)
  (l6:K.lookup f6=some ⟨oc6,od6,.func (PySem.W.fnOf "say" "Desk.say" (defArgs sDS) (defBody sDS) (defScope sDS) .none kV6 dc6 pm6 an6 cd6 ct6),sl6⟩)
  (c6:W.codeIn K cd6 "Desk.say" = true)
  (k6:W.keepIn K (.ref f6)=true)
  (pgDk:W.plainGet K Dk Str.empty=true)
  (hdDk:W.hasDictIn K Dk=true)
  (poDk:W.plainOver K Dk=true)
  (saDk:W.findIn K (.ref Dk) "__setattr__" = some (some (.builtin "object.__setattr__")))
  (mkDk:W.makesIn K Dk=true)
  (kcDk:W.keepIn K (.ref Dk)=true)
  (nADk0:W.findIn K (.ref Dk) "webs" = some none)
  (a7:W.nsIn K mainGlobals "is_name" = some (some (.ref f7)))
  (l7:K.lookup f7=some ⟨oc7,od7,.func (PySem.W.fnOf "is_name" "is_name" (defArgs sName) (defBody sName) (defScope sName) .none kV7 dc7 pm7 an7 cd7 ct7),sl7⟩)
  (c7:W.codeIn K cd7 "is_name" = true)
  (k7:W.keepIn K (.ref f7)=true)
  (a8:W.nsIn K mainGlobals "check_places" = some (some (.ref f8)))
  (l8:K.lookup f8=some ⟨oc8,od8,.func (PySem.W.fnOf "check_places" "check_places" (defArgs sChkP) (defBody sChkP) (defScope sChkP) .none kV8 dc8 pm8 an8 cd8 ct8),sl8⟩)
  (c8:W.codeIn K cd8 "check_places" = true)
  (k8:W.keepIn K (.ref f8)=true)
  (a9:W.nsIn K mainGlobals "is_among" = some (some (.ref f9)))
  (l9:K.lookup f9=some ⟨oc9,od9,.func (PySem.W.fnOf "is_among" "is_among" (defArgs sAmong) (defBody sAmong) (defScope sAmong) .none kV9 dc9 pm9 an9 cd9 ct9),sl9⟩)
  (c9:W.codeIn K cd9 "is_among" = true)
  (k9:W.keepIn K (.ref f9)=true)
  (a10:W.nsIn K mainGlobals "is_tie" = some (some (.ref f10)))
  (l10:K.lookup f10=some ⟨oc10,od10,.func (PySem.W.fnOf "is_tie" "is_tie" (defArgs sTie) (defBody sTie) (defScope sTie) .none kV10 dc10 pm10 an10 cd10 ct10),sl10⟩)
  (c10:W.codeIn K cd10 "is_tie" = true)
  (k10:W.keepIn K (.ref f10)=true)
  (a11:W.nsIn K mainGlobals "check_ties" = some (some (.ref f11)))
  (l11:K.lookup f11=some ⟨oc11,od11,.func (PySem.W.fnOf "check_ties" "check_ties" (defArgs sChkT) (defBody sChkT) (defScope sChkT) .none kV11 dc11 pm11 an11 cd11 ct11),sl11⟩)
  (c11:W.codeIn K cd11 "check_ties" = true)
  (k11:W.keepIn K (.ref f11)=true)
  (a12:W.nsIn K mainGlobals "web_text" = some (some (.ref f12)))
  (l12:K.lookup f12=some ⟨oc12,od12,.func (PySem.W.fnOf "web_text" "web_text" (defArgs sWText) (defBody sWText) (defScope sWText) .none kV12 dc12 pm12 an12 cd12 ct12),sl12⟩)
  (c12:W.codeIn K cd12 "web_text" = true)
  (k12:W.keepIn K (.ref f12)=true)
  (a13:W.nsIn K mainGlobals "web_of_rows" = some (some (.ref f13)))
  (l13:K.lookup f13=some ⟨oc13,od13,.func (PySem.W.fnOf "web_of_rows" "web_of_rows" (defArgs sWRows) (defBody sWRows) (defScope sWRows) .none kV13 dc13 pm13 an13 cd13 ct13),sl13⟩)
  (c13:W.codeIn K cd13 "web_of_rows" = true)
  (k13:W.keepIn K (.ref f13)=true)
  (a14:W.nsIn K mainGlobals "read_web" = some (some (.ref f14)))
  (l14:K.lookup f14=some ⟨oc14,od14,.func (PySem.W.fnOf "read_web" "read_web" (defArgs sRead) (defBody sRead) (defScope sRead) .none kV14 dc14 pm14 an14 cd14 ct14),sl14⟩)
  (c14:W.codeIn K cd14 "read_web" = true)
  (k14:W.keepIn K (.ref f14)=true)
  (a15:W.nsIn K mainGlobals "in_a_row" = some (some (.ref f15)))
  (l15:K.lookup f15=some ⟨oc15,od15,.func (PySem.W.fnOf "in_a_row" "in_a_row" (defArgs sIR) (defBody sIR) (defScope sIR) .none kV15 dc15 pm15 an15 cd15 ct15),sl15⟩)
  (c15:W.codeIn K cd15 "in_a_row" = true)
  (k15:W.keepIn K (.ref f15)=true)
  (a16:W.nsIn K mainGlobals "show_ties" = some (some (.ref f16)))
  (l16:K.lookup f16=some ⟨oc16,od16,.func (PySem.W.fnOf "show_ties" "show_ties" (defArgs sSTi) (defBody sSTi) (defScope sSTi) .none kV16 dc16 pm16 an16 cd16 ct16),sl16⟩)
  (c16:W.codeIn K cd16 "show_ties" = true)
  (k16:W.keepIn K (.ref f16)=true)
  (a17:W.nsIn K mainGlobals "show_cut" = some (some (.ref f17)))
  (l17:K.lookup f17=some ⟨oc17,od17,.func (PySem.W.fnOf "show_cut" "show_cut" (defArgs sSC) (defBody sSC) (defScope sSC) .none kV17 dc17 pm17 an17 cd17 ct17),sl17⟩)
  (c17:W.codeIn K cd17 "show_cut" = true)
  (k17:W.keepIn K (.ref f17)=true)
  (a18:W.nsIn K mainGlobals "show_entry" = some (some (.ref f18)))
  (l18:K.lookup f18=some ⟨oc18,od18,.func (PySem.W.fnOf "show_entry" "show_entry" (defArgs sSE) (defBody sSE) (defScope sSE) .none kV18 dc18 pm18 an18 cd18 ct18),sl18⟩)
  (c18:W.codeIn K cd18 "show_entry" = true)
  (k18:W.keepIn K (.ref f18)=true)
  (a19:W.nsIn K mainGlobals "show_cuts" = some (some (.ref f19)))
  (l19:K.lookup f19=some ⟨oc19,od19,.func (PySem.W.fnOf "show_cuts" "show_cuts" (defArgs sSCs) (defBody sSCs) (defScope sSCs) .none kV19 dc19 pm19 an19 cd19 ct19),sl19⟩)
  (c19:W.codeIn K cd19 "show_cuts" = true)
  (k19:W.keepIn K (.ref f19)=true)
  (a20:W.nsIn K mainGlobals "show_web" = some (some (.ref f20)))
  (l20:K.lookup f20=some ⟨oc20,od20,.func (PySem.W.fnOf "show_web" "show_web" (defArgs sSW) (defBody sSW) (defScope sSW) .none kV20 dc20 pm20 an20 cd20 ct20),sl20⟩)
  (c20:W.codeIn K cd20 "show_web" = true)
  (k20:W.keepIn K (.ref f20)=true)
  (a21:W.nsIn K mainGlobals "read_row" = some (some (.ref f21)))
  (l21:K.lookup f21=some ⟨oc21,od21,.func (PySem.W.fnOf "read_row" "read_row" (defArgs sRR) (defBody sRR) (defScope sRR) .none kV21 dc21 pm21 an21 cd21 ct21),sl21⟩)
  (c21:W.codeIn K cd21 "read_row" = true)
  (k21:W.keepIn K (.ref f21)=true)
  (a22:W.nsIn K mainGlobals "words_of" = some (some (.ref f22)))
  (l22:K.lookup f22=some ⟨oc22,od22,.func (PySem.W.fnOf "words_of" "words_of" (defArgs sWO) (defBody sWO) (defScope sWO) .none kV22 dc22 pm22 an22 cd22 ct22),sl22⟩)
  (c22:W.codeIn K cd22 "words_of" = true)
  (k22:W.keepIn K (.ref f22)=true)
  (a23:W.nsIn K mainGlobals "kinds_of" = some (some (.ref f23)))
  (l23:K.lookup f23=some ⟨oc23,od23,.func (PySem.W.fnOf "kinds_of" "kinds_of" (defArgs sKO) (defBody sKO) (defScope sKO) .none kV23 dc23 pm23 an23 cd23 ct23),sl23⟩)
  (c23:W.codeIn K cd23 "kinds_of" = true)
  (k23:W.keepIn K (.ref f23)=true)
  (a24:W.nsIn K mainGlobals "as_it_stands" = some (some (.ref f24)))
  (l24:K.lookup f24=some ⟨oc24,od24,.func (PySem.W.fnOf "as_it_stands" "as_it_stands" (defArgs sAS) (defBody sAS) (defScope sAS) .none kV24 dc24 pm24 an24 cd24 ct24),sl24⟩)
  (c24:W.codeIn K cd24 "as_it_stands" = true)
  (k24:W.keepIn K (.ref f24)=true)
  (a25:W.nsIn K mainGlobals "read_word" = some (some (.ref f25)))
  (l25:K.lookup f25=some ⟨oc25,od25,.func (PySem.W.fnOf "read_word" "read_word" (defArgs sRWd) (defBody sRWd) (defScope sRWd) .none kV25 dc25 pm25 an25 cd25 ct25),sl25⟩)
  (c25:W.codeIn K cd25 "read_word" = true)
  (k25:W.keepIn K (.ref f25)=true)
  (a26:W.nsIn K mainGlobals "read_order" = some (some (.ref f26)))
  (l26:K.lookup f26=some ⟨oc26,od26,.func (PySem.W.fnOf "read_order" "read_order" (defArgs sRO) (defBody sRO) (defScope sRO) .none kV26 dc26 pm26 an26 cd26 ct26),sl26⟩)
  (c26:W.codeIn K cd26 "read_order" = true)
  (k26:W.keepIn K (.ref f26)=true)
  (a27:W.nsIn K mainGlobals "tell_text" = some (some (.ref f27)))
  (l27:K.lookup f27=some ⟨oc27,od27,.func (PySem.W.fnOf "tell_text" "tell_text" (defArgs sTT) (defBody sTT) (defScope sTT) .none kV27 dc27 pm27 an27 cd27 ct27),sl27⟩)
  (c27:W.codeIn K cd27 "tell_text" = true)
  (k27:W.keepIn K (.ref f27)=true)
  (a28:W.nsIn K mainGlobals "make_web" = some (some (.ref f28)))
  (l28:K.lookup f28=some ⟨oc28,od28,.func (PySem.W.fnOf "make_web" "make_web" (defArgs sMW) (defBody sMW) (defScope sMW) .none kV28 dc28 pm28 an28 cd28 ct28),sl28⟩)
  (c28:W.codeIn K cd28 "make_web" = true)
  (k28:W.keepIn K (.ref f28)=true)
  (a29:W.nsIn K mainGlobals "_law_pot_at" = some (some (.ref f29)))
  (l29:K.lookup f29=some ⟨oc29,od29,.func (PySem.W.fnOf "_law_pot_at" "_law_pot_at" (defArgs sRow) (defBody sRow) (defScope sRow) .none kV29 dc29 pm29 an29 cd29 ct29),sl29⟩)
  (c29:W.codeIn K cd29 "_law_pot_at" = true)
  (k29:W.keepIn K (.ref f29)=true)
  (a30:W.nsIn K mainGlobals "_law_draw" = some (some (.ref f30)))
  (l30:K.lookup f30=some ⟨oc30,od30,.func (PySem.W.fnOf "_law_draw" "_law_draw" (defArgs sDraw) (defBody sDraw) (defScope sDraw) .none kV30 dc30 pm30 an30 cd30 ct30),sl30⟩)
  (c30:W.codeIn K cd30 "_law_draw" = true)
  (k30:W.keepIn K (.ref f30)=true)
  (a31:W.nsIn K mainGlobals "_law_name" = some (some (.ref f31)))
  (l31:K.lookup f31=some ⟨oc31,od31,.func (PySem.W.fnOf "_law_name" "_law_name" (defArgs sLName) (defBody sLName) (defScope sLName) .none kV31 dc31 pm31 an31 cd31 ct31),sl31⟩)
  (c31:W.codeIn K cd31 "_law_name" = true)
  (k31:W.keepIn K (.ref f31)=true)
  (a32:W.nsIn K mainGlobals "_law_drawn" = some (some (.ref f32)))
  (l32:K.lookup f32=some ⟨oc32,od32,.func (PySem.W.fnOf "_law_drawn" "_law_drawn" (defArgs sDrn) (defBody sDrn) (defScope sDrn) .none kV32 dc32 pm32 an32 cd32 ct32),sl32⟩)
  (c32:W.codeIn K cd32 "_law_drawn" = true)
  (k32:W.keepIn K (.ref f32)=true)
  (a33:W.nsIn K mainGlobals "_law_written" = some (some (.ref f33)))
  (l33:K.lookup f33=some ⟨oc33,od33,.func (PySem.W.fnOf "_law_written" "_law_written" (defArgs sWrn) (defBody sWrn) (defScope sWrn) .none kV33 dc33 pm33 an33 cd33 ct33),sl33⟩)
  (c33:W.codeIn K cd33 "_law_written" = true)
  (k33:W.keepIn K (.ref f33)=true)
  (a34:W.nsIn K mainGlobals "_law_shown_right" = some (some (.ref f34)))
  (l34:K.lookup f34=some ⟨oc34,od34,.func (PySem.W.fnOf "_law_shown_right" "_law_shown_right" (defArgs sSh) (defBody sSh) (defScope sSh) .none kV34 dc34 pm34 an34 cd34 ct34),sl34⟩)
  (c34:W.codeIn K cd34 "_law_shown_right" = true)
  (k34:W.keepIn K (.ref f34)=true)
  (a35:W.nsIn K mainGlobals "law" = some (some (.ref f35)))
  (l35:K.lookup f35=some ⟨oc35,od35,.func (PySem.W.fnOf "law" "law" (defArgs sLaw) (defBody sLaw) (defScope sLaw) .none kV35 dc35 pm35 an35 cd35 ct35),sl35⟩)
  (c35:W.codeIn K cd35 "law" = true)
  (k35:W.keepIn K (.ref f35)=true)
  (g_divmod:W.nsIn K mainGlobals "divmod" = some none)
  (g_len:W.nsIn K mainGlobals "len" = some none)
  (g_all:W.nsIn K mainGlobals "all" = some none)
  (g_isinstance:W.nsIn K mainGlobals "isinstance" = some none)
  (g_str:W.nsIn K mainGlobals "str" = some none)
  (g_range:W.nsIn K mainGlobals "range" = some none)
  (g_max:W.nsIn K mainGlobals "max" = some none)
  (g_min:W.nsIn K mainGlobals "min" = some none)
  (g_bool:W.nsIn K mainGlobals "bool" = some none)
  (g_list:W.nsIn K mainGlobals "list" = some none)
  (g_int:W.nsIn K mainGlobals "int" = some none)
  (g_tuple:W.nsIn K mainGlobals "tuple" = some none)
  (g_set:W.nsIn K mainGlobals "set" = some none)
  (g_sorted:W.nsIn K mainGlobals "sorted" = some none)
  (g_zip:W.nsIn K mainGlobals "zip" = some none)
  (g_LONGEST:W.nsIn K mainGlobals "LONGEST" = some (some (.int 8 t_LONGEST)))
  (g_MOST_PLACES:W.nsIn K mainGlobals "MOST_PLACES" = some (some (.int 12 t_MOST_PLACES)))
  (g_MOST_TIES:W.nsIn K mainGlobals "MOST_TIES" = some (some (.int 30 t_MOST_TIES)))
  (gF:W.nsIn K mainGlobals "FORMS" = some (some (.ref aF)))
  (lF:K.lookup aF=some ⟨.type "dict",none,.dict #[⟨PyData.keyHash w.params "web",.str "web" tkF0,.ref xF0⟩,⟨PyData.keyHash w.params "text",.str "text" tkF1,.ref xF1⟩,⟨PyData.keyHash w.params "reach",.str "reach" tkF2,.ref xF2⟩,⟨PyData.keyHash w.params "way",.str "way" tkF3,.ref xF3⟩,⟨PyData.keyHash w.params "cuts",.str "cuts" tkF4,.ref xF4⟩,⟨PyData.keyHash w.params "least",.str "least" tkF5,.ref xF5⟩,⟨PyData.keyHash w.params "bare",.str "bare" tkF6,.ref xF6⟩,⟨PyData.keyHash w.params "miss",.str "miss" tkF7,.ref xF7⟩,⟨PyData.keyHash w.params "fewest",.str "fewest" tkF8,.ref xF8⟩,⟨PyData.keyHash w.params "lightest",.str "lightest" tkF9,.ref xF9⟩,⟨PyData.keyHash w.params "times",.str "times" tkF10,.ref xF10⟩,⟨PyData.keyHash w.params "idle",.str "idle" tkF11,.ref xF11⟩,⟨PyData.keyHash w.params "bridges",.str "bridges" tkF12,.ref xF12⟩,⟨PyData.keyHash w.params "turns",.str "turns" tkF13,.ref xF13⟩,⟨PyData.keyHash w.params "draw",.str "draw" tkF14,.ref xF14⟩,⟨PyData.keyHash w.params "turn",.str "turn" tkF15,.ref xF15⟩,⟨PyData.keyHash w.params "more",.str "more" tkF16,.ref xF16⟩,⟨PyData.keyHash w.params "less",.str "less" tkF17,.ref xF17⟩,⟨PyData.keyHash w.params "join",.str "join" tkF18,.ref xF18⟩] epF,#[]⟩)
  (nF:(aF == sysModules)=false)
  (gR:W.nsIn K mainGlobals "READERS" = some (some (.ref aR)))
  (lR:K.lookup aR=some ⟨.type "dict",none,.dict #[⟨PyData.keyHash w.params "new",.str "new" tkR0,.ref f24⟩,⟨PyData.keyHash w.params "name",.str "name" tkR1,.ref f24⟩,⟨PyData.keyHash w.params "place",.str "place" tkR2,.ref f24⟩,⟨PyData.keyHash w.params "row",.str "row" tkR3,.ref f24⟩,⟨PyData.keyHash w.params "number",.str "number" tkR4,.ref xR4⟩,⟨PyData.keyHash w.params "times",.str "times" tkR5,.ref xR5⟩,⟨PyData.keyHash w.params "cut",.str "cut" tkR6,.ref xR6⟩] epR,#[]⟩)
  (nR:(aR == sysModules)=false)
  (gT:W.nsIn K mainGlobals "TELLERS" = some (some (.ref aT)))
  (lT:K.lookup aT=some ⟨.type "dict",none,.dict #[⟨PyData.keyHash w.params "text",.str "text" tkT0,.ref f27⟩,⟨PyData.keyHash w.params "reach",.str "reach" tkT1,.ref xT1⟩,⟨PyData.keyHash w.params "way",.str "way" tkT2,.ref xT2⟩,⟨PyData.keyHash w.params "cuts",.str "cuts" tkT3,.ref xT3⟩,⟨PyData.keyHash w.params "least",.str "least" tkT4,.ref xT4⟩,⟨PyData.keyHash w.params "bare",.str "bare" tkT5,.ref xT5⟩,⟨PyData.keyHash w.params "miss",.str "miss" tkT6,.ref xT6⟩,⟨PyData.keyHash w.params "fewest",.str "fewest" tkT7,.ref xT7⟩,⟨PyData.keyHash w.params "lightest",.str "lightest" tkT8,.ref xT8⟩,⟨PyData.keyHash w.params "times",.str "times" tkT9,.ref xT9⟩,⟨PyData.keyHash w.params "idle",.str "idle" tkT10,.ref xT10⟩,⟨PyData.keyHash w.params "bridges",.str "bridges" tkT11,.ref xT11⟩,⟨PyData.keyHash w.params "turns",.str "turns" tkT12,.ref xT12⟩] epT,#[]⟩)
  (nT:(aT == sysModules)=false)
  (gM:W.nsIn K mainGlobals "MAKERS" = some (some (.ref aM)))
  (lM:K.lookup aM=some ⟨.type "dict",none,.dict #[⟨PyData.keyHash w.params "web",.str "web" tkM0,.ref f28⟩,⟨PyData.keyHash w.params "draw",.str "draw" tkM1,.ref xM1⟩,⟨PyData.keyHash w.params "turn",.str "turn" tkM2,.ref xM2⟩,⟨PyData.keyHash w.params "more",.str "more" tkM3,.ref xM3⟩,⟨PyData.keyHash w.params "less",.str "less" tkM4,.ref xM4⟩,⟨PyData.keyHash w.params "join",.str "join" tkM5,.ref xM5⟩] epM,#[]⟩)
  (nM:(aM == sysModules)=false)
  (lW:K.lookup xF0=some ⟨.type "tuple",odW,.seq #[.str "new" uW0,.str "row" uW1] nW,slW⟩)
  (lX:K.lookup xF1=some ⟨.type "tuple",odX,.seq #[.str "name" uX0] nX,slX⟩)
  : ∃ fd:FuncData,(∀ (s:Shared) (v:Value),BindsTo s fd ⟨[v],[]⟩ [("_law_script",v)])/\∀ base:Heap,K.In base->base.Ns mainGlobals mg->FnOk l.prog w K mg base CX0 11 fa fd ["_law_script"] (spLaw K):=by
 have e:=hfa.symm.trans (PySem.W.mg_of X G a35)
 cases e
 have F_init:=fun_mk (st:=sInit) l1 c1 k1
 have B_init:=F_init.binds (ps:=["self","places","ties"]) fun _ _ _ _ _ _ us hl=>match us,hl with | [_,_,_],_=>rfl
 have Mm_init:Meth K C "__init__" f1:=⟨a1,i1,k1⟩
 have F_places:=fun_mk (st:=sPlaces) l2 c2 k2
 have B_places:=F_places.binds (ps:=["self"]) fun _ _ _ _ _ _ us hl=>match us,hl with | [_],_=>rfl
 have Mm_places:Meth K C "places" f2:=⟨a2,i2,k2⟩
 have F_ties:=fun_mk (st:=sTies) l3 c3 k3
 have B_ties:=F_ties.binds (ps:=["self"]) fun _ _ _ _ _ _ us hl=>match us,hl with | [_],_=>rfl
 have Mm_ties:Meth K C "ties" f3:=⟨a3,i3,k3⟩
 have W:WC K mg C:=⟨⟨pgC,hdC,poC,saC⟩,nAC0,nAC1,PySem.W.mg_of X G aC⟩
 have MkC:Mk K C f1:=⟨mkC,a1,i1,kcC⟩
 have F_dinit:=fun_mk (st:=sDI) l4 c4 k4
 have B_dinit:=F_dinit.binds (ps:=["self"]) fun _ _ _ _ _ _ us hl=>match us,hl with | [_],_=>rfl
 have Mm_dinit:Meth K Dk "__init__" f4:=⟨a4,i4,k4⟩
 have F_meant:=fun_mk (st:=sDM) l5 c5 k5
 have B_meant:=F_meant.binds (ps:=["self","kind","thing"]) fun _ _ _ _ _ _ us hl=>match us,hl with | [_,_,_],_=>rfl
 have Mm_meant:Meth K Dk "meant" f5:=⟨a5,i5,k5⟩
 have F_say:=fun_mk (st:=sDS) l6 c6 k6
 have B_say:=F_say.binds (ps:=["self","row"]) fun _ _ _ _ _ _ us hl=>match us,hl with | [_,_],_=>rfl
 have Mm_say:Meth K Dk "say" f6:=⟨a6,i6,k6⟩
 have WD:DC K mg Dk:=⟨⟨pgDk,hdDk,poDk,saDk⟩,nADk0,PySem.W.mg_of X G aDk⟩
 have MkDk:Mk K Dk f4:=⟨mkDk,a4,i4,kcDk⟩
 have F_name:=fun_mk (st:=sName) l7 c7 k7
 have B_name:=F_name.binds (ps:=["thing"]) fun _ _ _ _ _ _ us hl=>match us,hl with | [_],_=>rfl
 have D_name:Df K mg "is_name" sName ["thing"] f7 _:=⟨F_name,PySem.W.mg_of X G a7,B_name⟩
 have F_chkP:=fun_mk (st:=sChkP) l8 c8 k8
 have B_chkP:=F_chkP.binds (ps:=["places"]) fun _ _ _ _ _ _ us hl=>match us,hl with | [_],_=>rfl
 have D_chkP:Df K mg "check_places" sChkP ["places"] f8 _:=⟨F_chkP,PySem.W.mg_of X G a8,B_chkP⟩
 have F_among:=fun_mk (st:=sAmong) l9 c9 k9
 have B_among:=F_among.binds (ps:=["places","thing"]) fun _ _ _ _ _ _ us hl=>match us,hl with | [_,_],_=>rfl
 have D_among:Df K mg "is_among" sAmong ["places","thing"] f9 _:=⟨F_among,PySem.W.mg_of X G a9,B_among⟩
 have F_tie:=fun_mk (st:=sTie) l10 c10 k10
 have B_tie:=F_tie.binds (ps:=["places","thing"]) fun _ _ _ _ _ _ us hl=>match us,hl with | [_,_],_=>rfl
 have D_tie:Df K mg "is_tie" sTie ["places","thing"] f10 _:=⟨F_tie,PySem.W.mg_of X G a10,B_tie⟩
 have F_chkT:=fun_mk (st:=sChkT) l11 c11 k11
 have B_chkT:=F_chkT.binds (ps:=["places","ties"]) fun _ _ _ _ _ _ us hl=>match us,hl with | [_,_],_=>rfl
 have D_chkT:Df K mg "check_ties" sChkT ["places","ties"] f11 _:=⟨F_chkT,PySem.W.mg_of X G a11,B_chkT⟩
 have F_wtext:=fun_mk (st:=sWText) l12 c12 k12
 have B_wtext:=F_wtext.binds (ps:=["web"]) fun _ _ _ _ _ _ us hl=>match us,hl with | [_],_=>rfl
 have D_wtext:Df K mg "web_text" sWText ["web"] f12 _:=⟨F_wtext,PySem.W.mg_of X G a12,B_wtext⟩
 have F_wrows:=fun_mk (st:=sWRows) l13 c13 k13
 have B_wrows:=F_wrows.binds (ps:=["first","others"]) fun _ _ _ _ _ _ us hl=>match us,hl with | [_,_],_=>rfl
 have D_wrows:Df K mg "web_of_rows" sWRows ["first","others"] f13 _:=⟨F_wrows,PySem.W.mg_of X G a13,B_wrows⟩
 have F_read:=fun_mk (st:=sRead) l14 c14 k14
 have B_read:=F_read.binds (ps:=["text"]) fun _ _ _ _ _ _ us hl=>match us,hl with | [_],_=>rfl
 have D_read:Df K mg "read_web" sRead ["text"] f14 _:=⟨F_read,PySem.W.mg_of X G a14,B_read⟩
 have F_ir:=fun_mk (st:=sIR) l15 c15 k15
 have B_ir:=F_ir.binds (ps:=["words"]) fun _ _ _ _ _ _ us hl=>match us,hl with | [_],_=>rfl
 have D_ir:Df K mg "in_a_row" sIR ["words"] f15 _:=⟨F_ir,PySem.W.mg_of X G a15,B_ir⟩
 have F_sti:=fun_mk (st:=sSTi) l16 c16 k16
 have B_sti:=F_sti.binds (ps:=["ties"]) fun _ _ _ _ _ _ us hl=>match us,hl with | [_],_=>rfl
 have D_sti:Df K mg "show_ties" sSTi ["ties"] f16 _:=⟨F_sti,PySem.W.mg_of X G a16,B_sti⟩
 have F_sc:=fun_mk (st:=sSC) l17 c17 k17
 have B_sc:=F_sc.binds (ps:=["cut"]) fun _ _ _ _ _ _ us hl=>match us,hl with | [_],_=>rfl
 have D_sc:Df K mg "show_cut" sSC ["cut"] f17 _:=⟨F_sc,PySem.W.mg_of X G a17,B_sc⟩
 have F_se:=fun_mk (st:=sSE) l18 c18 k18
 have B_se:=F_se.binds (ps:=["thing"]) fun _ _ _ _ _ _ us hl=>match us,hl with | [_],_=>rfl
 have D_se:Df K mg "show_entry" sSE ["thing"] f18 _:=⟨F_se,PySem.W.mg_of X G a18,B_se⟩
 have F_scs:=fun_mk (st:=sSCs) l19 c19 k19
 have B_scs:=F_scs.binds (ps:=["cuts"]) fun _ _ _ _ _ _ us hl=>match us,hl with | [_],_=>rfl
 have D_scs:Df K mg "show_cuts" sSCs ["cuts"] f19 _:=⟨F_scs,PySem.W.mg_of X G a19,B_scs⟩
 have F_sw:=fun_mk (st:=sSW) l20 c20 k20
 have B_sw:=F_sw.binds (ps:=["web"]) fun _ _ _ _ _ _ us hl=>match us,hl with | [_],_=>rfl
 have D_sw:Df K mg "show_web" sSW ["web"] f20 _:=⟨F_sw,PySem.W.mg_of X G a20,B_sw⟩
 have F_rr:=fun_mk (st:=sRR) l21 c21 k21
 have B_rr:=F_rr.binds (ps:=["text"]) fun _ _ _ _ _ _ us hl=>match us,hl with | [_],_=>rfl
 have D_rr:Df K mg "read_row" sRR ["text"] f21 _:=⟨F_rr,PySem.W.mg_of X G a21,B_rr⟩
 have F_wd:=fun_mk (st:=sWO) l22 c22 k22
 have B_wd:=F_wd.binds (ps:=["row"]) fun _ _ _ _ _ _ us hl=>match us,hl with | [_],_=>rfl
 have D_wd:Df K mg "words_of" sWO ["row"] f22 _:=⟨F_wd,PySem.W.mg_of X G a22,B_wd⟩
 have F_ko:=fun_mk (st:=sKO) l23 c23 k23
 have B_ko:=F_ko.binds (ps:=["first","many"]) fun _ _ _ _ _ _ us hl=>match us,hl with | [_,_],_=>rfl
 have D_ko:Df K mg "kinds_of" sKO ["first","many"] f23 _:=⟨F_ko,PySem.W.mg_of X G a23,B_ko⟩
 have F_as:=fun_mk (st:=sAS) l24 c24 k24
 have B_as:=F_as.binds (ps:=["word"]) fun _ _ _ _ _ _ us hl=>match us,hl with | [_],_=>rfl
 have D_as:Df K mg "as_it_stands" sAS ["word"] f24 _:=⟨F_as,PySem.W.mg_of X G a24,B_as⟩
 have F_rwd:=fun_mk (st:=sRWd) l25 c25 k25
 have B_rwd:=F_rwd.binds (ps:=["kind","word"]) fun _ _ _ _ _ _ us hl=>match us,hl with | [_,_],_=>rfl
 have D_rwd:Df K mg "read_word" sRWd ["kind","word"] f25 _:=⟨F_rwd,PySem.W.mg_of X G a25,B_rwd⟩
 have F_ro:=fun_mk (st:=sRO) l26 c26 k26
 have B_ro:=F_ro.binds (ps:=["row"]) fun _ _ _ _ _ _ us hl=>match us,hl with | [_],_=>rfl
 have D_ro:Df K mg "read_order" sRO ["row"] f26 _:=⟨F_ro,PySem.W.mg_of X G a26,B_ro⟩
 have F_tt:=fun_mk (st:=sTT) l27 c27 k27
 have B_tt:=F_tt.binds (ps:=["given"]) fun _ _ _ _ _ _ us hl=>match us,hl with | [_],_=>rfl
 have D_tt:Df K mg "tell_text" sTT ["given"] f27 _:=⟨F_tt,PySem.W.mg_of X G a27,B_tt⟩
 have F_mw:=fun_mk (st:=sMW) l28 c28 k28
 have B_mw:=F_mw.binds (ps:=["given"]) fun _ _ _ _ _ _ us hl=>match us,hl with | [_],_=>rfl
 have D_mw:Df K mg "make_web" sMW ["given"] f28 _:=⟨F_mw,PySem.W.mg_of X G a28,B_mw⟩
 have F_row:=fun_mk (st:=sRow) l29 c29 k29
 have B_row:=F_row.binds (ps:=["_law_script","_law_k"]) fun _ _ _ _ _ _ us hl=>match us,hl with | [_,_],_=>rfl
 have D_row:Df K mg "_law_pot_at" sRow ["_law_script","_law_k"] f29 _:=⟨F_row,PySem.W.mg_of X G a29,B_row⟩
 have F_draw:=fun_mk (st:=sDraw) l30 c30 k30
 have B_draw:=F_draw.binds (ps:=["_law_pot","_law_many"]) fun _ _ _ _ _ _ us hl=>match us,hl with | [_,_],_=>rfl
 have D_draw:Df K mg "_law_draw" sDraw ["_law_pot","_law_many"] f30 _:=⟨F_draw,PySem.W.mg_of X G a30,B_draw⟩
 have F_lname:=fun_mk (st:=sLName) l31 c31 k31
 have B_lname:=F_lname.binds (ps:=["_law_pot","_law_taken"]) fun _ _ _ _ _ _ us hl=>match us,hl with | [_,_],_=>rfl
 have D_lname:Df K mg "_law_name" sLName ["_law_pot","_law_taken"] f31 _:=⟨F_lname,PySem.W.mg_of X G a31,B_lname⟩
 have F_drn:=fun_mk (st:=sDrn) l32 c32 k32
 have B_drn:=F_drn.binds (ps:=["_law_pot"]) fun _ _ _ _ _ _ us hl=>match us,hl with | [_],_=>rfl
 have D_drn:Df K mg "_law_drawn" sDrn ["_law_pot"] f32 _:=⟨F_drn,PySem.W.mg_of X G a32,B_drn⟩
 have F_wrn:=fun_mk (st:=sWrn) l33 c33 k33
 have B_wrn:=F_wrn.binds (ps:=["_law_names","_law_pairs"]) fun _ _ _ _ _ _ us hl=>match us,hl with | [_,_],_=>rfl
 have D_wrn:Df K mg "_law_written" sWrn ["_law_names","_law_pairs"] f33 _:=⟨F_wrn,PySem.W.mg_of X G a33,B_wrn⟩
 have F_sh:=fun_mk (st:=sSh) l34 c34 k34
 have B_sh:=F_sh.binds (ps:=["_law_pot","_law_names"]) fun _ _ _ _ _ _ us hl=>match us,hl with | [_,_],_=>rfl
 have D_sh:Df K mg "_law_shown_right" sSh ["_law_pot","_law_names"] f34 _:=⟨F_sh,PySem.W.mg_of X G a34,B_sh⟩
 have F_law:=fun_mk (st:=sLaw) l35 c35 k35
 have m_divmod:=PySem.W.mg_none_of X G g_divmod
 have m_len:=PySem.W.mg_none_of X G g_len
 have m_all:=PySem.W.mg_none_of X G g_all
 have m_isinstance:=PySem.W.mg_none_of X G g_isinstance
 have m_str:=PySem.W.mg_none_of X G g_str
 have m_range:=PySem.W.mg_none_of X G g_range
 have m_max:=PySem.W.mg_none_of X G g_max
 have m_min:=PySem.W.mg_none_of X G g_min
 have m_bool:=PySem.W.mg_none_of X G g_bool
 have m_list:=PySem.W.mg_none_of X G g_list
 have m_int:=PySem.W.mg_none_of X G g_int
 have m_tuple:=PySem.W.mg_none_of X G g_tuple
 have m_set:=PySem.W.mg_none_of X G g_set
 have m_sorted:=PySem.W.mg_none_of X G g_sorted
 have m_zip:=PySem.W.mg_none_of X G g_zip
 have m_LONGEST:=PySem.W.mg_of X G g_LONGEST
 have m_MOST_PLACES:=PySem.W.mg_of X G g_MOST_PLACES
 have m_MOST_TIES:=PySem.W.mg_of X G g_MOST_TIES
 have T:Glb mg:=⟨m_divmod,m_len,m_all,m_isinstance,m_str,m_range,m_max,m_min,m_bool,m_list,m_int,m_tuple,m_set,m_sorted,⟨_,m_LONGEST⟩,⟨_,m_MOST_PLACES⟩,⟨_,m_MOST_TIES⟩⟩
 have M:=Mt.mk W F_places Mm_places B_places F_ties Mm_ties B_ties
 have dkF:DKn l.prog w K aF (tabKv [((("web" : Str)),tkF0,xF0),((("text" : Str)),tkF1,xF1),((("reach" : Str)),tkF2,xF2),((("way" : Str)),tkF3,xF3),((("cuts" : Str)),tkF4,xF4),((("least" : Str)),tkF5,xF5),((("bare" : Str)),tkF6,xF6),((("miss" : Str)),tkF7,xF7),((("fewest" : Str)),tkF8,xF8),((("lightest" : Str)),tkF9,xF9),((("times" : Str)),tkF10,xF10),((("idle" : Str)),tkF11,xF11),((("bridges" : Str)),tkF12,xF12),((("turns" : Str)),tkF13,xF13),((("draw" : Str)),tkF14,xF14),((("turn" : Str)),tkF15,xF15),((("more" : Str)),tkF16,xF16),((("less" : Str)),tkF17,xF17),((("join" : Str)),tkF18,xF18)]):=dkn_tab lF ⟨rfl,rfl,rfl⟩ rfl rfl (by show (["web","text","reach","way","cuts","least","bare","miss","fewest","lightest","times","idle","bridges","turns","draw","turn","more","less","join"]:List Str).Nodup;decide +kernel) nF
 have dkR:DKn l.prog w K aR (tabKv [((("new" : Str)),tkR0,f24),((("name" : Str)),tkR1,f24),((("place" : Str)),tkR2,f24),((("row" : Str)),tkR3,f24),((("number" : Str)),tkR4,xR4),((("times" : Str)),tkR5,xR5),((("cut" : Str)),tkR6,xR6)]):=dkn_tab lR ⟨rfl,rfl,rfl⟩ rfl rfl (by show (["new","name","place","row","number","times","cut"]:List Str).Nodup;decide +kernel) nR
 have dkT:DKn l.prog w K aT (tabKv [((("text" : Str)),tkT0,f27),((("reach" : Str)),tkT1,xT1),((("way" : Str)),tkT2,xT2),((("cuts" : Str)),tkT3,xT3),((("least" : Str)),tkT4,xT4),((("bare" : Str)),tkT5,xT5),((("miss" : Str)),tkT6,xT6),((("fewest" : Str)),tkT7,xT7),((("lightest" : Str)),tkT8,xT8),((("times" : Str)),tkT9,xT9),((("idle" : Str)),tkT10,xT10),((("bridges" : Str)),tkT11,xT11),((("turns" : Str)),tkT12,xT12)]):=dkn_tab lT ⟨rfl,rfl,rfl⟩ rfl rfl (by show (["text","reach","way","cuts","least","bare","miss","fewest","lightest","times","idle","bridges","turns"]:List Str).Nodup;decide +kernel) nT
 have dkM:DKn l.prog w K aM (tabKv [((("web" : Str)),tkM0,f28),((("draw" : Str)),tkM1,xM1),((("turn" : Str)),tkM2,xM2),((("more" : Str)),tkM3,xM3),((("less" : Str)),tkM4,xM4),((("join" : Str)),tkM5,xM5)]):=dkn_tab lM ⟨rfl,rfl,rfl⟩ rfl rfl (by show (["web","draw","turn","more","less","join"]:List Str).Nodup;decide +kernel) nM
 have B:Tabs l.prog w K mg aF aR aT aM xF0 xF1 f24 f27 f28 _ _ _ _:=⟨dkF,dkR,dkT,dkM,PySem.W.mg_of X G gF,PySem.W.mg_of X G gR,PySem.W.mg_of X G gT,PySem.W.mg_of X G gM,rfl,rfl,fun H=>sqt_top (xs:=[.str kNew,.str kRow]) lW rfl rfl (show 2<=sizeLine by decide) (.cons ⟨_,rfl⟩ (.cons ⟨_,rfl⟩ .nil)) H,fun H=>sqt_top (xs:=[.str kName]) lX rfl rfl (show 1<=sizeLine by decide) (.cons ⟨_,rfl⟩ .nil) H,rfl,rfl,rfl,rfl,rfl,rfl⟩
 exact ⟨PySem.W.fnOf "law" "law" (defArgs sLaw) (defBody sLaw) (defScope sLaw) .none kV35 dc35 pm35 an35 cd35 ct35,fun s v=>.of_eq rfl,fun base _ _=>law_all F_law F_init MkC B_init M WD F_dinit MkDk B_dinit F_meant Mm_meant B_meant F_say Mm_say D_name D_among D_tie D_chkP D_chkT D_wtext D_wrows D_read D_ir D_sti D_sc D_se D_scs D_sw D_rr D_wd D_ko D_as D_rwd D_ro D_tt D_mw D_row D_draw D_lname D_drn D_wrn D_sh B m_zip T⟩
theorem walk {l:PySem.W.OpenLaw} {q:Program} {loose:List Str} {XP:(Str->Option Value)->Heap->Prop} {YP:World->Heap->Prop} {d:DefRec} {K:Params->PySem.W.Frag} (hn:l.most=some 63) (hdf:d.params.defaults=[])
  (hY:∀ (w:World) (h:Heap),YP w h->(K w.params).In h)
  (F:∀ (w:World) (mg:Str->Option Value) (fa:Addr) (h:Heap),(K w.params).In h->h.Ns mainGlobals mg->mg d.name=some (.ref fa) ->
   ∃ fd:FuncData,(∀ (s:Shared) (u:Value),BindsTo s fd ⟨[u],[]⟩ [("_law_script",u)])/\∀ base:Heap,(K w.params).In base->base.Ns mainGlobals mg->FnOk l.prog w (K w.params) mg base CX0 11 fa fd ["_law_script"] (spLaw (K w.params))) :
  PySem.W.WalkO q loose XP YP l.row.toRowW d [] (fun f vs=>PySem.call f vs) :=
 L2.walk_of (n:=63) (k:=11) (x:="_law_script") (CX:=fun _=>CX0) (sp:=fun w=>spLaw (K w.params)) hn (by decide) hdf ⟨rfl,by decide,by decide,rfl⟩ hY F (fun _ _ a ns hl _ hS=>⟨a,ns,rfl,hS,hl,fun _=>rfl⟩) fun _ _ _ _ _ z=>z
end K90
def PySem.W.Fast.tw11934105398654399659:Unit:=()
def PySem.W.Fast.tw932739026838339496:Unit:=()
def PySem.W.Fast.tw272909877365232896:Unit:=()
def PySem.W.Fast.tw10003284360525022910:Unit:=()
def PySem.W.Fast.tw18097787190119609457:Unit:=()
def PySem.W.Fast.tw4946035413649144365:Unit:=()
def PySem.W.Fast.tw11372383324845174126:Unit:=()
def PySem.W.Fast.tw5907870958302558830:Unit:=()
def PySem.W.Fast.tw10641291243257271111:Unit:=()
def PySem.W.Fast.tw3946963822773507242:Unit:=()
def PySem.W.Fast.tw17943072007934103621:Unit:=()
def PySem.W.Fast.tw1223791290773331918:Unit:=()
def PySem.W.Fast.tw4875233092443551656:Unit:=()
def PySem.W.Fast.tw7534067844775659586:Unit:=()
def PySem.W.Fast.tw4820039792753143039:Unit:=()
def PySem.W.Fast.tw10012903490929704799:Unit:=()
def PySem.W.Fast.tw5450025301144320777:Unit:=()
def PySem.W.Fast.tw9098547683110770938:Unit:=()
def PySem.W.Fast.tw14676593682096153779:Unit:=()
def PySem.W.Fast.tw3872520975769924313:Unit:=()
def PySem.W.Fast.tw9060162336980084739:Unit:=()
def PySem.W.Fast.tw4218632348599291667:Unit:=()
def PySem.W.Fast.tw11944172379264658295:Unit:=()
def PySem.W.Fast.tw10479496319637861700:Unit:=()
def PySem.W.Fast.tw6711454960585876649:Unit:=()
def PySem.W.Fast.tw11599073005214460159:Unit:=()
def PySem.W.Fast.tw4504217650979976943:Unit:=()
def PySem.W.Fast.tw8139542166596371131:Unit:=()
def PySem.W.Fast.tw11924781535693778137:Unit:=()
def PySem.W.Fast.tw13082512593688606297:Unit:=()
def PySem.W.Fast.tw11471214896849910445:Unit:=()
def PySem.W.Fast.tw11940677045035856215:Unit:=()
def PySem.W.Fast.tw12802964928526207981:Unit:=()
def PySem.W.Fast.tw5428131506431308661:Unit:=()
def PySem.W.Fast.tw3045866299647174562:Unit:=()
def PySem.W.Fast.tw7395275887501900119:Unit:=()
def PySem.W.Fast.tw5223119973106483936:Unit:=()
def PySem.W.Fast.tw15362821106419746567:Unit:=()
def PySem.W.Fast.tw15760646001189793008:Unit:=()
def PySem.W.Fast.tw4249669636973132366:Unit:=()
def PySem.W.Fast.tw7566190903985568883:Unit:=()
def PySem.W.Fast.tw11258740061530032988:Unit:=()
def PySem.W.Fast.tw15249269357122031415:Unit:=()
def PySem.W.Fast.tw4370508896528027740:Unit:=()
def PySem.W.Fast.tw17607002974437433047:Unit:=()
def PySem.W.Fast.tw11866537430387975153:Unit:=()
def PySem.W.Fast.tw10865063828000647757:Unit:=()
def PySem.W.Fast.tw16932742167157103691:Unit:=()
def PySem.W.Fast.tw9560951855748538363:Unit:=()
def PySem.W.Fast.tw5994342163371446161:Unit:=()
def PySem.W.Fast.tw5604844740773929459:Unit:=()
def PySem.W.Fast.tw10711597462894516255:Unit:=()
def PySem.W.Fast.tw4917419060765944045:Unit:=()
def PySem.W.Fast.tw8785386781192272233:Unit:=()
def PySem.W.Fast.tw14993564347260129919:Unit:=()
def PySem.W.Fast.tw6163522835200464393:Unit:=()
def PySem.W.Fast.tw13873687306381493336:Unit:=()
def PySem.W.Fast.tw15170261859864876712:Unit:=()
def PySem.W.Fast.tw7778929612857093387:Unit:=()
def PySem.W.Fast.tw508827086929306161:Unit:=()
def PySem.W.Fast.tw1705528066104253173:Unit:=()
def PySem.W.Fast.tw4265448903304657077:Unit:=()
def PySem.W.Fast.tw1861956680785199270:Unit:=()
def PySem.W.Fast.tw7749414563764894764:Unit:=()
def PySem.W.Fast.tw10941493018872500652:Unit:=()
def PySem.W.Fast.tw17531002202388890413:Unit:=()
def PySem.W.Fast.tw11977933009833076382:Unit:=()
def PySem.W.Fast.tw15607888200088383366:Unit:=()
def PySem.W.Fast.tw797464332044574836:Unit:=()
def PySem.W.Fast.tw706247544968435354:Unit:=()
def PySem.W.Fast.tw8481572375352471634:Unit:=()
def PySem.W.Fast.tw15534462491529560972:Unit:=()
def PySem.W.Fast.tw16190590215966594214:Unit:=()
def PySem.W.Fast.tw5544509492198513234:Unit:=()
def PySem.W.Fast.tw15907872230956307769:Unit:=()
def PySem.W.Fast.tw695662795270381485:Unit:=()
def PySem.W.Fast.tw9634196882957047557:Unit:=()
def PySem.W.Fast.tw2088928350904580078:Unit:=()
def PySem.W.Fast.tw3542478031569560505:Unit:=()
def PySem.W.Fast.tw9280561154458581831:Unit:=()
def PySem.W.Fast.tw10433447868580424274:Unit:=()
def PySem.W.Fast.tw1219227349095541142:Unit:=()
def PySem.W.Fast.tw3535977001541791968:Unit:=()
def PySem.W.Fast.tw15376679497490194390:Unit:=()
def PySem.W.Fast.tw8806420557650299803:Unit:=()
def PySem.W.Fast.tw14362559926833365737:Unit:=()
def PySem.W.Fast.tw3452011926339519531:Unit:=()
def PySem.W.Fast.tw13712025445507212936:Unit:=()
def PySem.W.Fast.tw11685654069453405558:Unit:=()
def PySem.W.Fast.tw16676348868970699385:Unit:=()
def PySem.W.Fast.tw10282534011343976784:Unit:=()
def PySem.W.Fast.tw9452315755871593666:Unit:=()
def PySem.W.Fast.tw8941827744306324024:Unit:=()
def PySem.W.Fast.tw17772450758101163869:Unit:=()
def PySem.W.Fast.tw2011164593341340845:Unit:=()
def PySem.W.Fast.tw5413869614891636635:Unit:=()
def PySem.W.Fast.tw16504965953027704434:Unit:=()
def PySem.W.Fast.tw2122217231218466650:Unit:=()
def PySem.W.Fast.tw3540625712995424936:Unit:=()
def PySem.W.Fast.tw11175446987493434851:Unit:=()
def PySem.W.Fast.tw13858128525239673067:Unit:=()
def PySem.W.Fast.tw3186779428888683850:Unit:=()
def PySem.W.Fast.tw6696273565270265446:Unit:=()
def PySem.W.Fast.tw9298567137974650469:Unit:=()
def PySem.W.Fast.tw7344026908827524839:Unit:=()
def PySem.W.Fast.tw15972545651280113001:Unit:=()
def PySem.W.Fast.tw11969714586896632484:Unit:=()
def PySem.W.Fast.tw18095632228598009782:Unit:=()
def PySem.W.Fast.tw15338318883524179709:Unit:=()
def PySem.W.Fast.tw289894920293433151:Unit:=()
def PySem.W.Fast.tw12474310795740318108:Unit:=()
def PySem.W.Fast.tw630277466435048444:Unit:=()
def PySem.W.Fast.tw13153128538740071476:Unit:=()
def PySem.W.Fast.tw9162562499782004634:Unit:=()
def PySem.W.Fast.tw15645982456915414052:Unit:=()
def PySem.W.Fast.tw4269680821265769887:Unit:=()
def PySem.W.Fast.tw17268907775079809750:Unit:=()
def PySem.W.Fast.tw12191775579442998053:Unit:=()
def PySem.W.Fast.tw10416916791002419198:Unit:=()
def PySem.W.Fast.tw4509978901520421134:Unit:=()
def PySem.W.Fast.tw5933858605225213654:Unit:=()
def PySem.W.Fast.tw10777063904274909960:Unit:=()
def PySem.W.Fast.tw15878704327537285671:Unit:=()
def PySem.W.Fast.tw17345407576721491611:Unit:=()
def PySem.W.Fast.tw15914486253292088013:Unit:=()
def PySem.W.Fast.tw17779622548362756888:Unit:=()
def PySem.W.Fast.tw2962193709075830877:Unit:=()
def PySem.W.Fast.tw2618252267528994887:Unit:=()
def PySem.W.Fast.tw34671638951656651:Unit:=()
def PySem.W.Fast.tw9057174347125599720:Unit:=()
def PySem.W.Fast.tw16338152657339544866:Unit:=()
def PySem.W.Fast.tw5890294365149979700:Unit:=()
def PySem.W.Fast.tw4374375568411659676:Unit:=()
def PySem.W.Fast.tw15331052753245543303:Unit:=()
def PySem.W.Fast.tw16167420497120290523:Unit:=()
def PySem.W.Fast.tw16493866973289132908:Unit:=()
def PySem.W.Fast.tw10416192333014068405:Unit:=()
def PySem.W.Fast.tw1738528334338490085:Unit:=()
def PySem.W.Fast.tw8456319317858714936:Unit:=()
def PySem.W.Fast.tw11508591423887325736:Unit:=()
def PySem.W.Fast.tw7124021964502245932:Unit:=()
def PySem.W.Fast.tw15082204842423204806:Unit:=()
def PySem.W.Fast.tw15809216123463907236:Unit:=()
def PySem.W.Fast.tw7572266045238412041:Unit:=()
def PySem.W.Fast.tw4895437462632640636:Unit:=()
def PySem.W.Fast.tw639241548258330045:Unit:=()
def PySem.W.Fast.tw6574334541645270176:Unit:=()
def PySem.W.Fast.tw3734882584728468080:Unit:=()
def PySem.W.Fast.tw16839304288982689354:Unit:=()
def PySem.W.Fast.tw2016718790388407143:Unit:=()
def PySem.W.Fast.tw512559388878254596:Unit:=()
def PySem.W.Fast.tw52607205254911813:Unit:=()
def PySem.W.Fast.tw12705628691150385245:Unit:=()
def PySem.W.Fast.tw17282326154224045236:Unit:=()
def PySem.W.Fast.tw15200017993812948240:Unit:=()
def PySem.W.Fast.tw17252714724070490198:Unit:=()
def PySem.W.Fast.tw6900883493079468271:Unit:=()
def PySem.W.Fast.tw18169538543371784549:Unit:=()
def PySem.W.Fast.tw3515370850607075813:Unit:=()
def PySem.W.Fast.tw5229076564254572808:Unit:=()
def PySem.W.Fast.tw391002265531167418:Unit:=()
def PySem.W.Fast.tw4543890124289903789:Unit:=()
def PySem.W.Fast.tw2330214939391317994:Unit:=()
def PySem.W.Fast.tw9254541279859012793:Unit:=()
def PySem.W.Fast.tw4010226604538032534:Unit:=()
def PySem.W.Fast.tw1589303072341211124:Unit:=()
def PySem.W.Fast.tw5150314512837541418:Unit:=()
def PySem.W.Fast.tw896868625233916533:Unit:=()
def PySem.W.Fast.tw15638571854254366053:Unit:=()
def PySem.W.Fast.tw13019111700476916559:Unit:=()
def PySem.W.Fast.tw17479943098538700972:Unit:=()
def PySem.W.Fast.tw530317943518096842:Unit:=()
def PySem.W.Fast.tw1519034172251790803:Unit:=()
def PySem.W.Fast.tw12647354221875641023:Unit:=()
def PySem.W.Fast.tw3295080167050726199:Unit:=()
def PySem.W.Fast.tw3835887246617185117:Unit:=()
def PySem.W.Fast.tw7481578684146856938:Unit:=()
def PySem.W.Fast.tw10129482677580250253:Unit:=()
def PySem.W.Fast.tw14976256474379017582:Unit:=()
def PySem.W.Fast.tw452986592054732938:Unit:=()
def PySem.W.Fast.tw4612369140557386978:Unit:=()
def PySem.W.Fast.tw363520595733510040:Unit:=()
def PySem.W.Fast.tw12833932140771181984:Unit:=()
def PySem.W.Fast.tw12796780974658569736:Unit:=()
def PySem.W.Fast.tw7100269902287753073:Unit:=()
def PySem.W.Fast.tw15450812806649737447:Unit:=()
def PySem.W.Fast.tw4983704958239830787:Unit:=()
def PySem.W.Fast.tw7621827999786907416:Unit:=()
def PySem.W.Fast.tw9864890516501659717:Unit:=()
def PySem.W.Fast.tw6755266397019749798:Unit:=()
def PySem.W.Fast.tw17766799904946768468:Unit:=()
def PySem.W.Fast.tw6209701121477935404:Unit:=()
def PySem.W.Fast.tw11985750663641112641:Unit:=()
def PySem.W.Fast.tw11605593161214603466:Unit:=()
def PySem.W.Fast.tw13884402166425181786:Unit:=()
def PySem.W.Fast.tw16449960948025085598:Unit:=()
def PySem.W.Fast.tw6814334178904941775:Unit:=()
def PySem.W.Fast.tw18057967095741671284:Unit:=()
def PySem.W.Fast.tw13165188843337416158:Unit:=()
def PySem.W.Fast.tw17505811152588284756:Unit:=()
def PySem.W.Fast.tw6245572433138065172:Unit:=()
def PySem.W.Fast.tw18367403346633485768:Unit:=()
def PySem.W.Fast.tw18004991603407751343:Unit:=()
def PySem.W.Fast.tw10085466274909674029:Unit:=()
def PySem.W.Fast.tw8338704257492586352:Unit:=()
def PySem.W.Fast.tw14806812415315174744:Unit:=()
def PySem.W.Fast.tw1425148323828216855:Unit:=()
def PySem.W.Fast.tw6531190037524751599:Unit:=()
def PySem.W.Fast.tw3083061874927412976:Unit:=()
def PySem.W.Fast.tw15198739398933827896:Unit:=()
def PySem.W.Fast.tw16555873928272470316:Unit:=()
def PySem.W.Fast.tw11823012782100444303:Unit:=()
def PySem.W.Fast.tw17984331717596427630:Unit:=()
def PySem.W.Fast.tw10086313301931991068:Unit:=()
def PySem.W.Fast.tw121705386923575589:Unit:=()
def PySem.W.Fast.tw1839724603183421446:Unit:=()
def PySem.W.Fast.tw6587959442179965373:Unit:=()
def PySem.W.Fast.tw13848654956875574904:Unit:=()
def PySem.W.Fast.tw2604289371142159866:Unit:=()
def PySem.W.Fast.tw10799520810770297067:Unit:=()
def PySem.W.Fast.tw9134009460185695871:Unit:=()
def PySem.W.Fast.tw4707974811123126812:Unit:=()
def PySem.W.Fast.tw1682646604093637511:Unit:=()
def PySem.W.Fast.tw12366530213776348255:Unit:=()
def PySem.W.Fast.tw11523070313088139608:Unit:=()
def PySem.W.Fast.tw8760611983120107306:Unit:=()
def PySem.W.Fast.tw7665352590357544326:Unit:=()
def PySem.W.Fast.tw9584179805008439763:Unit:=()
def PySem.W.Fast.tw13932047918134466639:Unit:=()
def PySem.W.Fast.tw12858094130183066350:Unit:=()
def PySem.W.Fast.tw6624702720797030749:Unit:=()
def PySem.W.Fast.tw13581878655421798976:Unit:=()
def PySem.W.Fast.tw14152578148677422983:Unit:=()
def PySem.W.Fast.tw11931935030788698554:Unit:=()
def PySem.W.Fast.tw9433289695106460482:Unit:=()
def PySem.W.Fast.tw12502192762683455765:Unit:=()
def PySem.W.Fast.tw8022747573718514439:Unit:=()
def PySem.W.Fast.tw15192165454758185250:Unit:=()
def PySem.W.Fast.tw8810102407051899650:Unit:=()
def PySem.W.Fast.tw2719884141970531676:Unit:=()
def PySem.W.Fast.tw6478202912971614897:Unit:=()
def PySem.W.Fast.tw16014146930462561154:Unit:=()
def PySem.W.Fast.tw10680489419432347553:Unit:=()
def PySem.W.Fast.tw14734852215305215166:Unit:=()
def PySem.W.Fast.tw117891948655169461:Unit:=()
def PySem.W.Fast.tw1138010282266714592:Unit:=()
def PySem.W.Fast.tw3025197519497198281:Unit:=()
def PySem.W.Fast.tw5024818927213682475:Unit:=()
def PySem.W.Fast.tw10246214676793702513:Unit:=()
def PySem.W.Fast.tw1859851692037249912:Unit:=()
def PySem.W.Fast.tw2560351052545828724:Unit:=()
def PySem.W.Fast.tw4381759729736370593:Unit:=()
def PySem.W.Fast.tw18392429313641688424:Unit:=()
def PySem.W.Fast.tw17887514082508824081:Unit:=()
def PySem.W.Fast.tw9065712734360634059:Unit:=()
def PySem.W.Fast.tw3822079205352556596:Unit:=()
def PySem.W.Fast.tw13604161571466465971:Unit:=()
def PySem.W.Fast.tw17075761627381432340:Unit:=()
def PySem.W.Fast.tw16576542029645568388:Unit:=()
def PySem.W.Fast.tw5947062930443548450:Unit:=()
def PySem.W.Fast.tw16531005453374404008:Unit:=()
def PySem.W.Fast.tw3536168823304305935:Unit:=()
def PySem.W.Fast.tw9253820421022106912:Unit:=()
def PySem.W.Fast.tw15148144188831166447:Unit:=()
def PySem.W.Fast.tw9205871452549722109:Unit:=()
def PySem.W.Fast.tw8817440762086925625:Unit:=()
def PySem.W.Fast.tw11848337219362659959:Unit:=()
def PySem.W.Fast.tw18368117810773386345:Unit:=()
def PySem.W.Fast.tw12904965995333788801:Unit:=()
def PySem.W.Fast.tw1640043043462148669:Unit:=()
def PySem.W.Fast.tw2027311186601835552:Unit:=()
def PySem.W.Fast.tw10540223984723694593:Unit:=()
def PySem.W.Fast.tw10740652037508713962:Unit:=()
def PySem.W.Fast.tw13871218262990076787:Unit:=()
def PySem.W.Fast.tw8243275975645124972:Unit:=()
def PySem.W.Fast.tw7594816886456616984:Unit:=()
def PySem.W.Fast.tw1138812906592428542:Unit:=()
def PySem.W.Fast.tw11741312845401213453:Unit:=()
def PySem.W.Fast.tw15126754173176249486:Unit:=()
def PySem.W.Fast.tw6630989651428277563:Unit:=()
def PySem.W.Fast.tw520690998242799257:Unit:=()
def PySem.W.Fast.tw13068714455010349992:Unit:=()
def PySem.W.Fast.tw15802579933729761138:Unit:=()
def PySem.W.Fast.tw1281663440342796694:Unit:=()
def PySem.W.Fast.tw18414514651917041747:Unit:=()
def PySem.W.Fast.tw2599504845891027663:Unit:=()
def PySem.W.Fast.tw5953879196104783453:Unit:=()
def PySem.W.Fast.tw7322543541517686503:Unit:=()
open PySem PySem.W PyProof.Rows
set_option maxRecDepth 100000 in
set_option maxHeartbeats 0 in
theorem PySem.Challenge.cw_cutmeet_k90_shown_by_names_holds : PySem.Challenge.rw_cutmeet_k90_shown_by_names.Holds := by
  w_on; o_law; k_head; (case hw => w_witness2)
  k_fill
  refine K90.walk (l := PySem.Challenge.rw_cutmeet_k90_shown_by_names) rfl rfl (fun w h Y => PySem.W.kIn_of Y) ?F
  case F =>
    intro w mg fa h KX G hmg
    refine' K90.all_mk KX G hmg ?aC ?a1 ?i1 ?l1 ?c1 ?k1 ?a2 ?i2 ?l2 ?c2 ?k2 ?a3 ?i3 ?l3 ?c3 ?k3 ?pgC ?hdC ?poC ?saC ?mkC ?kcC ?nAC0 ?nAC1 ?aDk ?a4 ?i4 ?l4 ?c4 ?k4 ?a5 ?i5 ?l5 ?c5 ?k5 ?a6 ?i6 ?l6 ?c6 ?k6 ?pgDk ?hdDk ?poDk ?saDk ?mkDk ?kcDk ?nADk0 ?a7 ?l7 ?c7 ?k7 ?a8 ?l8 ?c8 ?k8 ?a9 ?l9 ?c9 ?k9 ?a10 ?l10 ?c10 ?k10 ?a11 ?l11 ?c11 ?k11 ?a12 ?l12 ?c12 ?k12 ?a13 ?l13 ?c13 ?k13 ?a14 ?l14 ?c14 ?k14 ?a15 ?l15 ?c15 ?k15 ?a16 ?l16 ?c16 ?k16 ?a17 ?l17 ?c17 ?k17 ?a18 ?l18 ?c18 ?k18 ?a19 ?l19 ?c19 ?k19 ?a20 ?l20 ?c20 ?k20 ?a21 ?l21 ?c21 ?k21 ?a22 ?l22 ?c22 ?k22 ?a23 ?l23 ?c23 ?k23 ?a24 ?l24 ?c24 ?k24 ?a25 ?l25 ?c25 ?k25 ?a26 ?l26 ?c26 ?k26 ?a27 ?l27 ?c27 ?k27 ?a28 ?l28 ?c28 ?k28 ?a29 ?l29 ?c29 ?k29 ?a30 ?l30 ?c30 ?k30 ?a31 ?l31 ?c31 ?k31 ?a32 ?l32 ?c32 ?k32 ?a33 ?l33 ?c33 ?k33 ?a34 ?l34 ?c34 ?k34 ?a35 ?l35 ?c35 ?k35 ?g_divmod ?g_len ?g_all ?g_isinstance ?g_str ?g_range ?g_max ?g_min ?g_bool ?g_list ?g_int ?g_tuple ?g_set ?g_sorted ?g_zip ?g_LONGEST ?g_MOST_PLACES ?g_MOST_TIES ?gF ?lF ?nF ?gR ?lR ?nR ?gT ?lT ?nT ?gM ?lM ?nM ?lW ?lX
    (case aC => k_is)
    (case a1 => k_is)
    (case i1 => k_is)
    (case l1 => k_is)
    (case c1 => k_is)
    (case k1 => k_is)
    (case a2 => k_is)
    (case i2 => k_is)
    (case l2 => k_is)
    (case c2 => k_is)
    (case k2 => k_is)
    (case a3 => k_is)
    (case i3 => k_is)
    (case l3 => k_is)
    (case c3 => k_is)
    (case k3 => k_is)
    (case pgC => k_is)
    (case hdC => k_is)
    (case poC => k_is)
    (case saC => k_is)
    (case mkC => k_is)
    (case kcC => k_is)
    (case nAC0 => k_is)
    (case nAC1 => k_is)
    (case aDk => k_is)
    (case a4 => k_is)
    (case i4 => k_is)
    (case l4 => k_is)
    (case c4 => k_is)
    (case k4 => k_is)
    (case a5 => k_is)
    (case i5 => k_is)
    (case l5 => k_is)
    (case c5 => k_is)
    (case k5 => k_is)
    (case a6 => k_is)
    (case i6 => k_is)
    (case l6 => k_is)
    (case c6 => k_is)
    (case k6 => k_is)
    (case pgDk => k_is)
    (case hdDk => k_is)
    (case poDk => k_is)
    (case saDk => k_is)
    (case mkDk => k_is)
    (case kcDk => k_is)
    (case nADk0 => k_is)
    (case a7 => k_is)
    (case l7 => k_is)
    (case c7 => k_is)
    (case k7 => k_is)
    (case a8 => k_is)
    (case l8 => k_is)
    (case c8 => k_is)
    (case k8 => k_is)
    (case a9 => k_is)
    (case l9 => k_is)
    (case c9 => k_is)
    (case k9 => k_is)
    (case a10 => k_is)
    (case l10 => k_is)
    (case c10 => k_is)
    (case k10 => k_is)
    (case a11 => k_is)
    (case l11 => k_is)
    (case c11 => k_is)
    (case k11 => k_is)
    (case a12 => k_is)
    (case l12 => k_is)
    (case c12 => k_is)
    (case k12 => k_is)
    (case a13 => k_is)
    (case l13 => k_is)
    (case c13 => k_is)
    (case k13 => k_is)
    (case a14 => k_is)
    (case l14 => k_is)
    (case c14 => k_is)
    (case k14 => k_is)
    (case a15 => k_is)
    (case l15 => k_is)
    (case c15 => k_is)
    (case k15 => k_is)
    (case a16 => k_is)
    (case l16 => k_is)
    (case c16 => k_is)
    (case k16 => k_is)
    (case a17 => k_is)
    (case l17 => k_is)
    (case c17 => k_is)
    (case k17 => k_is)
    (case a18 => k_is)
    (case l18 => k_is)
    (case c18 => k_is)
    (case k18 => k_is)
    (case a19 => k_is)
    (case l19 => k_is)
    (case c19 => k_is)
    (case k19 => k_is)
    (case a20 => k_is)
    (case l20 => k_is)
    (case c20 => k_is)
    (case k20 => k_is)
    (case a21 => k_is)
    (case l21 => k_is)
    (case c21 => k_is)
    (case k21 => k_is)
    (case a22 => k_is)
    (case l22 => k_is)
    (case c22 => k_is)
    (case k22 => k_is)
    (case a23 => k_is)
    (case l23 => k_is)
    (case c23 => k_is)
    (case k23 => k_is)
    (case a24 => k_is)
    (case l24 => k_is)
    (case c24 => k_is)
    (case k24 => k_is)
    (case a25 => k_is)
    (case l25 => k_is)
    (case c25 => k_is)
    (case k25 => k_is)
    (case a26 => k_is)
    (case l26 => k_is)
    (case c26 => k_is)
    (case k26 => k_is)
    (case a27 => k_is)
    (case l27 => k_is)
    (case c27 => k_is)
    (case k27 => k_is)
    (case a28 => k_is)
    (case l28 => k_is)
    (case c28 => k_is)
    (case k28 => k_is)
    (case a29 => k_is)
    (case l29 => k_is)
    (case c29 => k_is)
    (case k29 => k_is)
    (case a30 => k_is)
    (case l30 => k_is)
    (case c30 => k_is)
    (case k30 => k_is)
    (case a31 => k_is)
    (case l31 => k_is)
    (case c31 => k_is)
    (case k31 => k_is)
    (case a32 => k_is)
    (case l32 => k_is)
    (case c32 => k_is)
    (case k32 => k_is)
    (case a33 => k_is)
    (case l33 => k_is)
    (case c33 => k_is)
    (case k33 => k_is)
    (case a34 => k_is)
    (case l34 => k_is)
    (case c34 => k_is)
    (case k34 => k_is)
    (case a35 => k_is)
    (case l35 => k_is)
    (case c35 => k_is)
    (case k35 => k_is)
    (case g_divmod => k_is)
    (case g_len => k_is)
    (case g_all => k_is)
    (case g_isinstance => k_is)
    (case g_str => k_is)
    (case g_range => k_is)
    (case g_max => k_is)
    (case g_min => k_is)
    (case g_bool => k_is)
    (case g_list => k_is)
    (case g_int => k_is)
    (case g_tuple => k_is)
    (case g_set => k_is)
    (case g_sorted => k_is)
    (case g_zip => k_is)
    (case g_LONGEST => k_is)
    (case g_MOST_PLACES => k_is)
    (case g_MOST_TIES => k_is)
    (case gF => k_is)
    (case lF => k_is)
    (case nF => rfl)
    (case gR => k_is)
    (case lR => k_is)
    (case nR => rfl)
    (case gT => k_is)
    (case lT => k_is)
    (case nT => rfl)
    (case gM => k_is)
    (case lM => k_is)
    (case nM => rfl)
    (case lW => k_is)
    (case lX => k_is)

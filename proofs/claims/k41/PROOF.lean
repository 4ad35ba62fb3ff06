import PyProof.Rows.All
import Wide.All
import OpenK.AllK
import Wide.FinOn
import Lean
import PyProof.EqAt
import PyProof.EqKinds
import PyProof.TupleCall
import PyProof.NeKinds
import PyProof.Rows.FactsN_abs
import KE.KDictSum
import PyProof.DictCompW
import KE.KDictOf
import PyProof.AttrMissHeap
import PyProof.DictIter
import KE.KRevSl
import PyProof.EnumFor
import PyProof.EnumMake
import PyProof.EnumStmt
import PyProof.Rows.SortShellK
import PyProof.Rows.SortStr
import PyProof.DictKinds
import PyProof.TupleKey
import PyProof.ZipIter
import PyProof.Rows.ZipGen
import PyProof.Rows.SortShell
import PyProof.ListRange
import PySem.Challenge.RW_cutmeet_k41_meeters_known
set_option Elab.async false
set_option linter.all false
set_option maxRecDepth 100000
namespace L2
open PySem PySem.Spec PyProof.Rows
abbrev Key:=Sum Int Str
def keyIs:Key->Value->Bool
 | .inl k,v=>Value.isInt k v
 | .inr x,v=>Value.isStrOf x v
def keyH (w:World):Key->Int
 | .inl k=>hashInt k
 | .inr x=>hashStr w x
theorem keyIs_shape:∀ {k:Key} {v:Value},keyIs k v=true->(∃ i t,k=Sum.inl i/\v=Value.int i t)\/(∃ x t,k=Sum.inr x/\v=Value.str x t)
 | .inl i,v,h=>by
  obtain ⟨t,e⟩:=Value.isInt_shape (k:=i) (v:=v) h
  exact .inl ⟨i,t,rfl,e⟩
 | .inr x,v,h=>by
  obtain ⟨t,e⟩:=Value.isStrOf_shape (x:=x) (v:=v) h
  exact .inr ⟨x,t,rfl,e⟩
theorem keyIs_int (i:Int) (t:Tok):keyIs (.inl i) (.int i t)=true:=by simp [keyIs,Value.isInt]
theorem keyIs_str (x:Str) (t:Tok):keyIs (.inr x) (.str x t)=true:=by simp [keyIs,Value.isStrOf]
theorem key_ll (a b:Int):decide ((Sum.inl a:Key)=Sum.inl b)=(a == b):=by
 by_cases e:a=b
 ·subst e;simp
 ·have h:¬ (Sum.inl a:Key)=Sum.inl b:=fun q=>e (Sum.inl.inj q)
  rw [decide_eq_false h]
  exact (beq_eq_false_iff_ne.mpr e).symm
theorem key_rr (a b:Str):decide ((Sum.inr a:Key)=Sum.inr b)=decide (a=b):=by
 by_cases e:a=b
 ·subst e;simp
 ·have h:¬ (Sum.inr a:Key)=Sum.inr b:=fun q=>e (Sum.inr.inj q)
  rw [decide_eq_false h,decide_eq_false e]
theorem key_lr (a:Int) (b:Str):decide ((Sum.inl a:Key)=Sum.inr b)=false:=decide_eq_false (fun q=>nomatch q)
theorem key_rl (a:Str) (b:Int):decide ((Sum.inr a:Key)=Sum.inl b)=false:=decide_eq_false (fun q=>nomatch q)
def mixKind (prog:Program) (w:World):PySem.KeyKind prog w Key where
 is:=keyIs
 hash:=keyH w
 inj:=fun v a b ha hb=>by
  rcases keyIs_shape ha with ⟨i,t,rfl,rfl⟩ | ⟨x,t,rfl,rfl⟩
  ·rcases keyIs_shape hb with ⟨j,u,rfl,e⟩ | ⟨y,u,rfl,e⟩
   ·injection e with e1 _;rw [e1]
   ·exact nomatch e
  ·rcases keyIs_shape hb with ⟨j,u,rfl,e⟩ | ⟨y,u,rfl,e⟩
   ·exact nomatch e
   ·injection e with e1 _;rw [e1]
 byValue:=fun k v h=>by
  rcases keyIs_shape h with ⟨i,t,rfl,rfl⟩ | ⟨x,t,rfl,rfl⟩<;>rfl
 pyHash:=fun hv h=>by
  rcases keyIs_shape hv with ⟨i,t,rfl,rfl⟩ | ⟨x,t,rfl,rfl⟩
  ·exact wpAny_pyHash_int h
  ·exact wpAny_pyHash_str h
 eqBool:=fun hu hv h=>by
  rcases keyIs_shape hu with ⟨i,t,rfl,rfl⟩ | ⟨x,t,rfl,rfl⟩
  ·rcases keyIs_shape hv with ⟨j,u,rfl,rfl⟩ | ⟨y,u,rfl,rfl⟩
   ·rw [key_ll] at h;exact wpAny_eqBool_int h
   ·rw [key_lr] at h;exact SeqAt.EqAt.int_str i t y u _ _ _ _ h
  ·rcases keyIs_shape hv with ⟨j,u,rfl,rfl⟩ | ⟨y,u,rfl,rfl⟩
   ·rw [key_rl] at h;exact SeqAt.EqAt.str_int x t j u _ _ _ _ h
   ·rw [key_rr] at h;exact wpAny_eqBool_str h
 «strs»:=fun k x t v h=>by
  rcases keyIs_shape h with ⟨i,u,rfl,e⟩ | ⟨y,u,rfl,e⟩
  ·exact nomatch e
  ·injection e with e1 _
   subst e1
   cases v<;>rfl
theorem mixKind_int (prog:Program) (w:World) (i:Int) (t:Tok):(mixKind prog w).is (.inl i) (.int i t)=true:=keyIs_int i t
theorem mixKind_str (prog:Program) (w:World) (x:Str) (t:Tok):(mixKind prog w).is (.inr x) (.str x t)=true:=keyIs_str x t
inductive V where
 | non | bl (b:Bool) | int (i:Int) | str (x:Str) | byt (b:Array UInt8) | flt (b:UInt64) | ref (a:Addr) | ty (n:String)
 deriving DecidableEq
def RelV:V->Value->Prop
 | .non,u=>u=Value.none
 | .bl b,u=>u=Value.bool b
 | .int i,u=>∃ t,u=Value.int i t
 | .str x,u=>∃ t,u=Value.str x t
 | .byt b,u=>∃ t,u=Value.bytes b t
 | .flt b,u=>∃ t,u=Value.float b t
 | .ref a,u=>u=Value.ref a
 | .ty n,u=>u=Value.type n
abbrev Vals:List V->List Value->Prop:=Paired RelV
theorem Vals.length {xs:List V} {us:List Value} (r:Vals xs us):xs.length=us.length:=Paired.length r
theorem Vals.get:∀ {xs:List V} {us:List Value} {i:Nat} {x:V},Vals xs us->xs[i]?=some x->∃ u,us[i]?=some u/\RelV x u
 | _,_,_,_,.nil,e=>by simp at e
 | _,_,0,_,.cons r _,e=>by simp at e;subst e;exact ⟨_,rfl,r⟩
 | _,_,i+1,x,.cons _ t,e=>by
  obtain ⟨u,h1,h2⟩:=Vals.get (i:=i) (x:=x) t (by simpa using e)
  exact ⟨u,by simpa using h1,h2⟩
theorem Vals.set {x:V} {u:Value} (r:RelV x u):∀ {xs:List V} {us:List Value} (i:Nat),Vals xs us->Vals (xs.set i x) (us.set i u)
 | _,_,_,.nil=>.nil
 | _,_,0,.cons _ t=>.cons r t
 | _,_,i+1,.cons q t=>.cons q (Vals.set r i t)
theorem Vals.append:∀ {xs ys:List V} {us ws:List Value},Vals xs us->Vals ys ws->Vals (xs++ys) (us++ws)
 | _,_,_,_,.nil,s=>s
 | _,_,_,_,.cons r t,s=>.cons r (Vals.append t s)
theorem Vals.take:∀ {xs:List V} {us:List Value} (n:Nat),Vals xs us->Vals (xs.take n) (us.take n)
 | _,_,0,_=>.nil
 | _,_,_+1,.nil=>.nil
 | _,_,n+1,.cons r t=>.cons r (Vals.take n t)
theorem Vals.drop:∀ {xs:List V} {us:List Value} (n:Nat),Vals xs us->Vals (xs.drop n) (us.drop n)
 | _,_,0,r=>r
 | _,_,_+1,.nil=>.nil
 | _,_,n+1,.cons _ t=>Vals.drop n t
def RelO:Option V->Option Value->Prop
 | some v,some u=>RelV v u
 | none,none=>True
 | _,_=>False
def KV {κ:Type}:List (κ × V)->List (κ × Value)->Prop:=Paired fun (p:κ × V) (q:κ × Value)=>p.1=q.1/\RelV p.2 q.2
def kV:Key->V
 | .inl i=>.int i
 | .inr x=>.str x
inductive HO where
  | lst (xs:List V)
  | tup (xs:List V)
  | dK (kvs:List (Key × V)) | dT (kvs:List (List Key × V))
  | set (S:Int->Bool) (n:Nat)
  | ins (C dx:Addr) (fs:List (Str × V))
  | own (x:Addr)
  | xd (fs:List (Str × V))
  | met (f x:Addr)
  | rng (lo hi:Int)
  | frz (o:Obj) (u:HO)
  | tbl (ps:Array Value)
  | ext (φ:Heap->Prop)
abbrev Hp:=Addr->Option HO
def upd (H:Hp) (a:Addr) (o:HO):Hp:=fun b=>if b=a then some o else H b
theorem upd_same {H:Hp} {a:Addr} {o:HO}:upd H a o a=some o:=by unfold upd;rw [if_pos rfl]
theorem upd_ne {H:Hp} {a b:Addr} {o:HO} (h:b≠a):upd H a o b=H b:=by unfold upd;rw [if_neg h]
theorem upd_upd {H:Hp} {a:Addr} {o u:HO}:upd (upd H a o) a u=upd H a u:=by
 funext b;unfold upd;split<;>rfl
theorem ne_of {H:Hp} {a b:Addr} {o u:HO} (h:H a=some o) (h':H b=some u) (d:o≠u):a≠b:=by
 intro e;subst e;rw [h] at h';exact d (Option.some.inj h')
theorem ne_of_none {H:Hp} {a b:Addr} {o:HO} (h:H a=some o) (h':H b=none):a≠b:=by
 intro e;subst e;rw [h] at h';cases h'
section
variable (P:Program) (w:World)
def ObjOk (H:Hp) (h:Heap) (a:Addr):HO->Prop
 | .lst xs=>xs.length<=sizeLine/\∃ (its:List Value) (n:Nat),Vals xs its/\h.get? a=some { cls:=.type "list",data:=.seq its.toArray n }
 | .tup xs=>xs.length<=sizeLine/\∃ its:List Value,Vals xs its/\IsTup h a its.toArray
 | .dK kvs=>kvs.length<=sizeLine/\(a == sysModules)=false/\∃ vs,KV kvs vs/\h.DictOf (mixKind P w) a vs
 | .dT kvs=>kvs.length<=sizeLine/\(a == sysModules)=false/\∃ xs:List (List Key × Addr × Value),
   Paired (fun (p:List Key × V) (q:List Key × Addr × Value)=>p.1=q.1/\H q.2.1=some (.tup (p.1.map kV))/\RelV p.2 q.2.2) kvs xs /\
   ∃ o es ep,h.get? a=some o/\o.ExactDict/\o.data=.dict es ep/\es.toList=xs.map (entryOfKey (tupleKind (mixKind P w)))/\(xs.map (·.1)).Nodup
 | .set S n=>h.SetOf (intKind P w) a S n
 | .ins C dx fs=>H dx=some (.own a)/\fs.length<=1000/\dx≠a/\h.get? a=some (PySem.W.instObj C dx) /\
   ∃ mA,h.Ns1 dx mA/\(∀ f,RelO (fs.lookup f) (mA f))/\PySem.Within mA (fs.map (·.1))
 | .own _=>∃ o,h.get? a=some o
 | .xd fs=>∃ mA,h.Ns1 a mA/\∀ f,RelO (fs.lookup f) (mA f)
 | .rng lo hi=>∃ t u v,h.get? a=some { cls:=.type "range",data:=.fields #[.int lo t,.int hi u,.int 1 v] }
 | .frz o u=>h.get? a=some o/\ObjOk H h a u
 | .tbl ps=>h.get? a=some { cls:=.none,data:=.fields ps }
 | .met f x=>h.get? a=some (PySem.W.methodObj (.ref f) (.ref x))
 | .ext φ=>φ h/\(∃ o,h.get? a=some o)/\∀ h1 h2:Heap,φ h1->(∀ o,h1.get? a=some o->h2.get? a=some o)->φ h2
def HOk (H:Hp) (h:Heap):Prop:=∀ a o,H a=some o->ObjOk P w H h a o
end
section
variable {P:Program} {w:World} {H H':Hp} {h h':Heap} {a:Addr} {o:HO}
theorem ObjOk.lt (x:ObjOk P w H h a o):a < h.objs.size:=by
 cases o with
 | lst xs=>obtain ⟨_,_,_,_,e⟩:=x;exact Heap.lt_size e
 | tup xs=>obtain ⟨_,_,_,p⟩:=x;exact p.lt
 | dK kvs=>obtain ⟨_,_,_,_,o,_,_,e,_⟩:=x;exact Heap.lt_size e
 | dT kvs=>obtain ⟨_,_,_,_,o,_,_,e,_⟩:=x;exact Heap.lt_size e
 | set S n=>obtain ⟨o,_,_,_,e,_⟩:=x;exact Heap.lt_size e
 | ins C dx fs=>obtain ⟨_,_,_,e,_⟩:=x;exact Heap.lt_size e
 | own y=>obtain ⟨_,e⟩:=x;exact Heap.lt_size e
 | xd fs=>obtain ⟨_,⟨_,_,_,e,_⟩,_⟩:=x;exact Heap.lt_size e
 | rng lo hi=>obtain ⟨_,_,_,e⟩:=x;exact Heap.lt_size e
 | frz ob u=>obtain ⟨e,_⟩:=x;exact Heap.lt_size e
 | tbl ps=>exact Heap.lt_size (show h.get? a=some _ from x)
 | met f y=>exact Heap.lt_size (show h.get? a=some _ from x)
 | ext φ=>obtain ⟨_,⟨_,e⟩,_⟩:=x;exact Heap.lt_size e
theorem Paired.mapP {α β:Type} {F G:α->β->Prop}:∀ {l₁:List α} {l₂:List β},Paired F l₁ l₂->(∀ a b,F a b->G a b)->Paired G l₁ l₂
 | _,_,.nil,_=>.nil
 | _,_,.cons r t,f=>.cons (f _ _ r) (Paired.mapP t f)
theorem ObjOk.stay (x:ObjOk P w H h a o) (k:∀ b u,(b=a\/H b=some (.own a))->h.get? b=some u->h'.get? b=some u)
  (ho:∀ b,H b=some (.own a)->H' b=some (.own a)) (ht:∀ b xs,H b=some (.tup xs)->H' b=some (.tup xs)):ObjOk P w H' h' a o:=by
 induction o with
 | lst xs=>obtain ⟨z,its,n,r,e⟩:=x;exact ⟨z,its,n,r,k _ _ (.inl rfl) e⟩
 | tup xs=>obtain ⟨z,its,r,ob,e,c⟩:=x;exact ⟨z,its,r,ob,k _ _ (.inl rfl) e,c⟩
 | dK kvs=>obtain ⟨z,y,vs,r,ob,es,ep,e,c⟩:=x;exact ⟨z,y,vs,r,ob,es,ep,k _ _ (.inl rfl) e,c⟩
 | dT kvs =>
  obtain ⟨z,y,xs,r,ob,es,ep,e,c⟩:=x
  exact ⟨z,y,xs,Paired.mapP r fun p q z=>⟨z.1,ht _ _ z.2.1,z.2.2⟩,ob,es,ep,k _ _ (.inl rfl) e,c⟩
 | set S n=>obtain ⟨ob,es,ep,t,e,c⟩:=x;exact ⟨ob,es,ep,t,k _ _ (.inl rfl) e,c⟩
 | ins C dx fs =>
  obtain ⟨d,z,ne,e,mA,⟨od,es,ep,e2,c⟩,r⟩:=x
  exact ⟨ho _ d,z,ne,k _ _ (.inl rfl) e,mA,⟨od,es,ep,k _ _ (.inr d) e2,c⟩,r⟩
 | own y=>obtain ⟨ob,e⟩:=x;exact ⟨ob,k _ _ (.inl rfl) e⟩
 | xd fs=>obtain ⟨mA,⟨od,es,ep,e,c⟩,r⟩:=x;exact ⟨mA,⟨od,es,ep,k _ _ (.inl rfl) e,c⟩,r⟩
 | rng lo hi=>obtain ⟨t,u,v,e⟩:=x;exact ⟨t,u,v,k _ _ (.inl rfl) e⟩
 | frz ob u ih=>obtain ⟨e,q⟩:=x;exact ⟨k _ _ (.inl rfl) e,ih q⟩
 | tbl ps =>
  have e:h.get? a=some { cls:=.none,data:=.fields ps }:=x
  show h'.get? a=some { cls:=.none,data:=.fields ps }
  exact k a _ (.inl rfl) e
 | met f y =>
  have e:h.get? a=some (PySem.W.methodObj (.ref f) (.ref y)):=x
  show h'.get? a=some (PySem.W.methodObj (.ref f) (.ref y))
  exact k a _ (.inl rfl) e
 | ext φ=>obtain ⟨p,⟨o,e⟩,st⟩:=x;exact ⟨st _ _ p fun o q=>k _ _ (.inl rfl) q,⟨o,k _ _ (.inl rfl) e⟩,st⟩
theorem HOk.lt (x:HOk P w H h) (e:H a=some o):a < h.objs.size:=(x a o e).lt
theorem HOk.fresh (x:HOk P w H h) (e:h.objs.size<=a):H a=none:=by
 cases q:H a with
 | none=>rfl
 | some u=>exact absurd (Nat.lt_of_lt_of_le (x.lt q) e) (Nat.lt_irrefl _)
theorem HOk.kept (x:HOk P w H h) (k:∀ b u,h.get? b=some u->h'.get? b=some u):HOk P w H h':=fun a o e =>
 (x a o e).stay (fun b u _ q=>k b u q) (fun _ q=>q) fun _ _ q=>q
theorem HOk.laid (x:HOk P w H h) (k:∀ b u,h.get? b=some u->h'.get? b=some u) (hp:h.objs.size<=a) (new:ObjOk P w (upd H a o) h' a o):HOk P w (upd H a o) h':=fun b u e=>by
 have hn:=x.fresh hp
 by_cases hb:b=a
 ·subst hb;rw [upd_same] at e;cases e;exact new
 ·rw [upd_ne hb] at e
  exact (x b u e).stay (fun c v _ q=>k c v q) (fun c q=>by rw [upd_ne (ne_of_none q hn)];exact q) fun c xs q=>by rw [upd_ne (ne_of_none q hn)];exact q
end
def Rd (H:Hp) (a:Addr) (u:HO):Prop:=H a=some u\/∃ o,H a=some (.frz o u)
theorem Rd.ok {P:Program} {w:World} {H:Hp} {h:Heap} {a:Addr} {u:HO} (r:Rd H a u) (x:HOk P w H h):ObjOk P w H h a u:=by
 rcases r with r | ⟨o,r⟩
 ·exact x a u r
 ·obtain ⟨_,q⟩:=x a _ r
  exact q
def Mut:Option HO->Prop
 | some (.lst _)=>True
 | some (.dK _)=>True
 | some (.dT _)=>True
 | some (.set _ _)=>True
 | some (.ins _ _ _)=>True
 | some (.ext _)=>True
 | _=>False
section
variable {P:Program} {w:World} {H:Hp} {h h':Heap} {x e:Addr} {o':HO}
theorem HOk.write (ok:HOk P w H h) (mu:Mut (H x)) (he:e=x\/H e=some (.own x)) (k:∀ b u,b≠e->h.get? b=some u->h'.get? b=some u) (heo:∃ u,h'.get? e=some u)
  (new:ObjOk P w (upd H x o') h' x o'):HOk P w (upd H x o') h':=fun b u q=>by
 have nown:∀ c y,H c=some (.own y)->c≠x:=fun c y r z=>by subst z;rw [r] at mu;exact mu
 have ntup:∀ c xs,H c=some (.tup xs)->c≠x:=fun c xs r z=>by subst z;rw [r] at mu;exact mu
 by_cases hb:b=x
 ·subst hb;rw [upd_same] at q;cases q;exact new
 ·rw [upd_ne hb] at q
  by_cases hbe:b=e
  ·have q':H b=some (.own x):=by
    rcases he with z | z
    ·exact absurd (hbe.trans z) hb
    ·rw [hbe];exact z
   rw [q] at q';cases q'
   obtain ⟨v,hv⟩:=heo
   exact ⟨v,by rw [hbe];exact hv⟩
  ·refine (ok b u q).stay (fun c v hc r=>k c v ?_ r) (fun c r=>by rw [upd_ne (nown c b r)];exact r) fun c xs r=>by rw [upd_ne (ntup c xs r)];exact r
   rcases hc with rfl | hc
   ·exact hbe
   ·rintro rfl
    rcases he with z | z
    ·exact nown c b hc z
    ·rw [hc] at z;cases z;exact hb rfl
end
structure Un (fs ex:List Addr) (H H':Hp) (h h':Heap):Prop where
 keep:∀ b o,h.get? b=some o->H b=none->b ∉ fs->b ∉ ex->h'.get? b=some o
 slot:∀ b o,h.get? b=some o->H b=none->b∈fs->b ∉ ex->∃ sl,h'.get? b=some { o with slots:=sl }
 free:∀ b o,h.get? b=some o->H b=none->b ∉ ex->H' b=none
 there:∀ b o,h.get? b=some o->b ∉ ex->∃ o',h'.get? b=some o'
 tups:∀ b xs,H b=some (.tup xs)->H' b=some (.tup xs)
 frzs:∀ b o u,H b=some (.frz o u)->H' b=some (.frz o u)
 tbls:∀ b ps,H b=some (.tbl ps)->∃ more,H' b=some (.tbl (ps++more))
section
variable {fs fs' ex ex':List Addr} {H H1 H2:Hp} {h h1 h2 h':Heap} {a x e:Addr} {o:HO}
theorem Un.any (u:Un fs ex H H1 h h1) {b:Addr} {ob:Obj} (q:h.get? b=some ob) (n:H b=none) (hx:b ∉ ex):∃ sl,h1.get? b=some { ob with slots:=sl }:=by
 by_cases hb:b∈fs
 ·exact u.slot b ob q n hb hx
 ·exact ⟨ob.slots,u.keep b ob q n hb hx⟩
theorem Un.trans (a:Un fs ex H H1 h h1) (b:Un fs ex H1 H2 h1 h2):Un fs ex H H2 h h2 where
 keep:=fun c ob q n hc hx=>b.keep c ob (a.keep c ob q n hc hx) (a.free c ob q n hx) hc hx
 slot:=fun c ob q n hc hx=>by
  obtain ⟨sl,e1⟩:=a.slot c ob q n hc hx
  obtain ⟨sl',e2⟩:=b.slot c _ e1 (a.free c ob q n hx) hc hx
  exact ⟨sl',e2⟩
 free:=fun c ob q n hx=>by
  obtain ⟨o',e1⟩:=a.there c ob q hx
  exact b.free c o' e1 (a.free c ob q n hx) hx
 there:=fun c ob q hx=>by
  obtain ⟨o',e1⟩:=a.there c ob q hx
  exact b.there c o' e1 hx
 tups:=fun c xs q=>b.tups c xs (a.tups c xs q)
 frzs:=fun c ob xs q=>b.frzs c ob xs (a.frzs c ob xs q)
 tbls:=fun c ps q=>by
  obtain ⟨m1,e1⟩:=a.tbls c ps q
  obtain ⟨m2,e2⟩:=b.tbls c _ e1
  exact ⟨m1++m2,by rw [e2,Array.append_assoc]⟩
theorem Un.kept (k:∀ b u,h.get? b=some u->h'.get? b=some u):Un fs ex H H h h' :=
 ⟨fun b ob q _ _ _=>k b ob q,fun b ob q _ _ _=>⟨ob.slots,k b ob q⟩,fun _ _ _ n _=>n,fun b ob q _=>⟨ob,k b ob q⟩,fun _ _ q=>q,fun _ _ _ q=>q,fun _ ps q=>⟨#[],by rw [q];simp⟩⟩
theorem Un.refl:Un fs ex H H h h:=Un.kept fun _ _ q=>q
theorem Un.laid (k:∀ b u,h.get? b=some u->h'.get? b=some u) (hp:h.objs.size<=a) (hn:H a=none):Un fs ex H (upd H a o) h h' where
 keep:=fun b u q _ _ _=>k b u q
 slot:=fun b u q _ _ _=>⟨u.slots,k b u q⟩
 free:=fun b u q n _=>by rw [upd_ne (Nat.ne_of_lt (Nat.lt_of_lt_of_le (Heap.lt_size q) hp))];exact n
 there:=fun b u q _=>⟨u,k b u q⟩
 tups:=fun b xs q=>by rw [upd_ne (ne_of_none q hn)];exact q
 frzs:=fun b u xs q=>by rw [upd_ne (ne_of_none q hn)];exact q
 tbls:=fun b ps q=>⟨#[],by rw [upd_ne (ne_of_none q hn),q];simp⟩
theorem Un.write (mu:Mut (H x)) (he:e=x\/H e=some (.own x)) (k:∀ b u,b≠e->h.get? b=some u->h'.get? b=some u) (heo:∃ u,h'.get? e=some u):Un fs ex H (upd H x o) h h':=by
 have hx:∀ b,H b=none->b≠x:=fun b n z=>by subst z;rw [n] at mu;exact mu
 have hb:∀ b,H b=none->b≠e:=fun b n z=>by
  subst z
  rcases he with r | r
  ·exact hx b n r
  ·rw [n] at r;cases r
 have hm:∀ b u,H b=some u->¬ Mut (some u)->b≠x:=fun b u q nm z=>by subst z;rw [q] at mu;exact nm mu
 refine ⟨fun b u q n _ _=>k b u (hb b n) q,fun b u q n _ _=>⟨u.slots,k b u (hb b n) q⟩,fun b u q n _=>by rw [upd_ne (hx b n)];exact n,fun b u q _=>?_,
  fun b xs q=>by rw [upd_ne (hm b _ q fun z=>z)];exact q,fun b u xs q=>by rw [upd_ne (hm b _ q fun z=>z)];exact q,fun b ps q=>⟨#[],by rw [upd_ne (hm b _ q fun z=>z),q];simp⟩⟩
 by_cases hbe:b=e
 ·subst hbe;exact heo
 ·exact ⟨u,k b u hbe q⟩
end
def trk (h:Heap) (H:Hp):List Addr:=(List.range h.objs.size).filter fun a=>(H a).isSome
def hidT (h:Heap) (H:Hp):Heap:=PySem.W.hideAll h (trk h H)
theorem hidT_size (h:Heap) (H:Hp):(hidT h H).objs.size=h.objs.size:=PySem.W.hideAll_size _ _
theorem hidT_get {h:Heap} {H:Hp} {b:Addr} {o:Obj} (e:h.get? b=some o) (n:H b=none):(hidT h H).get? b=some o :=
 PySem.W.hideAll_get _ e fun hm=>by
  have q:(H b).isSome=true:=(List.mem_filter.mp hm).2
  rw [n] at q;simp at q
theorem of_hidT {h:Heap} {H:Hp} {b:Addr} {o:Obj} (e:(hidT h H).get? b=some o):h.get? b=some o/\H b=none:=by
 have e':h.get? b=some o:=PySem.W.of_hideAll (trk h H) e
 refine ⟨e',?_⟩
 cases q:H b with
 | none=>rfl
 | some x =>
  have hm:b∈trk h H:=List.mem_filter.mpr ⟨List.mem_range.mpr (Heap.lt_size e'),by simp [q]⟩
  have z:(hidT h H).get? b=none:=PySem.W.hideAll_none (trk h H) hm
  rw [z] at e;cases e
def allNews (g h:Heap) (L:Addr):List (Addr × Obj):=(List.range h.objs.size).filterMap fun a=>if a=L\/(g.get? a).isSome=true then none else (h.get? a).map fun o=>(a,o)
def rest (g h:Heap) (L d:Addr):List (Addr × Obj):=(allNews g h L).filter fun p=>decide (p.1≠d)
structure Mod (K:PySem.W.Frag) (mg:Str->Option Value) (base:Heap):Prop where
 kin:K.In base
 glob:base.Ns mainGlobals mg
 blt:∃ mb,base.Ns builtinsNs mb/\∀ x:Str,x≠"__name__" -> mb x=bootBuiltins x
 nolimit:base.NoLimit
structure Cx where
 prog:Program
 w:World
 K:PySem.W.Frag
 mg:Str->Option Value
 base:Heap
 A:Around
 N:List Str
 s₀:Shared
 H₀:Hp
 env:Env
 outer:List Env
 stack:List Env
 ex:List Addr
 fn:Str->Bool
 calm:Bool
 pn:List (Addr × Obj)
 xe:Value->Shared->Prop
def frs (l:List Env):List Addr:=l.filterMap (·.frame)
abbrev Cx.fs (X:Cx):List Addr:=frs X.outer
def Vis (sc:Scope) (x:Str):Prop:=sc.names.lookup x=some .local\/sc.names.lookup x=some .cell\/sc.names.lookup x=some .free
def Loc (sc:Scope) (x:Str):Prop:=sc.names.lookup x=some .local\/sc.names.lookup x=some .cell
def Look (env:Env) (h:Heap) (m:Str->Option Value) (x:Str) (u:Value):Prop :=
 (env.kindOf x=some .local/\m x=some u)\/((env.kindOf x=some .cell\/env.kindOf x=some .free)/\∃ c,env.cells.lookup x=some c/\h.IsCell c (some u))
structure Cx.Ok (X:Cx):Prop where
 mod:Mod X.K X.mg X.base
 kind:X.env.scope.kind=.function
 glob:X.env.globals=mainGlobals
 blt:X.env.builtins=builtinsNs
 above:X.s₀.heap.objs.size<=X.env.locals
 inj:∀ x y c,X.env.cells.lookup x=some c->X.env.cells.lookup y=some c->x=y
 has:∀ x,(X.env.kindOf x=some .cell\/X.env.kindOf x=some .free)->∃ c,X.env.cells.lookup x=some c
 cab:∀ x c,X.fn x=true->X.env.cells.lookup x=some c->X.s₀.heap.objs.size<=c
 hd:X.calm=true->X.A.handled=none
 frames:X.A.frames=some X.stack
 stk:X.stack=X.outer\/(X.stack=X.env::X.outer/\X.env.frame=some X.env.locals)
 exf:∀ b∈X.ex,b≠X.env.locals/\∀ x c,X.env.cells.lookup x=some c->c≠b
 bs:∀ b o,X.base.get? b=some o->X.s₀.heap.get? b=some o/\X.H₀ b=none
 bsz:X.base.objs.size<=X.s₀.heap.objs.size
 noex:∀ b o,X.base.get? b=some o->b ∉ X.ex
 exfs:∀ b∈X.ex,b ∉ X.fs
 funs:X.s₀.heap.FunFrames X.base X.outer
 frf:∀ b∈X.fs,X.H₀ b=none
structure Inv (X:Cx) (pins:List (Addr × Obj)) (σ:List (Option V)) (H:Hp) (s:Shared):Prop where
 ok:X.Ok
 os:s.os=X.s₀.os
 bare:AllBare s.gens
 base:Un X.fs X.ex X.H₀ H X.s₀.heap s.heap
 loc:∃ m,s.heap.Ns X.env.locals m/\∀ (i:Nat) (x:Str) (v:V),X.N[i]?=some x->σ[i]?=some (some v)->Vis X.env.scope x->∃ u,RelV v u/\Look X.env s.heap m x u
 cell:∀ x c,X.env.cells.lookup x=some c->∃ v,s.heap.IsCell c v
 free:H X.env.locals=none
 freeC:∀ x c,X.env.cells.lookup x=some c->H c=none
 pin:∀ p∈X.pn++pins,s.heap.get? p.1=some p.2/\H p.1=none/\p.1≠X.env.locals/\p.1 ∉ X.fs/\∀ v,p.2.data≠.cell v
 hok:HOk X.prog X.w H s.heap
 len:σ.length=X.N.length
section
variable {X:Cx} {pins:List (Addr × Obj)} {σ:List (Option V)} {H H':Hp} {s:Shared} {h':Heap}
theorem Cx.Ok.nofr (ok:X.Ok) {b:Addr} {o:Obj} (e:X.base.get? b=some o):b ∉ X.fs:=fun hb=>by
 have:=(ok.funs.mem hb).1
 rw [e] at this;cases this
theorem Inv.bs (I:Inv X pins σ H s):∀ b o,X.base.get? b=some o->s.heap.get? b=some o/\H b=none:=fun b o e =>
 ⟨I.base.keep b o (I.ok.bs b o e).1 (I.ok.bs b o e).2 (I.ok.nofr e) (I.ok.noex b o e),I.base.free b o (I.ok.bs b o e).1 (I.ok.bs b o e).2 (I.ok.noex b o e)⟩
theorem Inv.bk (I:Inv X pins σ H s):∀ b o,X.base.get? b=some o->s.heap.get? b=some o:=fun b o e=>(I.bs b o e).1
theorem Inv.mod (I:Inv X pins σ H s):Mod X.K X.mg X.base:=I.ok.mod
theorem Inv.kIn (I:Inv X pins σ H s):X.K.In s.heap:=I.ok.mod.kin.keeps I.bk
theorem Inv.lt (I:Inv X pins σ H s):X.env.locals < s.heap.objs.size:=let ⟨_,hn,_⟩:=I.loc;hn.lt
theorem Inv.sz (I:Inv X pins σ H s):X.s₀.heap.objs.size<=s.heap.objs.size:=Nat.le_trans I.ok.above (Nat.le_of_lt I.lt)
theorem Inv.nofs (I:Inv X pins σ H s) {a:Addr} (h:s.heap.objs.size<=a):a ∉ X.fs:=fun hb=>by
 obtain ⟨_,o,ho,_⟩:=I.ok.funs.mem hb
 exact absurd (Nat.lt_of_lt_of_le (Heap.lt_size ho) (Nat.le_trans I.sz h)) (Nat.lt_irrefl _)
theorem Inv.cne (I:Inv X pins σ H s):∀ x c,X.env.cells.lookup x=some c->c≠X.env.locals:=fun x c e z=>by
 obtain ⟨v,o,ho,hd⟩:=I.cell x c e
 obtain ⟨m,⟨o',es,ep,ho',hd',_⟩,_⟩:=I.loc
 rw [z,ho'] at ho;cases ho;rw [hd'] at hd;cases hd
theorem Inv.funs (I:Inv X pins σ H s):s.heap.FunFrames X.base X.outer:=by
 have all:∀ (l:List Env),(∀ b∈frs l,b∈X.fs)->X.s₀.heap.FunFrames X.base l->s.heap.FunFrames X.base l:=by
  intro l
  induction l with
  | nil=>intro _ _;trivial
  | cons env r ih =>
   intro hs hl
   obtain ⟨hk,⟨L,o,hf,hn,ho,hd⟩,hr⟩:=hl
   have hL:L∈X.fs:=hs L (by unfold frs;rw [List.filterMap_cons,hf];exact List.mem_cons_self)
   obtain ⟨sl,e⟩:=I.base.slot L o ho (I.ok.frf L hL) hL fun z=>I.ok.exfs L z hL
   exact ⟨hk,⟨L,_,hf,hn,e,hd⟩,ih (fun b hb=>hs b (by unfold frs;rw [List.filterMap_cons,hf];exact List.mem_cons_of_mem _ hb)) hr⟩
 exact all X.outer (fun _ hb=>hb) I.ok.funs
theorem Inv.stack (I:Inv X pins σ H s):s.heap.FunFrames X.base X.stack:=by
 rcases I.ok.stk with e | ⟨e,hf⟩
 ·rw [e];exact I.funs
 ·rw [e]
  obtain ⟨m,hn,_⟩:=I.loc
  refine .cons (by rw [I.ok.kind];decide) hf hn ?_ I.funs
  exact Heap.get?_none_of_le (Nat.le_trans I.ok.bsz I.ok.above)
theorem Inv.stkSub (I:Inv X pins σ H s):∀ b∈frs X.stack,b∈X.env.locals::X.fs:=fun b hb=>by
 rcases I.ok.stk with e | ⟨e,hf⟩
 ·rw [e] at hb;exact List.mem_cons_of_mem _ hb
 ·rw [e] at hb
  unfold frs at hb
  rw [List.filterMap_cons,hf] at hb
  exact hb
theorem Inv.stkFree (I:Inv X pins σ H s):∀ b∈frs X.stack,H b=none:=fun b hb=>by
 rcases List.mem_cons.mp (I.stkSub b hb) with e | hb
 ·rw [e];exact I.free
 ·obtain ⟨_,o,ho,_⟩:=I.ok.funs.mem hb
  exact I.base.free b o ho (I.ok.frf b hb) fun z=>I.ok.exfs b z hb
theorem Inv.step {g':Array GenState} {t':Nat} {d':Drawn} {ch:List Addr} (I:Inv X pins σ H s)
  (hch:∀ b∈ch,(b∈X.ex\/X.s₀.heap.objs.size<=b)/\b≠X.env.locals/\(∀ x c,X.env.cells.lookup x=some c->c≠b)/\∀ p∈X.pn++pins,p.1≠b)
  (keep:∀ b o,b≠X.env.locals->b ∉ X.fs->b ∉ ch->s.heap.get? b=some o->H b=none->h'.get? b=some o)
  (slot:∀ b o,b≠X.env.locals->b∈X.fs->b ∉ ch->s.heap.get? b=some o->H b=none->∃ sl,h'.get? b=some { o with slots:=sl }) (free:∀ b o,b ∉ ch->s.heap.get? b=some o->H b=none->H' b=none)
  (there:∀ b o,b ∉ ch->s.heap.get? b=some o->∃ o',h'.get? b=some o')
  (tups:∀ b xs,H b=some (.tup xs)->H' b=some (.tup xs)) (frzs:∀ b o u,H b=some (.frz o u)->H' b=some (.frz o u)) (tbls:∀ b ps,H b=some (.tbl ps)->∃ more,H' b=some (.tbl (ps++more)))
  (ns:∀ m,s.heap.Ns X.env.locals m->h'.Ns X.env.locals m) (hok:HOk X.prog X.w H' h') (hg:AllBare g') :
  Inv X pins σ H' { s with heap:=h',gens:=g',drawn:=d',toks:=t' }:=by
 have neL:∀ b o,X.s₀.heap.get? b=some o->b≠X.env.locals:=fun b o e=>Nat.ne_of_lt (Nat.lt_of_lt_of_le (Heap.lt_size e) I.ok.above)
 have neC:∀ b o,X.s₀.heap.get? b=some o->b ∉ X.ex->b ∉ ch:=fun b o e hx hb=>by
  rcases (hch b hb).1 with z | z
  ·exact hx z
  ·exact absurd (Nat.lt_of_lt_of_le (Heap.lt_size e) z) (Nat.lt_irrefl _)
 have cellK:∀ x c,X.env.cells.lookup x=some c->∀ v,s.heap.IsCell c v->h'.IsCell c v:=fun x c e v ⟨o,ho,hd⟩=>by
  have nch:c ∉ ch:=fun z=>(hch c z).2.2.1 x c e rfl
  by_cases hc:c∈X.fs
  ·obtain ⟨sl,q⟩:=slot c o (I.cne x c e) hc nch ho (I.freeC x c e)
   exact ⟨_,q,hd⟩
  ·exact ⟨o,keep c o (I.cne x c e) hc nch ho (I.freeC x c e),hd⟩
 refine ⟨I.ok,I.os,hg,⟨fun b o e n hb hx=>?_,fun b o e n hb hx=>?_,fun b o e n hx=>?_,fun b o e hx=>?_,fun b xs e=>tups b xs (I.base.tups b xs e),fun b o xs e=>frzs b o xs (I.base.frzs b o xs e),fun b ps e=>?_⟩,?_,fun x c e=>?_,?_,fun x c e=>?_,fun p hp=>?_,hok,I.len⟩
 ·exact keep b o (neL b o e) hb (neC b o e hx) (I.base.keep b o e n hb hx) (I.base.free b o e n hx)
 ·obtain ⟨sl,e1⟩:=I.base.slot b o e n hb hx
  obtain ⟨sl',e2⟩:=slot b _ (neL b o e) hb (neC b o e hx) e1 (I.base.free b o e n hx)
  exact ⟨sl',e2⟩
 ·obtain ⟨o',e1⟩:=I.base.there b o e hx
  exact free b o' (neC b o e hx) e1 (I.base.free b o e n hx)
 ·obtain ⟨o',e1⟩:=I.base.there b o e hx
  exact there b o' (neC b o e hx) e1
 ·obtain ⟨m1,e1⟩:=I.base.tbls b ps e
  obtain ⟨m2,e2⟩:=tbls b _ e1
  exact ⟨m1++m2,by rw [e2,Array.append_assoc]⟩
 ·obtain ⟨m,hn,hl⟩:=I.loc
  refine ⟨m,ns m hn,fun i x v e1 e2 e3=>?_⟩
  obtain ⟨u,r,l⟩:=hl i x v e1 e2 e3
  refine ⟨u,r,?_⟩
  rcases l with l | ⟨k,c,e,z⟩
  ·exact .inl l
  ·exact .inr ⟨k,c,e,cellK x c e _ z⟩
 ·obtain ⟨v,z⟩:=I.cell x c e
  exact ⟨v,cellK x c e v z⟩
 ·obtain ⟨m,⟨o,_,_,ho,_⟩,_⟩:=I.loc
  exact free _ o (fun z=>(hch _ z).2.1 rfl) ho I.free
 ·obtain ⟨v,o,ho,hd⟩:=I.cell x c e
  exact free c o (fun z=>(hch c z).2.2.1 x c e rfl) ho (I.freeC x c e)
 ·obtain ⟨e,n,ne,nf,d⟩:=I.pin p hp
  have nch:p.1 ∉ ch:=fun z=>(hch p.1 z).2.2.2 p hp rfl
  exact ⟨keep p.1 p.2 ne nf nch e n,free p.1 p.2 nch e n,ne,nf,d⟩
theorem Inv.un {t':Nat} (I:Inv X pins σ H s) (u:Un X.fs [] H H' s.heap h') (hok:HOk X.prog X.w H' h'):Inv X pins σ H' { s with heap:=h',toks:=t' }:=by
 obtain ⟨m,⟨o,es,ep,ho,r⟩,_⟩:=id I.loc
 obtain ⟨sl,hL⟩:=u.any ho I.free (by simp)
 exact I.step (g':=s.gens) (d':=s.drawn) (ch:=[]) (fun _ z=>nomatch z) (fun b o _ hb _ e n=>u.keep b o e n hb (by simp)) (fun b o _ hb _ e n=>u.slot b o e n hb (by simp)) (fun b o _ e n=>u.free b o e n (by simp)) (fun b o _ e=>u.there b o e (by simp)) u.tups u.frzs u.tbls (fun m' hm=>by
  obtain ⟨o',es',ep',ho',r'⟩:=hm
  rw [ho] at ho';cases ho'
  exact ⟨_,es',ep',hL,r'⟩) hok I.bare
theorem Inv.call {g':Array GenState} {t':Nat} {d':Drawn} {ch:List Addr} (I:Inv X pins σ H s) (u:Un (frs X.stack) ch H H' s.heap h') (hok:HOk X.prog X.w H' h') (hg:AllBare g')
  (hch:∀ b∈ch,(b∈X.ex\/X.s₀.heap.objs.size<=b)/\b≠X.env.locals/\(∀ x c,X.env.cells.lookup x=some c->c≠b)/\∀ p∈X.pn++pins,p.1≠b) :
  Inv X pins σ H' { s with heap:=h',gens:=g',drawn:=d',toks:=t' }:=by
 obtain ⟨m,⟨o,es,ep,ho,r⟩,_⟩:=id I.loc
 obtain ⟨sl,hL⟩:=u.any ho I.free fun z=>(hch _ z).2.1 rfl
 exact I.step (ch:=ch) hch (fun b o hL hb hc e n=>u.keep b o e n (fun z=>(List.mem_cons.mp (I.stkSub b z)).elim hL hb) hc) (fun b o _ _ hc e n=>u.any e n hc) (fun b o hc e n=>u.free b o e n hc) (fun b o hc e=>u.there b o e hc) u.tups u.frzs u.tbls (fun m' hm=>by
  obtain ⟨o',es',ep',ho',r'⟩:=hm
  rw [ho] at ho';cases ho'
  exact ⟨_,es',ep',hL,r'⟩) hok hg
theorem Inv.turned {t':Nat} {it:Addr} (I:Inv X pins σ H s) (k:∀ b o,b≠it->s.heap.get? b=some o->h'.get? b=some o) (hn:H it=none) (hL:it≠X.env.locals)
  (h1:it∈X.ex\/X.s₀.heap.objs.size<=it) (h2:∀ x c,X.env.cells.lookup x=some c->c≠it) (h3:∀ p∈X.pn++pins,p.1≠it):Inv X pins σ H { s with heap:=h',toks:=t' }:=by
 have nit:∀ b u,H b=some u->b≠it:=fun b u e z=>by rw [z,hn] at e;cases e
 refine I.step (g':=s.gens) (d':=s.drawn) (ch:=[it]) (fun b hb=>?_) (fun b o _ _ hc e _=>k b o (fun z=>hc (by simp [z])) e) (fun b o _ _ hc e _=>⟨o.slots,k b o (fun z=>hc (by simp [z])) e⟩) (fun _ _ _ _ n=>n)
  (fun b o hc e=>⟨o,k b o (fun z=>hc (by simp [z])) e⟩) (fun _ _ e=>e) (fun _ _ _ e=>e) (fun b ps e=>⟨#[],by rw [e];simp⟩) (fun m hm=>?_) (fun b u e=>?_) I.bare
 ·have e:b=it:=by simpa using hb
  subst e
  exact ⟨h1,hL,h2,h3⟩
 ·obtain ⟨o,es,ep,ho,r⟩:=hm
  exact ⟨o,es,ep,k _ o (Ne.symm hL) ho,r⟩
 ·refine (I.hok b u e).stay (fun c v hc q=>k c v ?_ q) (fun _ q=>q) fun _ _ q=>q
  rcases hc with z | z
  ·rw [z];exact nit b u e
  ·exact nit c _ z
theorem Inv.tok (I:Inv X pins σ H s) (t:Nat):Inv X pins σ H { s with toks:=t }:=I.un (h':=s.heap) (t':=t) Un.refl I.hok
theorem Inv.kept {t':Nat} (I:Inv X pins σ H s) (k:∀ b u,s.heap.get? b=some u->h'.get? b=some u):Inv X pins σ H { s with heap:=h',toks:=t' }:=I.un (Un.kept k) (I.hok.kept k)
theorem Inv.laid {a:Addr} {o:HO} {t':Nat} (I:Inv X pins σ H s) (k:∀ b u,s.heap.get? b=some u->h'.get? b=some u) (hp:s.heap.objs.size<=a) (new:ObjOk X.prog X.w (upd H a o) h' a o) :
  Inv X pins σ (upd H a o) { s with heap:=h',toks:=t' }:=I.un (Un.laid k hp (I.hok.fresh hp)) (I.hok.laid k hp new)
theorem Inv.write {x e:Addr} {o:HO} {t':Nat} (I:Inv X pins σ H s) (mu:Mut (H x)) (he:e=x\/H e=some (.own x)) (k:∀ b u,b≠e->s.heap.get? b=some u->h'.get? b=some u) (heo:∃ u,h'.get? e=some u)
  (new:ObjOk X.prog X.w (upd H x o) h' x o):Inv X pins σ (upd H x o) { s with heap:=h',toks:=t' }:=I.un (Un.write mu he k heo) (I.hok.write mu he k heo new)
theorem Inv.weak {σ':List (Option V)} (I:Inv X pins σ H s) (hl:σ'.length=σ.length) (w:∀ (i:Nat) v,σ'[i]?=some (some v)->σ[i]?=some (some v)):Inv X pins σ' H s :=
 ⟨I.ok,I.os,I.bare,I.base,let ⟨m,hn,hl'⟩:=I.loc;⟨m,hn,fun i x v e1 e2 e3=>hl' i x v e1 (w i v e2) e3⟩,I.cell,I.free,I.freeC,I.pin,I.hok,hl.trans I.len⟩
theorem Inv.pins_of {pins':List (Addr × Obj)} (I:Inv X pins σ H s) (h:∀ p∈pins',s.heap.get? p.1=some p.2/\H p.1=none/\p.1≠X.env.locals/\p.1 ∉ X.fs/\∀ v,p.2.data≠.cell v):Inv X pins' σ H s :=
 ⟨I.ok,I.os,I.bare,I.base,I.loc,I.cell,I.free,I.freeC,fun p hp=>(List.mem_append.mp hp).elim (fun z=>I.pin p (List.mem_append_left _ z)) (h p),I.hok,I.len⟩
theorem nodup_ix {N:List Str} (hN:N.Nodup) {i j:Nat} {x:Str} (a:N[i]?=some x) (b:N[j]?=some x):i=j:=by
 obtain ⟨h1,e1⟩:=List.getElem?_eq_some_iff.mp a
 obtain ⟨h2,e2⟩:=List.getElem?_eq_some_iff.mp b
 exact (List.getElem_inj hN).mp (e1.trans e2.symm)
theorem store_ok2 {M:Model} {A:Around} {E:Value->Shared->Prop} {i:Nat} {x:Str} {v:V} {u:Value} {Q:Unit->Shared->Prop} (I:Inv X pins σ H s) (hN:X.N.Nodup) (hi:X.N[i]?=some x) (hx:Loc X.env.scope x) (r:RelV v u)
  (h:∀ s',Inv X pins (σ.set i (some v)) H s'->(∃ a,Heap.SameBut a s.heap s'.heap/\(a=X.env.locals\/X.env.cells.lookup x=some a))->Q () s') (hf:X.fn x=true\/X.env.scope.names.lookup x=some .local:=by first | exact .inl rfl | exact .inr rfl | assumption):wpAny M A (storeName X.env x u) Q E s:=by
 obtain ⟨m,hn,hl⟩:=id I.loc
 have hcls:(X.env.scope.kind == .class || (X.env.scope.kind == .module && X.env.locals != X.env.globals))=false:=by rw [I.ok.kind];rfl
 have hiσ:i < σ.length:=by rw [I.len];exact (List.getElem?_eq_some_iff.mp hi).1
 have cne:=I.cne
 have tracked:∀ {a:Addr} {h':Heap},(∃ o,s.heap.get? a=some o/\H a=none)->Heap.SameBut a s.heap h'->HOk X.prog X.w H h':=fun {a h'} ha hs b ob e=>by
  obtain ⟨_,_,hfree⟩:=ha
  refine (I.hok b ob e).stay (fun c w' hc q=>(hs.2 c ?_).trans q) (fun _ q=>q) fun _ _ q=>q
  rintro rfl
  rcases hc with rfl | hc
  ·rw [hfree] at e;cases e
  ·rw [hfree] at hc;cases hc
 rcases hx with hk | hk
 ·refine wpAny_storeName_local hk hn (fun h' hn' hs=>?_) hcls
  obtain ⟨oL,_,_,hoL,_⟩:=id hn
  refine h _ ⟨I.ok,I.os,I.bare,⟨fun b o e n hb hx=>?_,fun b o e n hb hx=>?_,I.base.free,fun b o e hx=>?_,I.base.tups,I.base.frzs,I.base.tbls⟩,⟨_,hn',fun j y v' e1 e2 e3=>?_⟩,fun y c e=>?_,I.free,I.freeC,fun p hp=>?_,tracked ⟨oL,hoL,I.free⟩ hs,by simpa using I.len⟩ ⟨_,hs,.inl rfl⟩
  ·exact (hs.2 b (Nat.ne_of_lt (Nat.lt_of_lt_of_le (Heap.lt_size e) I.ok.above))).trans (I.base.keep b o e n hb hx)
  ·obtain ⟨sl,e1⟩:=I.base.slot b o e n hb hx
   exact ⟨sl,(hs.2 b (Nat.ne_of_lt (Nat.lt_of_lt_of_le (Heap.lt_size e) I.ok.above))).trans e1⟩
  ·obtain ⟨o',e1⟩:=I.base.there b o e hx
   exact ⟨o',(hs.2 b (Nat.ne_of_lt (Nat.lt_of_lt_of_le (Heap.lt_size e) I.ok.above))).trans e1⟩
  ·by_cases hj:j=i
   ·subst hj
    rw [hi] at e1;cases e1
    rw [List.getElem?_set_self hiσ] at e2
    cases e2
    exact ⟨u,r,.inl ⟨hk,by simp⟩⟩
   ·rw [List.getElem?_set_ne (Ne.symm hj)] at e2
    obtain ⟨u',r',q⟩:=hl j y v' e1 e2 e3
    refine ⟨u',r',?_⟩
    rcases q with ⟨k,e⟩ | ⟨k,c,e,z⟩
    ·refine .inl ⟨k,?_⟩
     have:y≠x:=fun e=>hj (nodup_ix hN e1 (e ▸ hi))
     simp [this,e]
    ·exact .inr ⟨k,c,e,z.sameBut hs (cne y c e)⟩
  ·obtain ⟨w',z⟩:=I.cell y c e
   exact ⟨w',z.sameBut hs (cne y c e)⟩
  ·obtain ⟨e,n,ne,nf,d⟩:=I.pin p hp
   exact ⟨(hs.2 p.1 ne).trans e,n,ne,nf,d⟩
 ·have hfn:X.fn x=true:=by
   rcases hf with z | z
   ·exact z
   ·rw [z] at hk;cases hk
  obtain ⟨c,hc⟩:=I.ok.has x (.inl hk)
  obtain ⟨w',z⟩:=I.cell x c hc
  refine wpAny_storeName_cell I.ok.kind hk hc z (fun h' hc' hs=>?_)
  obtain ⟨oc,hoc,hocd⟩:=id z
  refine h { s with heap:=h' } ⟨I.ok,I.os,I.bare,⟨fun b o e n hb hx=>?_,fun b o e n hb hx=>?_,I.base.free,fun b o e hx=>?_,I.base.tups,I.base.frzs,I.base.tbls⟩,⟨m,hn.sameBut hs (Ne.symm (cne x c hc)),fun j y v' e1 e2 e3=>?_⟩,fun y c' e=>?_,I.free,I.freeC,fun p hp=>?_,tracked ⟨oc,hoc,I.freeC x c hc⟩ hs,by simpa using I.len⟩ ⟨c,hs,.inr hc⟩
  ·exact (hs.2 b (Nat.ne_of_lt (Nat.lt_of_lt_of_le (Heap.lt_size e) (I.ok.cab x c hfn hc)))).trans (I.base.keep b o e n hb hx)
  ·obtain ⟨sl,e1⟩:=I.base.slot b o e n hb hx
   exact ⟨sl,(hs.2 b (Nat.ne_of_lt (Nat.lt_of_lt_of_le (Heap.lt_size e) (I.ok.cab x c hfn hc)))).trans e1⟩
  ·obtain ⟨o',e1⟩:=I.base.there b o e hx
   exact ⟨o',(hs.2 b (Nat.ne_of_lt (Nat.lt_of_lt_of_le (Heap.lt_size e) (I.ok.cab x c hfn hc)))).trans e1⟩
  ·by_cases hj:j=i
   ·subst hj
    rw [hi] at e1;cases e1
    rw [List.getElem?_set_self hiσ] at e2
    cases e2
    exact ⟨u,r,.inr ⟨.inl hk,c,hc,hc'⟩⟩
   ·rw [List.getElem?_set_ne (Ne.symm hj)] at e2
    obtain ⟨u',r',q⟩:=hl j y v' e1 e2 e3
    refine ⟨u',r',?_⟩
    rcases q with q | ⟨k,c',e,z'⟩
    ·exact .inl q
    ·refine .inr ⟨k,c',e,z'.sameBut hs ?_⟩
     rintro rfl
     exact hj (nodup_ix hN e1 (I.ok.inj _ _ _ e hc ▸ hi))
  ·by_cases hcc:c'=c
   ·subst hcc;exact ⟨_,hc'⟩
   ·obtain ⟨w2,z2⟩:=I.cell y c' e
    exact ⟨w2,z2.sameBut hs hcc⟩
  ·obtain ⟨e,n,ne,nf,d⟩:=I.pin p hp
   refine ⟨(hs.2 p.1 ?_).trans e,n,ne,nf,d⟩
   intro q
   rw [q,hoc] at e
   have q':oc=p.2:=Option.some.inj e
   exact d w' (by rw [<- q'];exact hocd)
theorem store_ok {M:Model} {A:Around} {E:Value->Shared->Prop} {i:Nat} {x:Str} {v:V} {u:Value} {Q:Unit->Shared->Prop} (I:Inv X pins σ H s) (hN:X.N.Nodup) (hi:X.N[i]?=some x) (hx:Loc X.env.scope x) (r:RelV v u)
  (h:∀ s',Inv X pins (σ.set i (some v)) H s'->Q () s') (hf:X.fn x=true\/X.env.scope.names.lookup x=some .local:=by first | exact .inl rfl | exact .inr rfl | assumption):wpAny M A (storeName X.env x u) Q E s :=
 store_ok2 I hN hi hx r (fun s' I' _=>h s' I') hf
theorem Inv.call' {s':Shared} {ch:List Addr} (I:Inv X pins σ H s) (ho:s'.os=s.os) (u:Un (frs X.stack) ch H H' s.heap s'.heap) (hok:HOk X.prog X.w H' s'.heap) (hg:AllBare s'.gens)
  (hch:∀ b∈ch,(b∈X.ex\/X.s₀.heap.objs.size<=b)/\b≠X.env.locals/\(∀ x c,X.env.cells.lookup x=some c->c≠b)/\∀ p∈X.pn++pins,p.1≠b):Inv X pins σ H' s':=by
 obtain ⟨h',g',d',t',o'⟩:=s'
 have e:o'=s.os:=ho
 subst e
 exact I.call (g':=g') (t':=t') (d':=d') u hok hg hch
end
abbrev XK:=Value->Option Addr->Hp->Prop
abbrev St:=List (Option V)
abbrev VK:=V->Hp->Prop
abbrev TE:=St->Hp->VK->Prop
abbrev TT:=St->Hp->(Bool->Hp->Prop)->Prop
abbrev TA:=St->Hp->(List V->Hp->Prop)->Prop
structure Ends where
 nx:St->Hp->Prop
 rt:VK
 bk:St->Hp->Prop:=fun _ _=>False
 ct:St->Hp->Prop:=fun _ _=>False
abbrev TS:=Ends->St->Hp->Prop
def EP (X:Cx) (pins:List (Addr × Obj)) (σ:St) (Q:VK) (u:Value) (s':Shared):Prop:=∃ v H',Inv X pins σ H' s'/\RelV v u/\Q v H'
def TP (X:Cx) (pins:List (Addr × Obj)) (σ:St) (Q:Bool->Hp->Prop) (b:Bool) (s':Shared):Prop:=∃ H',Inv X pins σ H' s'/\Q b H'
def AP (X:Cx) (pins:List (Addr × Obj)) (σ:St) (Q:List V->Hp->Prop) (us:List Value) (s':Shared):Prop:=∃ vs H',Inv X pins σ H' s'/\Vals vs us/\Q vs H'
def SP (X:Cx) (pins:List (Addr × Obj)) (D:Ends) (f:Flow) (s':Shared):Prop :=
 match f with
 | .next=>∃ σ' H',Inv X pins σ' H' s'/\D.nx σ' H'
 | .brk=>∃ σ' H',Inv X pins σ' H' s'/\D.bk σ' H'
 | .cont=>∃ σ' H',Inv X pins σ' H' s'/\D.ct σ' H'
 | .ret u=>∃ v σ' H',Inv X pins σ' H' s'/\RelV v u/\D.rt v H'
def PE (X:Cx) (e:Expr) (t:TE):Prop :=
 ∀ (pins:List (Addr × Obj)) (s:Shared) (σ:St) (H:Hp) (Q:VK),Inv X pins σ H s->t σ H Q->wpAny (model X.prog X.w) X.A (eval e X.env) (EP X pins σ Q) X.xe s
def PT (X:Cx) (e:Expr) (t:TT):Prop :=
 ∀ (pins:List (Addr × Obj)) (s:Shared) (σ:St) (H:Hp) (Q:Bool->Hp->Prop),Inv X pins σ H s->t σ H Q->wpAny (model X.prog X.w) X.A (isTrue e X.env (eval e X.env)) (TP X pins σ Q) X.xe s
def PW (X:Cx) (e:Expr) (t:TT):Prop :=
 ∀ (whole:Sem Value) (pins:List (Addr × Obj)) (s:Shared) (σ:St) (H:Hp) (Q:Bool->Hp->Prop),Inv X pins σ H s->t σ H Q->wpAny (model X.prog X.w) X.A (isTrue e X.env whole) (TP X pins σ Q) X.xe s
theorem PW.pt {X:Cx} {e:Expr} {t:TT} (h:PW X e t):PT X e t:=h _
def PA (X:Cx) (es:List Expr) (t:TA):Prop :=
 ∀ (pos:Pos) (pins:List (Addr × Obj)) (s:Shared) (σ:St) (H:Hp) (Q:List V->Hp->Prop),Inv X pins σ H s->t σ H Q->wpAny (model X.prog X.w) X.A (spliced (backTo pos (starEach es X.env))) (AP X pins σ Q) X.xe s
def PS (X:Cx) (st:Stmt) (t:TS):Prop :=
 ∀ (pins:List (Addr × Obj)) (s:Shared) (σ:St) (H:Hp) (D:Ends),Inv X pins σ H s->t D σ H->wpAny (model X.prog X.w) X.A (exec st X.env) (SP X pins D) X.xe s
def PSs (X:Cx) (st:List Stmt) (t:TS):Prop :=
 ∀ (pins:List (Addr × Obj)) (s:Shared) (σ:St) (H:Hp) (D:Ends),Inv X pins σ H s->t D σ H->wpAny (model X.prog X.w) X.A (execs st X.env) (SP X pins D) X.xe s
theorem thn {α:Type} {t:Sem α} {Q Q':α->Shared->Prop} {M:Model} {A:Around} {E:Value->Shared->Prop} {s:Shared} (h:wpAny M A t Q E s) (hQ:∀ a s,Q a s->Q' a s):wpAny M A t Q' E s:=wpAny_mono h hQ fun _ _ x=>x
section
variable {X:Cx}
def tVar (i:Nat):TE:=fun σ H Q=>∃ v,σ[i]?=some (some v)/\Q v H
def tC (v:V):TE:=fun _ H Q=>Q v H
theorem pe_var {i:Nat} {x:Str} {pos:Pos} (hN:X.N[i]?=some x) (hv:Vis X.env.scope x) (hd:(x == ("__debug__" : Str))=false:=by decide) (hcd:(x == ("__classdict__" : Str))=false:=by decide):PE X (.Name x pos) (tVar i):=by
 intro pins s σ H Q I h
 obtain ⟨v,e,h⟩:=h
 obtain ⟨m,hn,hl⟩:=I.loc
 obtain ⟨u,r,l⟩:=hl i x v hN e hv
 have fin:EP X pins σ Q u s:=⟨v,H,I,r,h⟩
 rcases l with ⟨hk,hm⟩ | ⟨hk,c,hc,hcell⟩
 ·exact wpAny_Name (wpAny_loadName_local I.ok.kind hk hn hm fin) hd
 ·rcases hk with hk | hk
  ·exact wpAny_Name (wpAny_loadName_cell I.ok.kind hk hc hcell fin) hd
  ·exact wpAny_Name (wpAny_loadName_free I.ok.kind hk hc hcell fin hcd) hd
theorem pe_int {i j pos}:PE X (.Constant (.int i) j pos) (tC (.int i)):=fun _ _ _ H _ I h=>wpAny_Constant_int ⟨.int i,H,I.tok _,⟨_,rfl⟩,h⟩
theorem pe_bl {b j pos}:PE X (.Constant (.bool b) j pos) (tC (.bl b)):=fun _ _ _ H _ I h=>Constant_bool ⟨.bl b,H,I,rfl,h⟩
theorem pe_non {j pos}:PE X (.Constant .none j pos) (tC .non):=fun _ _ _ H _ I h=>Constant_none ⟨.non,H,I,rfl,h⟩
theorem pe_str {x j pos}:PE X (.Constant (.str x) j pos) (tC (.str x)):=fun _ _ _ H _ I h=>Calls.Constant_str ⟨.str x,H,I.tok _,⟨_,rfl⟩,h⟩
def Gl (X:Cx) (x:Str):Prop:=X.env.kindOf x=some .globalImplicit
theorem ld_glob {E:Value->Shared->Prop} {pins:List (Addr × Obj)} {s:Shared} {σ:St} {H:Hp} {x:Str} {u:Value} {pos:Pos} {Q:Value->Shared->Prop} (I:Inv X pins σ H s) (hg:Gl X x) (hm:X.mg x=some u) (h:Q u s)
  (hd:(x == ("__debug__" : Str))=false:=by decide):wpAny (model X.prog X.w) X.A (eval (.Name x pos) X.env) Q E s :=
 Calls.Name_function_global I.ok.kind hg (Calls.loadGlobal_global (by rw [I.ok.glob];exact I.mod.glob.keeps I.bk) hm h) hd
theorem ld_blt {E:Value->Shared->Prop} {pins:List (Addr × Obj)} {s:Shared} {σ:St} {H:Hp} {x:Str} {u:Value} {pos:Pos} {Q:Value->Shared->Prop} (I:Inv X pins σ H s) (hg:Gl X x) (hm:X.mg x=none) (hv:bootBuiltins x=some u) (h:Q u s)
  (hn:x≠"__name__" := by decide) (hd:(x == ("__debug__" : Str))=false:=by decide):wpAny (model X.prog X.w) X.A (eval (.Name x pos) X.env) Q E s:=by
 obtain ⟨mb,h1,h2⟩:=I.mod.blt
 exact Calls.Name_function_global I.ok.kind hg (Calls.loadGlobal_builtin (by rw [I.ok.glob];exact I.mod.glob.keeps I.bk) hm (by rw [I.ok.blt];exact h1.keeps I.bk) ((h2 x hn).trans hv) h) hd
theorem pe_glob {x:Str} {v:V} {u:Value} {pos:Pos} (hg:Gl X x) (hm:X.mg x=some u) (r:RelV v u) (hd:(x == ("__debug__" : Str))=false:=by decide):PE X (.Name x pos) (tC v) :=
 fun _ _ _ H _ I h=>ld_glob I hg hm ⟨v,H,I,r,h⟩ hd
theorem pe_bltn {x:Str} {v:V} {u:Value} {pos:Pos} (hg:Gl X x) (hm:X.mg x=none) (hv:bootBuiltins x=some u) (r:RelV v u) (hn:x≠"__name__" := by decide) (hd:(x == ("__debug__" : Str))=false:=by decide):PE X (.Name x pos) (tC v) :=
 fun _ _ _ H _ I h=>ld_blt I hg hm hv ⟨v,H,I,r,h⟩ hn hd
variable {a b:Expr} {ta tb:TE} {pos:Pos}
def PC (X:Cx) (op:CmpOp) (a b:Expr) (t:TE):Prop :=
 ∀ (pins:List (Addr × Obj)) (s:Shared) (σ:St) (H:Hp) (Q:VK),Inv X pins σ H s->t σ H Q ->
  wpAny (model X.prog X.w) X.A (eval a X.env) (fun v s₁=>wpAny (model X.prog X.w) X.A (eval b X.env) (fun u s₂=>wpAny (model X.prog X.w) X.A (compareOp op v u) (EP X pins σ Q) X.xe s₂) X.xe s₁) X.xe s
theorem nobehind (b:Expr) {op:CmpOp} (h:op≠.In) (h2:op≠.NotIn):behindInMarks op b=false:=by
 have e1:(op == CmpOp.In)=false:=by cases op<;>first | rfl | exact absurd rfl h
 have e2:(op == CmpOp.NotIn)=false:=by cases op<;>first | rfl | exact absurd rfl h2
 cases b<;>simp [behindInMarks,e1,e2]
def tB (t:TE):TT:=fun σ H Q=>t σ H fun x H1=>∃ c,x=.bl c/\Q c H1
theorem pt_cmp {op:CmpOp} {t:TE} (h:PC X op a b t) (h1:behindInMarks op b=false:=by first | exact nobehind _ (by decide) (by decide) | rfl):PT X (.Compare a [op] [b] pos) (tB t):=by
 intro pins s σ H Q I hw
 refine wpAny_isTrue_Compare1 (thn (h pins s σ H _ I hw) fun v s1 h1=>thn h1 fun u s2 h2=>thn h2 fun c s3 ⟨x,H1,I1,r1,q1⟩=>?_) h1
 obtain ⟨d,rfl,q⟩:=q1
 cases r1
 exact wpAny_truthy_bool ⟨H1,I1,q⟩
theorem pt_val {e:Expr} {t:TE} (h:PE X e t) (he:∀ whole,isTrue e X.env whole=(do let v <- whole;standAt e.pos;holding [v] (truthy v)):=by intro _;rfl):PT X e (tB t):=by
 intro pins s σ H Q I hw
 refine isTrue_plain (thn (h pins s σ H _ I hw) fun v s1 ⟨x,H1,I1,r1,q1⟩=>?_) (he _)
 obtain ⟨d,rfl,q⟩:=q1
 cases r1
 exact wpAny_truthy_bool ⟨H1,I1,q⟩
variable {tA tB':TT} {rest:List Expr}
def tAnd (t u:TT):TT:=fun σ H Q=>t σ H fun c H1=>if c=true then u σ H1 Q else Q false H1
def tOr (t u:TT):TT:=fun σ H Q=>t σ H fun c H1=>if c=true then Q true H1 else u σ H1 Q
def tNot (t:TT):TT:=fun σ H Q=>t σ H fun c H1=>Q (!c) H1
theorem pw_and1 (ha:PT X a tA):PW X (.BoolOp .And [a] pos) tA:=by
 intro wh pins s σ H Q I h
 refine isTrue_and (thn (ha pins s σ H Q I h) fun c s1 e=>?_)
 cases c with
 | true=>exact isTrue_and_nil e
 | false=>exact e
theorem pw_or1 (ha:PT X a tA):PW X (.BoolOp .Or [a] pos) tA:=by
 intro wh pins s σ H Q I h
 refine isTrue_or (thn (ha pins s σ H Q I h) fun c s1 e=>?_)
 cases c with
 | false=>exact isTrue_or_nil e
 | true=>exact e
theorem pw_and (ha:PT X a tA) (hb:PW X (.BoolOp .And (b::rest) pos) tB'):PW X (.BoolOp .And (a::b::rest) pos) (tAnd tA tB'):=by
 intro wh pins s σ H Q I h
 refine isTrue_and (thn (ha pins s σ H _ I h) fun c s1 ⟨H1,I1,q1⟩=>?_)
 cases c with
 | true=>exact hb wh pins s1 σ H1 Q I1 q1
 | false=>exact ⟨H1,I1,q1⟩
theorem pw_or (ha:PT X a tA) (hb:PW X (.BoolOp .Or (b::rest) pos) tB'):PW X (.BoolOp .Or (a::b::rest) pos) (tOr tA tB'):=by
 intro wh pins s σ H Q I h
 refine isTrue_or (thn (ha pins s σ H _ I h) fun c s1 ⟨H1,I1,q1⟩=>?_)
 cases c with
 | true=>exact ⟨H1,I1,q1⟩
 | false=>exact hb wh pins s1 σ H1 Q I1 q1
theorem pt_not (ha:PT X a tA):PT X (.UnaryOp .Not a pos) (tNot tA):=by
 intro pins s σ H Q I h
 exact isTrue_not (ha pins s σ H (fun c H1=>Q (!c) H1) I h)
def tAndV (ta tb:TE):TE:=fun σ H Q=>ta σ H fun x H1=>∃ c,x=.bl c/\if c=true then tb σ H1 Q else Q (.bl false) H1
def tOrV (ta tb:TE):TE:=fun σ H Q=>ta σ H fun x H1=>∃ c,x=.bl c/\if c=true then Q (.bl true) H1 else tb σ H1 Q
def tNotV (ta:TE):TE:=fun σ H Q=>ta σ H fun x H1=>∃ c,x=.bl c/\Q (.bl (!c)) H1
theorem pe_one {op} {t:TE} (h:PE X a t):PE X (.BoolOp op [a] pos) t:=fun pins s σ H Q I hw=>BoolOp_one (h pins s σ H Q I hw)
theorem pe_and (ha:PE X a ta) (hb:PE X (.BoolOp .And (b::rest) pos) tb):PE X (.BoolOp .And (a::b::rest) pos) (tAndV ta tb):=by
 intro pins s σ H Q I h
 refine BoolOp_and (thn (ha pins s σ H _ I h) fun v s1 ⟨x,H1,I1,r1,q1⟩=>?_)
 obtain ⟨c,rfl,q1⟩:=q1
 cases r1
 refine wpAny_truthy_bool ?_
 cases c with
 | true=>exact hb pins s1 σ H1 Q I1 q1
 | false=>exact ⟨.bl false,H1,I1,rfl,q1⟩
theorem pe_or (ha:PE X a ta) (hb:PE X (.BoolOp .Or (b::rest) pos) tb):PE X (.BoolOp .Or (a::b::rest) pos) (tOrV ta tb):=by
 intro pins s σ H Q I h
 refine BoolOp_or (thn (ha pins s σ H _ I h) fun v s1 ⟨x,H1,I1,r1,q1⟩=>?_)
 obtain ⟨c,rfl,q1⟩:=q1
 cases r1
 refine wpAny_truthy_bool ?_
 cases c with
 | false=>exact hb pins s1 σ H1 Q I1 q1
 | true=>exact ⟨.bl true,H1,I1,rfl,q1⟩
theorem pe_not (ha:PE X a ta):PE X (.UnaryOp .Not a pos) (tNotV ta):=by
 intro pins s σ H Q I h
 refine UnaryOp_ (thn (ha pins s σ H _ I h) fun v s1 ⟨x,H1,I1,r1,q1⟩=>?_)
 obtain ⟨c,rfl,q1⟩:=q1
 cases r1
 exact not_of (wpAny_truthy_bool ⟨.bl (!c),H1,I1,rfl,q1⟩)
def tIf (t:TT) (ta tb:TE):TE:=fun σ H Q=>t σ H fun c H1=>if c=true then ta σ H1 Q else tb σ H1 Q
theorem pe_ifExp {c:Expr} (hc:PT X c tA) (ha:PE X a ta) (hb:PE X b tb):PE X (.IfExp c a b pos) (tIf tA ta tb):=by
 intro pins s σ H Q I h
 refine wpAny_IfExp (thn (hc pins s σ H _ I h) fun d s1 ⟨H1,I1,q1⟩=>?_)
 cases d with
 | true=>exact ha pins s1 σ H1 Q I1 q1
 | false=>exact hb pins s1 σ H1 Q I1 q1
end
def SqL (K:PySem.W.Frag) (H:Hp) (a:Addr) (xs:List V):Prop :=
 Rd H a (.lst xs) \/
  ∃ (o:Obj) (its:Array Value) (n:Nat),K.lookup a=some o/\o.cls=.type "list" /\ o.dict=none/\o.data=.seq its n/\its.size<=sizeLine/\Vals xs its.toList
def SqT (K:PySem.W.Frag) (H:Hp) (a:Addr) (xs:List V):Prop :=
 Rd H a (.tup xs) \/
  ∃ (o:Obj) (its:Array Value) (n:Nat),K.lookup a=some o/\o.cls=.type "tuple" /\ o.data=.seq its n/\its.size<=sizeLine/\Vals xs its.toList
def absV:Value->Option V
 | .none=>some .non
 | .bool b=>some (.bl b)
 | .int i _=>some (.int i)
 | .str x _=>some (.str x)
 | .bytes b _=>some (.byt b)
 | .float b _=>some (.flt b)
 | .ref a=>some (.ref a)
 | .type n=>some (.ty n)
 | _=>none
theorem RelV.abs {x:V} {u:Value} (r:RelV x u):absV u=some x:=by
 cases x with
 | non=>cases r;rfl
 | bl _=>cases r;rfl
 | int _=>obtain ⟨t,rfl⟩:=r;rfl
 | str _=>obtain ⟨t,rfl⟩:=r;rfl
 | byt _=>obtain ⟨t,rfl⟩:=r;rfl
 | flt _=>obtain ⟨t,rfl⟩:=r;rfl
 | ref _=>cases r;rfl
 | ty _=>cases r;rfl
theorem RelV.inj {x y:V} {u:Value} (r:RelV x u) (q:RelV y u):x=y:=Option.some.inj (r.abs.symm.trans q.abs)
theorem Vals.inj:∀ {xs ys:List V} {us:List Value},Vals xs us->Vals ys us->xs=ys
 | _,_,_,.nil,.nil=>rfl
 | _,_,_,.cons r t,.cons r' t'=>by rw [r.inj r',Vals.inj t t']
section
variable {X:Cx} {pins:List (Addr × Obj)} {σ:St} {H:Hp} {s:Shared} {a:Addr} {xs ys:List V}
theorem SqL.of {K:PySem.W.Frag} (h:H a=some (.lst xs)):SqL K H a xs:=.inl (.inl h)
theorem SqT.of {K:PySem.W.Frag} (h:H a=some (.tup xs)):SqT K H a xs:=.inl (.inl h)
theorem Inv.list (I:Inv X pins σ H s) (h:SqL X.K H a xs):∃ its:List Value,Vals xs its/\PlainL s.heap a its.toArray/\xs.length<=sizeLine:=by
 rcases h with h | ⟨o,its,n,hk,hc,hd,hs,hz,r⟩
 ·obtain ⟨z,its,n,r,e⟩:=h.ok I.hok
  exact ⟨its,r,⟨_,n,e,rfl,rfl,rfl⟩,z⟩
 ·refine ⟨its.toList,r,⟨o,n,I.kIn a o hk,hc,hd,by simpa using hs⟩,?_⟩
  have e:=r.length
  simp only [Array.length_toList] at e
  omega
theorem Inv.tuple (I:Inv X pins σ H s) (h:SqT X.K H a xs):∃ its:List Value,Vals xs its/\IsTup s.heap a its.toArray/\xs.length<=sizeLine:=by
 rcases h with h | ⟨o,its,n,hk,hc,hs,hz,r⟩
 ·obtain ⟨z,its,r,p⟩:=h.ok I.hok
  exact ⟨its,r,p,z⟩
 ·refine ⟨its.toList,r,⟨o,I.kIn a o hk,hc,n,by simpa using hs⟩,?_⟩
  have e:=r.length
  simp only [Array.length_toList] at e
  omega
theorem Inv.list_inj (I:Inv X pins σ H s) (h:SqL X.K H a xs) (h':SqL X.K H a ys):xs=ys:=by
 obtain ⟨its,r,⟨o,n,e,_,_,d⟩,_⟩:=I.list h
 obtain ⟨its',r',⟨o',n',e',_,_,d'⟩,_⟩:=I.list h'
 rw [e] at e';cases e'
 rw [d] at d'
 injection d' with d1 _
 have:its=its':=by simpa using congrArg Array.toList d1
 subst this
 exact r.inj r'
theorem Inv.tuple_inj (I:Inv X pins σ H s) (h:SqT X.K H a xs) (h':SqT X.K H a ys):xs=ys:=by
 obtain ⟨its,r,⟨o,e,_,n,d⟩,_⟩:=I.tuple h
 obtain ⟨its',r',⟨o',e',_,n',d'⟩,_⟩:=I.tuple h'
 rw [e] at e';cases e'
 rw [d] at d'
 injection d' with d1 _
 have:its=its':=by simpa using congrArg Array.toList d1
 subst this
 exact r.inj r'
end
abbrev Cx.wish (X:Cx) (E:Value->Shared->Prop):Cx:={ X with xe:=E }
abbrev Cx.nox (X:Cx):Cx:=X.wish fun _ _=>False
theorem Cx.Ok.wish {X:Cx} (ok:X.Ok) (E:Value->Shared->Prop):(X.wish E).Ok :=
 ⟨ok.mod,ok.kind,ok.glob,ok.blt,ok.above,ok.inj,ok.has,ok.cab,ok.hd,ok.frames,ok.stk,ok.exf,ok.bs,ok.bsz,ok.noex,ok.exfs,ok.funs,ok.frf⟩
theorem Cx.Ok.unwish {X:Cx} {E:Value->Shared->Prop} (ok:(X.wish E).Ok):X.Ok :=
 ⟨ok.mod,ok.kind,ok.glob,ok.blt,ok.above,ok.inj,ok.has,ok.cab,ok.hd,ok.frames,ok.stk,ok.exf,ok.bs,ok.bsz,ok.noex,ok.exfs,ok.funs,ok.frf⟩
section
variable {X:Cx} {pins:List (Addr × Obj)} {σ:St} {H:Hp} {s:Shared} {E:Value->Shared->Prop}
theorem Inv.wish (I:Inv X pins σ H s) (E:Value->Shared->Prop):Inv (X.wish E) pins σ H s:=⟨I.ok.wish E,I.os,I.bare,I.base,I.loc,I.cell,I.free,I.freeC,I.pin,I.hok,I.len⟩
theorem Inv.unwish (I:Inv (X.wish E) pins σ H s):Inv X pins σ H s:=⟨I.ok.unwish,I.os,I.bare,I.base,I.loc,I.cell,I.free,I.freeC,I.pin,I.hok,I.len⟩
theorem SP.unwish {D:Ends} {f:Flow} {s':Shared} (h:SP (X.wish E) pins D f s'):SP X pins D f s':=by
 cases f with
 | next=>obtain ⟨σ',H',I,q⟩:=h;exact ⟨σ',H',I.unwish,q⟩
 | brk=>obtain ⟨σ',H',I,q⟩:=h;exact ⟨σ',H',I.unwish,q⟩
 | cont=>obtain ⟨σ',H',I,q⟩:=h;exact ⟨σ',H',I.unwish,q⟩
 | ret u=>obtain ⟨v,σ',H',I,r,q⟩:=h;exact ⟨v,σ',H',I.unwish,r,q⟩
theorem PSs.nox {st:List Stmt} {t:TS} (h:PSs X.nox st t):PSs X st t:=fun pins s σ H D I hw =>
 wpAny_mono (h pins s σ H D (I.wish _) hw) (fun _ _ q=>q.unwish) fun _ _ z=>False.elim z
end
section
variable {X:Cx} {st:Stmt} {rest:List Stmt} {t u:TS} {e:Expr} {te:TE} {pos:Pos}
def tNext:TS:=fun D σ H=>D.nx σ H
def tSeq (t u:TS):TS:=fun D σ H=>t { D with nx:=u D } σ H
theorem pss_nil:PSs X [] tNext:=fun _ _ σ H _ I h=>wpAny_execs_nil ⟨σ,H,I,h⟩
theorem pss_cons (h1:PS X st t) (h2:PSs X rest u):PSs X (st::rest) (tSeq t u):=by
 intro pins s σ H D I h
 refine wpAny_execs_cons (thn (h1 pins s σ H { D with nx:=u D } I h) fun f s1 q=>?_)
 cases f with
 | next =>
  obtain ⟨σ',H',I',q⟩:=q
  exact h2 pins s1 σ' H' D I' q
 | ret v=>exact q
 | brk=>exact q
 | cont=>exact q
theorem pss_one (h1:PS X st t):PSs X [st] t:=by
 intro pins s σ H D I h
 refine wpAny_execs_cons (thn (h1 pins s σ H D I h) fun f s1 q=>?_)
 cases f with
 | next=>exact wpAny_execs_nil q
 | ret v=>exact q
 | brk=>exact q
 | cont=>exact q
theorem Inv.quiet {pins:List (Addr × Obj)} {σ:St} {H:Hp} {s:Shared} (I:Inv X pins σ H s):interactive X.env=false:=by simp [interactive,I.ok.kind]
def tDrop (te:TE):TS:=fun D σ H=>te σ H fun _ H1=>D.nx σ H1
theorem ps_expr (he:PE X e te) (hs:swapsWith e none pos.line X.env=pure false:=by rfl):PS X (.Expr e pos) (tDrop te):=by
 intro pins s σ H D I h
 exact wpAny_Expr_any (thn (he pins s σ H _ I h) fun v s1 ⟨x,H1,I1,r1,q1⟩=>⟨σ,H1,I1,q1⟩) I.quiet hs
def tRet (te:TE):TS:=fun D σ H=>te σ H D.rt
theorem ps_ret (he:PE X e te):PS X (.Return (some e) pos) (tRet te):=by
 intro pins s σ H D I h
 exact wpAny_Return_some (thn (he pins s σ H _ I h) fun v s1 ⟨x,H1,I1,r1,q1⟩=>⟨x,σ,H1,I1,r1,q1⟩)
def tIfS (c:TT) (t u:TS):TS:=fun D σ H=>c σ H fun b H1=>if b=true then t D σ H1 else u D σ H1
theorem ps_if {c:Expr} {a b:List Stmt} {tc:TT} (hc:PT X c tc) (ha:PSs X a t) (hb:PSs X b u):PS X (.If c a b pos) (tIfS tc t u):=by
 intro pins s σ H D I h
 refine wpAny_If (thn (hc pins s σ H _ I h) fun d s1 ⟨H1,I1,q1⟩=>?_)
 cases d with
 | true=>exact ha pins s1 σ H1 D I1 q1
 | false=>exact hb pins s1 σ H1 D I1 q1
def tNever:TS:=fun _ _ _=>False
theorem ps_never:PS X st tNever:=fun _ _ _ _ _ _ h=>h.elim
end
abbrev TG:=V->St->Hp->(St->Hp->Prop)->Prop
abbrev TGs:=List V->St->Hp->(St->Hp->Prop)->Prop
def PG (X:Cx) (target:Expr) (t:TG):Prop :=
 ∀ (pins:List (Addr × Obj)) (s:Shared) (σ:St) (H:Hp) (v:V) (u:Value) (Q:St->Hp->Prop),Inv X pins σ H s->RelV v u->t v σ H Q ->
  wpAny (model X.prog X.w) X.A (assign target X.env u) (fun _ s'=>∃ σ' H',Inv X pins σ' H' s'/\Q σ' H') X.xe s
def PGs (X:Cx) (ts:List Expr) (t:TGs):Prop :=
 ∀ (pins:List (Addr × Obj)) (s:Shared) (σ:St) (H:Hp) (vs:List V) (us:List Value) (Q:St->Hp->Prop),Inv X pins σ H s->Vals vs us->t vs σ H Q ->
  wpAny (model X.prog X.w) X.A (assignInOrder ((assignEach ts X.env).map (·.2)) us) (fun _ s'=>∃ σ' H',Inv X pins σ' H' s'/\Q σ' H') X.xe s
abbrev TSet:=V->V->V->Hp->(Hp->Prop)->Prop
def PSet (X:Cx) (t:TSet):Prop :=
 ∀ (pins:List (Addr × Obj)) (s:Shared) (σ:St) (H:Hp) (o i v:V) (ov iv u:Value) (Q:Hp->Prop),Inv X pins σ H s->RelV o ov->RelV i iv->RelV v u->t o i v H Q ->
  wpAny (model X.prog X.w) X.A (setItem ov iv u) (fun _ s'=>∃ H',Inv X pins σ H' s'/\Q H') X.xe s
section
variable {X:Cx} {pos:Pos}
def gName (i:Nat):TG:=fun v σ H Q=>Q (σ.set i (some v)) H
theorem pg_name {i:Nat} {x:Str} (hN:X.N.Nodup) (hi:X.N[i]?=some x) (hx:Loc X.env.scope x) (hf:X.fn x=true\/X.env.scope.names.lookup x=some .local:=by first | exact .inl rfl | exact .inr rfl | assumption):PG X (.Name x pos) (gName i):=by
 intro pins s σ H v u Q I r h
 exact wpAny_assign_Name (store_ok I hN hi hx r (fun s' I'=>⟨_,H,I',h⟩) hf)
def gNil:TGs:=fun vs σ H Q=>vs=[]/\Q σ H
def gCons (t:TG) (u:TGs):TGs:=fun vs σ H Q=>∃ v r,vs=v::r/\t v σ H fun σ' H'=>u r σ' H' Q
theorem pgs_nil:PGs X [] gNil:=by
 intro pins s σ H vs us Q I r h
 obtain ⟨e,h⟩:=h
 subst e
 cases r
 exact assignInOrder_nil ⟨σ,H,I,h⟩
theorem pgs_cons {e:Expr} {es:List Expr} {t:TG} {u:TGs} (h1:PG X e t) (h2:PGs X es u)
  (hs:(assignEach (e::es) X.env).map (·.2)=assign e X.env::(assignEach es X.env).map (·.2):=by rfl):PGs X (e::es) (gCons t u):=by
 intro pins s σ H vs us Q I r h
 obtain ⟨v,vr,e1,h⟩:=h
 subst e1
 cases r with
 | cons r rr =>
  rw [hs]
  refine assignInOrder_cons (thn (h1 pins s σ H _ _ _ I r h) fun _ s1 ⟨σ1,H1,I1,q1⟩=>?_)
  exact h2 pins s1 σ1 H1 _ _ Q I1 rr q1
def gTup (K:PySem.W.Frag) (n:Nat) (t:TGs):TG:=fun v σ H Q=>∃ a xs,v=.ref a/\SqT K H a xs/\xs.length=n/\t xs σ H Q
theorem pg_tup {es:List Expr} {k:Nat} {t:TGs} {n:Nat} (hc:X.calm=true) (h:PGs X es t)
  (hn:(assignEach es X.env).length=n:=by rfl) (hst:(assignEach es X.env).findIdx? (·.1)=none:=by rfl):PG X (.Tuple es k pos) (gTup X.K n t):=by
 intro pins s σ H v u Q I r hw
 obtain ⟨a,xs,e1,hq,hl,hw⟩:=hw
 subst e1
 cases r
 obtain ⟨its,rv,ht,hz⟩:=I.tuple hq
 refine assign_Tuple_tuple (I.ok.hd hc) ht (by simp [hn,<- hl,rv.length]) hst fun h' hx=>?_
 have I1:Inv X pins σ H { s with heap:=h' }:=I.kept (t':=s.toks) fun b o e=>hx b o (Nat.ne_of_lt (Heap.lt_size e)) e
 exact h pins _ σ H xs _ Q I1 (by simpa using rv) hw
def gSub (to ti:TE) (t:TSet):TG:=fun v σ H Q=>to σ H fun o H1=>ti σ H1 fun i H2=>t o i v H2 fun H3=>Q σ H3
theorem pg_sub {o i:Expr} {to ti:TE} {t:TSet} (ho:PE X o to) (hi:PE X i ti) (hs:PSet X t)
  (ha:∀ v,assign (.Subscript o i pos) X.env v=(do
   let ov <- holding [v] (eval o X.env)
   let iv <- holding [v,ov] (eval i X.env)
   standAt pos
   holding [v,ov,iv] (setItem ov iv v)
   release [v,ov,iv] []):=by intro _;rfl):PG X (.Subscript o i pos) (gSub to ti t):=by
 intro pins s σ H v u Q I r h
 rw [ha]
 refine wpAny_bind (wpAny_holding (thn (ho pins s σ H _ I h) fun ov s1 ⟨x,H1,I1,r1,q1⟩=>?_))
 refine wpAny_bind (wpAny_holding (thn (hi pins s1 σ H1 _ I1 q1) fun iv s2 ⟨y,H2,I2,r2,q2⟩=>?_))
 refine wpAny_bind (wpAny_standAt (wpAny_bind (wpAny_holding (thn (hs pins s2 σ H2 x y v ov iv u _ I2 r1 r2 r q2) fun _ s3 ⟨H3,I3,q3⟩=>?_))))
 exact wpAny_release ⟨σ,H3,I3,q3⟩
def tAsg (te:TE) (g:TG):TS:=fun D σ H=>te σ H fun x H1=>g x σ H1 D.nx
theorem ps_asg {tg e:Expr} {te:TE} {g:TG} (he:PE X e te) (hg:PG X tg g) (hs:swapsWithSole [tg] e pos.line X.env=pure false:=by rfl) (hw:swappedStores [tg] e X.env=pure none:=by rfl)
  (h1:(assignEach [tg] X.env).map (·.2)=[assign tg X.env]:=by rfl):PS X (.Assign [tg] e pos) (tAsg te g):=by
 intro pins s σ H D I h
 refine wpAny_Assign_stores (thn (he pins s σ H _ I h) fun v s1 ⟨x,H1,I1,r1,q1⟩=>?_) hs hw
 rw [h1]
 exact thn (hg pins s1 σ H1 x v _ I1 r1 q1) fun _ s2 q=>q
theorem ps_set {i:Nat} {x:Str} {e:Expr} {te:TE} {pos':Pos} (hN:X.N.Nodup) (hi:X.N[i]?=some x) (hx:Loc X.env.scope x) (he:PE X e te) (hs:swapsWith e (some (.Name x pos')) pos.line X.env=pure false:=by rfl) (hf:X.fn x=true\/X.env.scope.names.lookup x=some .local:=by first | exact .inl rfl | exact .inr rfl | assumption) :
  PS X (.Assign [.Name x pos'] e pos) (tAsg te (gName i)):=by
 intro pins s σ H D I h
 refine wpAny_Assign_Name (thn (he pins s σ H _ I h) fun v s1 ⟨y,H1,I1,r1,q1⟩=>?_) hs
 exact store_ok I1 hN hi hx r1 (fun s2 I2=>⟨_,H1,I2,q1⟩) hf
def tPar (i j:Nat) (ta:TA):TS:=fun D σ H=>ta σ H fun vs H1=>∃ v w,vs=[v,w]/\D.nx ((σ.set i (some v)).set j (some w)) H1
theorem ps_par {i j:Nat} {x y:Str} {a b:Expr} {ta:TA} {px py pt:Pos} {kt k2 pt2} (hc:X.calm=true) (hN:X.N.Nodup) (hi:X.N[i]?=some x) (hj:X.N[j]?=some y) (hij:i≠j)
  (hx:X.env.scope.names.lookup x=some .local) (hy:X.env.scope.names.lookup y=some .local) (ha:PA X [a,b] ta)
  (hw:swappedStores [.Tuple [.Name x px,.Name y py] kt pt] (.Tuple [a,b] k2 pt2) X.env=pure (some [x,y]))
  (hs:swapsWithSole [.Tuple [.Name x px,.Name y py] kt pt] (.Tuple [a,b] k2 pt2) pos.line X.env=pure false:=by rfl) :
  PS X (.Assign [.Tuple [.Name x px,.Name y py] kt pt] (.Tuple [a,b] k2 pt2) pos) (tPar i j ta):=by
 intro pins s σ H D I h
 rw [exec_Assign_arm]
 refine wpAny_bind (wpAny_standAt ?_)
 rw [hs]
 refine wpAny_bind (wpAny_pure ?_)
 rw [if_neg (by decide)]
 refine wpAny_bind (Tuple_ (thn (ha _ pins s σ H _ I h) fun us s1 ⟨vs,H1,I1,r1,q1⟩=>?_))
 obtain ⟨v,w,e1,q1⟩:=q1
 subst e1
 obtain ⟨u1,u2,rfl,rv,rw'⟩:∃ u1 u2,us=[u1,u2]/\RelV v u1/\RelV w u2:=by
  cases r1 with
  | cons p q =>
   cases q with
   | cons p' q' =>
    cases q'
    exact ⟨_,_,rfl,p,p'⟩
 refine wpAny_newObj_type ?_ (by show 2<=sizeLine;decide)
 have I2:Inv X pins σ H1 { s1 with heap:=s1.heap.push { cls:=.type "tuple",data:=.seq [u1,u2].toArray } }:=I1.kept (t':=s1.toks) fun b o e=>Heap.get?_push_of_some _ e
 rw [hw]
 refine wpAny_bind (wpAny_pure ?_)
 show wpAny (model X.prog X.w) X.A (do rule "assign.swapped-stores";let items <- unpackItems (.ref s1.heap.objs.size) 2 none;assignInOrder [fun v=>bindName X.env y v,fun v=>bindName X.env x v] items.reverse;pure Flow.next) _ _ _
 refine wpAny_bind (wpAny_rule (wpAny_bind (unpackItems_tuple (items:=#[u1,u2]) (I.ok.hd hc) (IsTup.new s1.heap _) fun h' hx'=>?_)))
 have I3:=I2.kept (h':=h') (t':=s1.toks) fun b o e=>hx' b o (Nat.ne_of_lt (Heap.lt_size e)) e
 show wpAny _ _ (assignInOrder [fun v=>bindName X.env y v,fun v=>bindName X.env x v] [u2,u1] >>= fun _=>pure Flow.next) _ _ _
 refine wpAny_bind (assignInOrder_cons (wpAny_bindName (store_ok I3 hN hj (.inl hy) rw' (fun s2 I4=>?_) (.inr hy))))
 refine assignInOrder_cons (wpAny_bindName (store_ok I4 hN hi (.inl hx) rv (fun s3 I5=>assignInOrder_nil (wpAny_pure ?_)) (.inr hx)))
 rw [List.set_comm _ _ (Ne.symm hij)] at I5
 exact ⟨_,H1,I5,q1⟩
def tWhile (c:TT) (tb:TS):TS:=fun D σ H=>∃ W:Nat->St->Hp->Prop,(∃ m,W m σ H)/\∀ m σ H,W m σ H ->
 c σ H fun b H1=>if b=true then ∃ N:St->Hp->Prop,(∀ σ' H',N σ' H'->∃ m',m' < m/\W m' σ' H')/\tb { D with nx:=N,ct:=N,bk:=D.nx } σ H1 else D.nx σ H1
theorem ps_while {c:Expr} {body:List Stmt} {tc:TT} {tb:TS} (hp:PassesOwn (model X.prog X.w) X.A X.env X.xe) (hc:PT X c tc) (hb:PSs X body tb):PS X (.While c body [] pos) (tWhile tc tb):=by
 intro pins s σ H D I h
 obtain ⟨W,⟨m0,w0⟩,turn⟩:=h
 refine wpAny_While (codeAny_whileLoop (fun n s'=>∃ σ' H',Inv X pins σ' H' s'/\W n σ' H') ?_ m0 ⟨σ,H,I,w0⟩)
 rintro n s1 ⟨σ1,H1,I1,w1⟩
 refine wpAny_passesOwn hp (thn (hc pins s1 σ1 H1 _ I1 (turn n σ1 H1 w1)) fun b s2 ⟨H2,I2,q2⟩=>?_)
 cases b with
 | true =>
  obtain ⟨N,hN,q2⟩:=q2
  rw [if_pos rfl]
  refine wpAny_passesOwn hp (thn (hb pins s2 σ1 H2 _ I2 q2) fun f s3 q3=>?_)
  cases f with
  | next =>
   obtain ⟨σ3,H3,I3,n3⟩:=q3
   obtain ⟨m',hm,w3⟩:=hN σ3 H3 n3
   exact ⟨m',hm,σ3,H3,I3,w3⟩
  | cont =>
   obtain ⟨σ3,H3,I3,n3⟩:=q3
   obtain ⟨m',hm,w3⟩:=hN σ3 H3 n3
   exact ⟨m',hm,σ3,H3,I3,w3⟩
  | brk=>exact q3
  | ret v=>exact q3
 | false =>
  rw [if_neg Bool.false_ne_true]
  exact wpAny_execs_nil ⟨σ1,H2,I2,q2⟩
end
structure It where
 go:Nat->Hp->Prop
 yld:Nat->Hp->V->Hp->Prop
 stop:Nat->Hp->Prop
def FpOk (X:Cx) (pins:List (Addr × Obj)) (H:Hp) (b:Addr):Prop :=
 H b=none/\b≠X.env.locals/\b ∉ X.fs/\(b∈X.ex\/X.s₀.heap.objs.size<=b)/\(∀ x c,X.env.cells.lookup x=some c->c≠b)/\∀ p∈X.pn++pins,p.1≠b
theorem Inv.fpOk {X:Cx} {pins:List (Addr × Obj)} {σ:St} {H H':Hp} {s:Shared} {b:Addr} (I:Inv X pins σ H s) (hb:s.heap.objs.size<=b) (hn:H' b=none):FpOk X pins H' b:=by
 refine ⟨hn,Nat.ne_of_gt (Nat.lt_of_lt_of_le I.lt hb),I.nofs hb,.inr (Nat.le_trans I.sz hb),fun x c e z=>?_,fun p hp z=>?_⟩
 ·obtain ⟨v,q⟩:=I.cell x c e
  exact absurd (Nat.lt_of_lt_of_le q.lt (by rw [z];exact hb)) (Nat.lt_irrefl _)
 ·exact absurd (Nat.lt_of_lt_of_le (Heap.lt_size (I.pin p hp).1) (by rw [z];exact hb)) (Nat.lt_irrefl _)
structure Turn (P:Program) (w:World) (K:PySem.W.Frag) (tg:Expr) (J:It) (fp:List Addr) (it:Addr) (tn:Nat->Heap->Prop):Prop where
 mem:it∈fp
 obj:∀ i h,tn i h->∀ b∈fp,∃ o,h.get? b=some o/\∀ v,o.data≠.cell v
 keep:∀ i h h',tn i h->(∀ b∈fp,∀ o,h.get? b=some o->h'.get? b=some o)->tn i h'
 item:∀ (X:Cx),X.prog=P->X.w=w->X.K=K->X.calm=true->∀ (i:Nat) (pins:List (Addr × Obj)) (s:Shared) (σ:St) (H:Hp) (E:Value->Shared->Prop),Inv X pins σ H s->(∀ b∈fp,FpOk X pins H b)->tn i s.heap->J.go i H ->
  wpAny (model P w) X.A (pyNext (.ref it)) (fun r s1=>∃ u,r=some u /\
   wpAny (model P w) X.A (letOwnedTupleGo tg (.ref it) u) (fun _ s2=>∃ x H',Inv X pins σ H' s2/\RelV x u/\J.yld i H x H'/\tn (i+1) s2.heap/\∀ b∈fp,H' b=none) E s1) E s
 done:∀ (X:Cx),X.prog=P->X.w=w->X.K=K->X.calm=true->∀ (i:Nat) (pins:List (Addr × Obj)) (s:Shared) (σ:St) (H:Hp) (E:Value->Shared->Prop),Inv X pins σ H s->(∀ b∈fp,FpOk X pins H b)->tn i s.heap->J.stop i H ->
  wpAny (model P w) X.A (pyNext (.ref it)) (fun r s1=>r=none/\Inv X pins σ H s1) E s
 self:∀ (A:Around) (i:Nat) (s:Shared) (Q:Value->Shared->Prop) (E:Value->Shared->Prop),tn i s.heap->Q (.ref it) s->wpAny (model P w) A (pyIter (.ref it)) Q E s
abbrev TI:=St->Hp->(It->Hp->Prop)->Prop
def PIE (X:Cx) (pins:List (Addr × Obj)) (σ:St) (tg:Expr) (R:It->Hp->Prop) (itv:Value) (s2:Shared):Prop :=
 ∃ (it:Addr) (fp:List Addr) (tn:Nat->Heap->Prop) (J:It) (H':Hp),itv=.ref it/\Inv X pins σ H' s2/\Turn X.prog X.w X.K tg J fp it tn/\tn 0 s2.heap/\(∀ b∈fp,FpOk X pins H' b)/\R J H'
def PI (X:Cx) (tg iter:Expr) (wi:TI):Prop :=
 ∀ (pins:List (Addr × Obj)) (s:Shared) (σ:St) (H:Hp) (R:It->Hp->Prop),Inv X pins σ H s->wi σ H R ->
  wpAny (model X.prog X.w) X.A (eval iter X.env) (fun v s1=>wpAny (model X.prog X.w) X.A (pyIter v) (PIE X pins σ tg R) X.xe s1) X.xe s
theorem go_of {M : Model} {A : Around} {E : Value → Shared → Prop} {s : Shared} {tg : Expr} {it : Addr} {u : Value} {o : Obj} {n : String} {vs : Array Value} {Q : Unit → Shared → Prop} (ho : s.heap.get? it = some o) (hc : o.cls = .type n) (hd : o.data = .fields vs)
    (hn : ["enumerate", "zip", "dict_itemiterator", "dict_reverseitemiterator", "odict_iterator", "itertools.zip_longest", "itertools.pairwise"].contains n = false) (hQ : Q () s) : wpAny M A (letOwnedTupleGo tg (.ref it) u) Q E s := by
  unfold letOwnedTupleGo
  cases tg <;> first
    | exact wpAny_pure hQ
    | (cases u <;> first
        | exact wpAny_pure hQ
        | (refine wpAny_bind (wpAny_load ho ?_)
           rw [hc, hd]
           show wpAny M A (if (["enumerate", "zip", "dict_itemiterator", "dict_reverseitemiterator", "odict_iterator", "itertools.zip_longest", "itertools.pairwise"].contains n && vs[0]? == some (rawInt _)) = true then _ else _) Q E s
           rw [if_neg (by intro h; rw [hn, Bool.false_and] at h; cases h)]
           exact wpAny_pure hQ))
def Itl (K:PySem.W.Frag) (a:Addr):It :=
 ⟨fun i H=>∃ xs x,SqL K H a xs/\xs[i]?=some x,fun i H x H'=>H'=H/\∀ xs,SqL K H a xs->xs[i]?=some x,fun i H=>∃ xs,SqL K H a xs/\xs.length<=i⟩
def Itt (K:PySem.W.Frag) (a:Addr):It :=
 ⟨fun i H=>∃ xs x,SqT K H a xs/\xs[i]?=some x,fun i H x H'=>H'=H/\∀ xs,SqT K H a xs->xs[i]?=some x,fun i H=>∃ xs,SqT K H a xs/\xs.length<=i⟩
def Itr (lo:Int) (n:Nat):It:=⟨fun i _=>i < n,fun i H x H'=>H'=H/\x=.int (lo+i),fun i _=>n<=i⟩
theorem turn_list {P:Program} {w:World} {K:PySem.W.Frag} {tg:Expr} (a it:Addr):Turn P w K tg (Itl K a) [it] it (fun i h=>h.IsListIter it a i) where
 mem:=by simp
 obj:=fun i h st b hb=>by
  have e:b=it:=by simpa using hb
  subst e
  obtain ⟨o,e,c,d⟩:=st
  exact ⟨o,e,fun v z=>by rw [d] at z;cases z⟩
 keep:=fun i h h' st k=>st.at fun o e=>k it (by simp) o e
 item:=by
  intro X hP hw hK hc i pins s σ H E I hf st hg
  subst hP hw hK
  obtain ⟨xs,x,hq,hx⟩:=hg
  obtain ⟨its,rv,p,hz⟩:=I.list hq
  obtain ⟨u,hu,ru⟩:=rv.get hx
  obtain ⟨f0,f1,f2,f3,f4,f5⟩:=hf it (by simp)
  refine wpAny_pyNext_list_item st p.isList (x:=u) (by simpa using hu) fun h' st' sb=>?_
  have I1:Inv X pins σ H { s with heap:=h' }:=I.turned (t':=s.toks) (fun b o hb e=>(sb.2 b hb).trans e) f0 f1 f3 f4 f5
  obtain ⟨o,e,c,d⟩:=id st'
  exact ⟨u,rfl,go_of (s:={ s with heap:=h' }) e c d (by decide) ⟨x,H,I1,ru,⟨rfl,fun ys hy=>by rw [I.list_inj hy hq];exact hx⟩,st',fun b hb=>(hf b hb).1⟩⟩
 done:=by
  intro X hP hw hK hc i pins s σ H E I hf st hg
  subst hP hw hK
  obtain ⟨xs,hq,hx⟩:=hg
  obtain ⟨its,rv,p,hz⟩:=I.list hq
  obtain ⟨f0,f1,f2,f3,f4,f5⟩:=hf it (by simp)
  have hl:=rv.length
  exact wpAny_pyNext_list_end (I.ok.hd hc) st p.isList (by simp;omega) fun h' eb=>⟨rfl,I.turned (t':=s.toks) (fun b o hb e=>eb b o hb e) f0 f1 f3 f4 f5⟩
 self:=fun _ _ _ _ _ st h=>wpAny_pyIter_listiter st h
theorem turn_tuple {P:Program} {w:World} {K:PySem.W.Frag} {tg:Expr} (a it:Addr):Turn P w K tg (Itt K a) [it] it (fun i h=>h.IsTupleIter it a i) where
 mem:=by simp
 obj:=fun i h st b hb=>by
  have e:b=it:=by simpa using hb
  subst e
  obtain ⟨o,e,c,d⟩:=st
  exact ⟨o,e,fun v z=>by rw [d] at z;cases z⟩
 keep:=fun i h h' st k=>st.at fun o e=>k it (by simp) o e
 item:=by
  intro X hP hw hK hc i pins s σ H E I hf st hg
  subst hP hw hK
  obtain ⟨xs,x,hq,hx⟩:=hg
  obtain ⟨its,rv,p,hz⟩:=I.tuple hq
  obtain ⟨u,hu,ru⟩:=rv.get hx
  obtain ⟨f0,f1,f2,f3,f4,f5⟩:=hf it (by simp)
  refine wpAny_pyNext_tuple_item st (show s.heap.IsTuple a its.toArray from p) (x:=u) (by simpa using hu) fun h' st' sb=>?_
  have I1:Inv X pins σ H { s with heap:=h' }:=I.turned (t':=s.toks) (fun b o hb e=>(sb.2 b hb).trans e) f0 f1 f3 f4 f5
  obtain ⟨o,e,c,d⟩:=id st'
  exact ⟨u,rfl,go_of (s:={ s with heap:=h' }) e c d (by decide) ⟨x,H,I1,ru,⟨rfl,fun ys hy=>by rw [I.tuple_inj hy hq];exact hx⟩,st',fun b hb=>(hf b hb).1⟩⟩
 done:=by
  intro X hP hw hK hc i pins s σ H E I hf st hg
  subst hP hw hK
  obtain ⟨xs,hq,hx⟩:=hg
  obtain ⟨its,rv,p,hz⟩:=I.tuple hq
  obtain ⟨f0,f1,f2,f3,f4,f5⟩:=hf it (by simp)
  have hl:=rv.length
  exact wpAny_pyNext_tuple_end (I.ok.hd hc) st (show s.heap.IsTuple a its.toArray from p) (by simp;omega) fun h' eb=>⟨rfl,I.turned (t':=s.toks) (fun b o hb e=>eb b o hb e) f0 f1 f3 f4 f5⟩
 self:=fun _ _ _ _ _ st h=>wpAny_pyIter_tupleiter st h
theorem turn_range {P:Program} {w:World} {K:PySem.W.Frag} {tg:Expr} (it:Addr) (lo:Int) (n:Nat):Turn P w K tg (Itr lo n) [it] it (fun i h=>IsRangeIter h it (lo+(i:Nat) * 1) ((n:Int) - (i:Nat)) 1) where
 mem:=by simp
 obj:=fun i h st b hb=>by
  have e:b=it:=by simpa using hb
  subst e
  exact ⟨_,st,fun v z=>by
   have z':Data.fields _=Data.cell v:=z
   cases z'⟩
 keep:=fun i h h' st k=>k it (by simp) _ st
 item:=by
  intro X hP hw hK hc i pins s σ H E I hf st hg
  subst hP hw hK
  obtain ⟨f0,f1,f2,f3,f4,f5⟩:=hf it (by simp)
  have W:=Walks.range (prog:=X.prog) (w:=X.w) (I.ok.hd hc) it lo 1 n
  refine W.item i s _ _ hg st fun v h' tk hv st' kk=>?_
  obtain ⟨t,rfl⟩:=hv
  have I1:Inv X pins σ H { s with heap:=h',toks:=tk }:=I.turned (fun b o hb e=>kk b o (by simpa using hb) e) f0 f1 f3 f4 f5
  refine ⟨_,rfl,go_of (s:={ s with heap:=h',toks:=tk }) (n:="range_iterator") st' rfl rfl (by decide) ⟨.int (lo+i),H,I1,⟨t,?_⟩,⟨rfl,rfl⟩,st',fun b hb=>(hf b hb).1⟩⟩
  rw [Int.mul_one]
 done:=by
  intro X hP hw hK hc i pins s σ H E I hf st hg
  subst hP hw hK
  obtain ⟨f0,f1,f2,f3,f4,f5⟩:=hf it (by simp)
  exact wpAny_pyNext_range_end (I.ok.hd hc) st (by have:n<=i:=hg;omega) fun h' eb=>⟨rfl,I.turned (t':=s.toks) (fun b o hb e=>eb b o hb e) f0 f1 f3 f4 f5⟩
 self:=fun _ _ _ _ _ st h=>wpAny_pyIter_rangeiter st h
section
variable {X:Cx} {tg:Expr}
def iList (K:PySem.W.Frag) (tl:TE):TI:=fun σ H R=>tl σ H fun x H1=>∃ a,x=.ref a/\(∃ xs,SqL K H1 a xs)/\R (Itl K a) H1
def iTup (K:PySem.W.Frag) (tl:TE):TI:=fun σ H R=>tl σ H fun x H1=>∃ a,x=.ref a/\(∃ xs,SqT K H1 a xs)/\R (Itt K a) H1
theorem pi_list {l:Expr} {tl:TE} (hl:PE X l tl):PI X tg l (iList X.K tl):=by
 intro pins s σ H R I h
 refine thn (hl pins s σ H _ I h) fun v s1 ⟨x,H1,I1,r1,q1⟩=>?_
 obtain ⟨a,e,⟨xs,hq⟩,q⟩:=q1
 subst e
 cases r1
 obtain ⟨its,rv,p,hz⟩:=I1.list hq
 refine wpAny_pyIter_list p.isList ?_
 refine ⟨s1.heap.objs.size,[s1.heap.objs.size],_,_,H1,rfl,I1.kept (t':=s1.toks) fun b o e=>Heap.get?_push_of_some _ e,turn_list a _,⟨_,Heap.get?_push_size _ rfl,rfl,rfl⟩,fun b hb=>?_,q⟩
 have e:b=s1.heap.objs.size:=by simpa using hb
 subst e
 exact I1.fpOk (Nat.le_refl _) (I1.hok.fresh (Nat.le_refl _))
theorem pi_tup {l:Expr} {tl:TE} (hl:PE X l tl):PI X tg l (iTup X.K tl):=by
 intro pins s σ H R I h
 refine thn (hl pins s σ H _ I h) fun v s1 ⟨x,H1,I1,r1,q1⟩=>?_
 obtain ⟨a,e,⟨xs,hq⟩,q⟩:=q1
 subst e
 cases r1
 obtain ⟨its,rv,p,hz⟩:=I1.tuple hq
 refine wpAny_pyIter_tuple (show s1.heap.IsTuple a its.toArray from p) ?_
 refine ⟨s1.heap.objs.size,[s1.heap.objs.size],_,_,H1,rfl,I1.kept (t':=s1.toks) fun b o e=>Heap.get?_push_of_some _ e,turn_tuple a _,⟨_,Heap.get?_push_size _ rfl,rfl,rfl⟩,fun b hb=>?_,q⟩
 have e:b=s1.heap.objs.size:=by simpa using hb
 subst e
 exact I1.fpOk (Nat.le_refl _) (I1.hok.fresh (Nat.le_refl _))
theorem range_it {pins:List (Addr × Obj)} {σ:St} {H:Hp} {s:Shared} {R:It->Hp->Prop} {E:Value->Shared->Prop} {lo hi:Int} {t u v:Tok} {tk:Nat} (I:Inv X pins σ H s) (h1:-(2 ^ 62)<=lo) (h2:lo < 2 ^ 62) (h3:-(2 ^ 62)<=hi) (h4:hi < 2 ^ 62)
  (q:R (Itr lo (hi - lo).toNat) H):wpAny (model X.prog X.w) X.A (pyIter (.ref s.heap.objs.size)) (PIE X pins σ tg R) E { s with heap:=s.heap.push { cls:=.type "range",data:=.fields #[.int lo t,.int hi u,.int 1 v] },toks:=tk }:=by
 refine wpAny_pyIter_range (IsRange.new ..) (small_one h1 h2 h3 h4) ?_
 have I1:Inv X pins σ H { s with heap:=s.heap.push { cls:=.type "range",data:=.fields #[.int lo t,.int hi u,.int 1 v] },toks:=tk }:=I.kept fun b o e=>Heap.get?_push_of_some _ e
 refine ⟨(s.heap.push { cls:=.type "range",data:=.fields #[.int lo t,.int hi u,.int 1 v] }).objs.size,[(s.heap.push { cls:=.type "range",data:=.fields #[.int lo t,.int hi u,.int 1 v] }).objs.size],_,_,H,rfl,
  I1.kept (t':=tk) fun b o e=>Heap.get?_push_of_some _ e,turn_range _ lo (hi - lo).toNat,?_,fun b hb=>?_,q⟩
 ·have e1:lo+((0:Nat):Int) * 1=lo:=by simp
  have e2:(((hi - lo).toNat:Nat):Int) - ((0:Nat):Int)=Builtin.Range.rangeSize lo hi 1:=by rw [rangeSize_one];split<;>omega
  show IsRangeIter _ _ (lo+((0:Nat):Int) * 1) ((((hi - lo).toNat:Nat):Int) - ((0:Nat):Int)) 1
  rw [e1,e2]
  exact Heap.get?_push_size _ rfl
 ·have e:b=(s.heap.push { cls:=.type "range",data:=.fields #[.int lo t,.int hi u,.int 1 v] }).objs.size:=by simpa using hb
  subst e
  exact I1.fpOk (Nat.le_refl _) (I1.hok.fresh (Nat.le_refl _))
def iRng1 (ta:TA):TI:=fun σ H R=>ta σ H fun vs H1=>∃ j:Int,vs=[.int j]/\-(2 ^ 62)<=j/\j < 2 ^ 62/\R (Itr 0 j.toNat) H1
def iRng2 (ta:TA):TI:=fun σ H R=>ta σ H fun vs H1=>∃ i j:Int,vs=[.int i,.int j]/\(-(2 ^ 62)<=i/\i < 2 ^ 62/\-(2 ^ 62)<=j/\j < 2 ^ 62)/\R (Itr i (j - i).toNat) H1
theorem pi_range1 {a:Expr} {ta:TA} {p pos:Pos} (hg:Gl X "range") (hm:X.mg "range" = none) (ha:PA X [a] ta) (hs:starEach [a] X.env=[(false,eval a X.env)]:=by rfl):PI X tg (.Call (.Name "range" p) [a] [] pos) (iRng1 ta):=by
 intro pins s σ H R I h
 refine Call_ (ld_blt I hg hm boot_range (PyProof.Rows.callWith_type1 (thn (ha pos pins s σ H _ I h) fun us s1 ⟨vs,H1,I1,r1,q1⟩=>?_) hs rfl))
 obtain ⟨j,e,q1,q2,q⟩:=q1
 subst e
 cases r1 with
 | cons r rr =>
  cases rr
  obtain ⟨t,rfl⟩:=r
  exact call_range_1 (range_it I1 (by omega) (by omega) q1 q2 (by simpa using q))
theorem pi_range2 {a b:Expr} {ta:TA} {p pos:Pos} (hg:Gl X "range") (hm:X.mg "range" = none) (ha:PA X [a,b] ta) (hs:starEach [a,b] X.env=[(false,eval a X.env),(false,eval b X.env)]:=by rfl) (hs2:starEach [b] X.env=[(false,eval b X.env)]:=by rfl) :
  PI X tg (.Call (.Name "range" p) [a,b] [] pos) (iRng2 ta):=by
 intro pins s σ H R I h
 refine Call_ (ld_blt I hg hm boot_range (PyProof.Rows.callWith_type1 (thn (ha pos pins s σ H _ I h) fun us s1 ⟨vs,H1,I1,r1,q1⟩=>?_) (by rw [hs,hs2]) (by rw [hs2];rfl)))
 obtain ⟨i,j,e,⟨q1,q2,q3,q4⟩,q⟩:=q1
 subst e
 cases r1 with
 | cons r rr =>
  cases rr with
  | cons r' rr =>
   cases rr
   obtain ⟨t,rfl⟩:=r
   obtain ⟨t',rfl⟩:=r'
   exact call_range_2 (range_it I1 q1 q2 q3 q4 q)
def tFor (wi:TI) (g:TG) (tb:TS):TS:=fun D σ H=>wi σ H fun J H1=>∃ W:Nat->Nat->St->Hp->Prop,(∃ m,W 0 m σ H1)/\∀ i m σ H,W i m σ H ->
 (J.stop i H/\D.nx σ H)\/(J.go i H/\∃ N:St->Hp->Prop,(∀ σ' H',N σ' H'->∃ m',m' < m/\W (i+1) m' σ' H')/\∀ x H',J.yld i H x H'->g x σ H' fun σ2 H2=>tb { D with nx:=N,ct:=N,bk:=D.nx } σ2 H2)
def pinsAt (fp:List Addr) (h:Heap):List (Addr × Obj):=fp.filterMap fun b=>(h.get? b).map fun o=>(b,o)
theorem mem_pinsAt {fp:List Addr} {h:Heap} {b:Addr} {o:Obj} (hb:b∈fp) (e:h.get? b=some o):(b,o)∈pinsAt fp h:=List.mem_filterMap.mpr ⟨b,hb,by rw [e];rfl⟩
theorem of_pinsAt {fp:List Addr} {h:Heap} {p:Addr × Obj} (hp:p∈pinsAt fp h):p.1∈fp/\h.get? p.1=some p.2:=by
 obtain ⟨b,hb,e⟩:=List.mem_filterMap.mp hp
 cases q:h.get? b with
 | none=>rw [q] at e;cases e
 | some o =>
  rw [q] at e
  have e':(b,o)=p:=Option.some.inj e
  subst e'
  exact ⟨hb,q⟩
theorem Inv.pinned {pins:List (Addr × Obj)} {σ:St} {H:Hp} {s:Shared} {fp:List Addr} (I:Inv X pins σ H s) (hf:∀ b∈fp,FpOk X pins H b) (ho:∀ b∈fp,∃ o,s.heap.get? b=some o/\∀ v,o.data≠.cell v):Inv X (pins++pinsAt fp s.heap) σ H s :=
 I.pins_of fun p hp=>(List.mem_append.mp hp).elim (fun z=>I.pin p (List.mem_append_right _ z)) fun z=>by
  obtain ⟨hb,e⟩:=of_pinsAt z
  obtain ⟨f0,f1,f2,_⟩:=hf p.1 hb
  obtain ⟨o,e',d⟩:=ho p.1 hb
  rw [e] at e';cases e'
  exact ⟨e,f0,f1,f2,d⟩
theorem Inv.unpinned {pins pl:List (Addr × Obj)} {σ:St} {H:Hp} {s:Shared} (I:Inv X (pins++pl) σ H s):Inv X pins σ H s:=I.pins_of fun p hp=>I.pin p (List.mem_append_right _ (List.mem_append_left _ hp))
theorem ps_for {iter:Expr} {body:List Stmt} {wi:TI} {g:TG} {tb:TS} {pos:Pos} (hp:PassesOwn (model X.prog X.w) X.A X.env X.xe) (hc:X.calm=true) (hi:PI X tg iter wi) (hg:PG X tg g) (hb:PSs X body tb)
  (hs:∀ x,foldedSetIterable iter X.env x=pure x:=by intro _;rfl):PS X (.For tg iter body [] pos) (tFor wi g tb):=by
 intro pins s σ H D I h
 refine wpAny_For (thn (hi pins s σ H _ I h) fun v s1 h1=>thn h1 fun itv s2 h2=>?_) hs
 obtain ⟨it,fp,tn,J,H2,e,I2,T,st2,f2,W,⟨m0,w0⟩,turn⟩:=h2
 subst e
 have stat:∀ {H':Hp},(∀ b∈fp,H' b=none)->∀ b∈fp,FpOk X pins H' b:=fun hn b hb=>⟨hn b hb,(f2 b hb).2⟩
 refine codeAny_forLoop_any (fun n s'=>∃ i σ' H',Inv X pins σ' H' s'/\tn i s'.heap/\(∀ b∈fp,H' b=none)/\W i n σ' H') ?_ m0 ⟨0,σ,H2,I2,st2,fun b hb=>(f2 b hb).1,w0⟩
 rintro n s3 ⟨i,σ3,H3,I3,st3,fr3,w3⟩
 rcases turn i n σ3 H3 w3 with ⟨stop,qn⟩ | ⟨go,N,hN,step⟩
 ·refine wpAny_passesOwn hp (thn (T.done X rfl rfl rfl hc i pins s3 σ3 H3 X.xe I3 (stat fr3) st3 stop) fun r s4 ⟨hr,I4⟩=>?_)
  subst hr
  exact wpAny_execs_nil ⟨σ3,H3,I4,qn⟩
 ·refine wpAny_passesOwn hp (thn (T.item X rfl rfl rfl hc i pins s3 σ3 H3 X.xe I3 (stat fr3) st3 go) fun r s4 ⟨u,hr,h4⟩=>?_)
  subst hr
  refine wpAny_passesOwn hp (thn h4 fun _ s5 ⟨x,H5,I5,r5,y5,st5,fr5⟩=>?_)
  have I5':=I5.pinned (stat fr5) (T.obj _ _ st5)
  refine wpAny_passesOwn hp (thn (hg _ s5 σ3 H5 x u _ I5' r5 (step x H5 y5)) fun _ s6 ⟨σ6,H6,I6,q6⟩=>?_)
  refine wpAny_passesOwn hp (thn (hb _ s6 σ6 H6 _ I6 q6) fun f s7 q7=>?_)
  have again:∀ {σ7:St} {H7:Hp},Inv X (pins++pinsAt fp s5.heap) σ7 H7 s7->N σ7 H7->∃ m,m < n/\∃ i σ' H',Inv X pins σ' H' s7/\tn i s7.heap/\(∀ b∈fp,H' b=none)/\W i m σ' H':=fun {σ7 H7} I7 n7=>by
   obtain ⟨m',hm,w7⟩:=hN σ7 H7 n7
   refine ⟨m',hm,i+1,σ7,H7,I7.unpinned,T.keep _ _ _ st5 fun b hb o e=>(I7.pin (b,o) (List.mem_append_right _ (List.mem_append_right _ (mem_pinsAt hb e)))).1,fun b hb=>?_,w7⟩
   obtain ⟨o,e,d⟩:=T.obj _ _ st5 b hb
   exact (I7.pin (b,o) (List.mem_append_right _ (List.mem_append_right _ (mem_pinsAt hb e)))).2.1
  cases f with
  | next=>obtain ⟨σ7,H7,I7,n7⟩:=q7;exact again I7 n7
  | cont=>obtain ⟨σ7,H7,I7,n7⟩:=q7;exact again I7 n7
  | brk=>obtain ⟨σ7,H7,I7,q7⟩:=q7;exact ⟨σ7,H7,I7.unpinned,q7⟩
  | ret v=>obtain ⟨x7,σ7,H7,I7,r7,q7⟩:=q7;exact ⟨x7,σ7,H7,I7.unpinned,r7,q7⟩
end
theorem for_list {K:PySem.W.Frag} {a:Addr} {xs:List V} {g:TG} {tb:TS} {D:Ends} {σ:St} {H:Hp} (Pv:Nat->St->Hp->Prop) (h0:Pv 0 σ H) (hl:∀ i σ H,i<=xs.length->Pv i σ H->SqL K H a xs)
  (hs:∀ i x σ H,xs[i]?=some x->Pv i σ H->g x σ H fun σ2 H2=>tb { D with nx:=Pv (i+1),ct:=Pv (i+1),bk:=D.nx } σ2 H2) (hd:∀ σ H,Pv xs.length σ H->D.nx σ H) :
  ∃ W:Nat->Nat->St->Hp->Prop,(∃ m,W 0 m σ H)/\∀ i m σ H,W i m σ H ->
   ((Itl K a).stop i H/\D.nx σ H)\/((Itl K a).go i H/\∃ N:St->Hp->Prop,(∀ σ' H',N σ' H'->∃ m',m' < m/\W (i+1) m' σ' H')/\∀ x H',(Itl K a).yld i H x H'->g x σ H' fun σ2 H2=>tb { D with nx:=N,ct:=N,bk:=D.nx } σ2 H2):=by
 refine ⟨fun i m σ H=>m=xs.length - i/\i<=xs.length/\Pv i σ H,⟨xs.length,by simp,Nat.zero_le _,h0⟩,?_⟩
 rintro i m σ H ⟨rfl,hi,p⟩
 have q:=hl i σ H hi p
 by_cases hlt:i < xs.length
 ·refine .inr ⟨⟨xs,xs[i],q,by simp [hlt]⟩,Pv (i+1),fun σ' H' p'=>⟨xs.length - (i+1),by omega,rfl,hlt,p'⟩,fun x H' y=>?_⟩
  obtain ⟨e,y⟩:=y
  subst e
  exact hs i x σ _ (y xs q) p
 ·have e:i=xs.length:=by omega
  subst e
  exact .inl ⟨⟨xs,q,Nat.le_refl _⟩,hd σ H p⟩
theorem for_range {lo:Int} {n:Nat} {g:TG} {tb:TS} {D:Ends} {σ:St} {H:Hp} (Pv:Nat->St->Hp->Prop) (h0:Pv 0 σ H)
  (hs:∀ i σ H,i < n->Pv i σ H->g (.int (lo+i)) σ H fun σ2 H2=>tb { D with nx:=Pv (i+1),ct:=Pv (i+1),bk:=D.nx } σ2 H2) (hd:∀ σ H,Pv n σ H->D.nx σ H) :
  ∃ W:Nat->Nat->St->Hp->Prop,(∃ m,W 0 m σ H)/\∀ i m σ H,W i m σ H ->
   ((Itr lo n).stop i H/\D.nx σ H)\/((Itr lo n).go i H/\∃ N:St->Hp->Prop,(∀ σ' H',N σ' H'->∃ m',m' < m/\W (i+1) m' σ' H')/\∀ x H',(Itr lo n).yld i H x H'->g x σ H' fun σ2 H2=>tb { D with nx:=N,ct:=N,bk:=D.nx } σ2 H2):=by
 refine ⟨fun i m σ H=>m=n - i/\i<=n/\Pv i σ H,⟨n,by simp,Nat.zero_le _,h0⟩,?_⟩
 rintro i m σ H ⟨rfl,hi,p⟩
 by_cases hlt:i < n
 ·refine .inr ⟨hlt,Pv (i+1),fun σ' H' p'=>⟨n - (i+1),by omega,rfl,hlt,p'⟩,fun x H' y=>?_⟩
  obtain ⟨e,y⟩:=y
  subst e y
  exact hs i σ _ hlt p
 ·have e:i=n:=by omega
  subst e
  exact .inl ⟨Nat.le_refl _,hd σ H p⟩
abbrev R2:=V->V->Hp->VK->Prop
def OpR (X:Cx) (f:Value->Value->Sem Value) (r:R2):Prop :=
 ∀ (pins:List (Addr × Obj)) (s:Shared) (σ:St) (H:Hp) (x y:V) (v u:Value) (Q:VK),Inv X pins σ H s->RelV x v->RelV y u->r x y H Q ->
  wpAny (model X.prog X.w) X.A (f v u) (EP X pins σ Q) X.xe s
def CallR (X:Cx) (f:Value) (r:List V->Hp->VK->Prop):Prop :=
 ∀ (pins:List (Addr × Obj)) (s:Shared) (σ:St) (H:Hp) (xs:List V) (us:List Value) (Q:VK),Inv X pins σ H s->Vals xs us->r xs H Q ->
  wpAny (model X.prog X.w) X.A (call f us) (EP X pins σ Q) X.xe s
def TruR (X:Cx) (r:V->Hp->(Bool->Hp->Prop)->Prop):Prop :=
 ∀ (pins:List (Addr × Obj)) (s:Shared) (σ:St) (H:Hp) (x:V) (v:Value) (Q:Bool->Hp->Prop),Inv X pins σ H s->RelV x v->r x H Q ->
  wpAny (model X.prog X.w) X.A (truthy v) (TP X pins σ Q) X.xe s
def tOp (r:R2) (ta tb:TE):TE:=fun σ H Q=>ta σ H fun x H1=>tb σ H1 fun y H2=>r x y H2 Q
def rI (C:Int->Int->Prop) (g:Int->Int->V):R2:=fun x y H Q=>∃ i j,x=.int i/\y=.int j/\C i j/\Q (g i j) H
def rI0 (g:Int->Int->V):R2:=fun x y H Q=>∃ i j,x=.int i/\y=.int j/\Q (g i j) H
section
variable {X:Cx} {a b c:Expr} {ta tb tc:TE} {pos:Pos}
theorem binT (ha:PE X a ta) (hb:PE X b tb) {pins:List (Addr × Obj)} {s:Shared} {σ:St} {H:Hp} {R:V->V->Hp->Prop} (I:Inv X pins σ H s)
  (h:ta σ H fun x H1=>tb σ H1 fun y H2=>R x y H2) {Q:Value->Shared->Prop} {f:Value->Value->Sem Value}
  (hf:∀ v u s2 x y H2,Inv X pins σ H2 s2->RelV x v->RelV y u->R x y H2->wpAny (model X.prog X.w) X.A (f v u) Q X.xe s2) :
  wpAny (model X.prog X.w) X.A (eval a X.env) (fun v s₁=>wpAny (model X.prog X.w) X.A (eval b X.env) (fun u s₂=>wpAny (model X.prog X.w) X.A (f v u) Q X.xe s₂) X.xe s₁) X.xe s:=by
 refine thn (ha pins s σ H _ I h) fun v s1 ⟨x,H1,I1,r1,q1⟩=>?_
 refine thn (hb pins s1 σ H1 _ I1 q1) fun u s2 ⟨y,H2,I2,r2,q2⟩=>?_
 exact hf v u s2 x y H2 I2 r1 r2 q2
theorem pe_op {op:Operator} {r:R2} (ho:OpR X (binaryOp op) r) (ha:PE X a ta) (hb:PE X b tb):PE X (.BinOp a op b pos) (tOp r ta tb):=by
 intro pins s σ H Q I h
 exact wpAny_BinOp (binT ha hb I h fun v u s2 x y H2 I2 rx ry q=>ho pins s2 σ H2 x y v u Q I2 rx ry q)
theorem opI {f:Value->Value->Sem Value} {C:Int->Int->Prop} {g:Int->Int->Int}
  (rule:∀ (i j:Int) (t u:Tok) (s:Shared) (Q:Value->Shared->Prop) (E:Value->Shared->Prop),C i j->Q (.int (g i j) s.toks) { s with toks:=s.toks+1 }->wpAny (model X.prog X.w) X.A (f (.int i t) (.int j u)) Q E s) :
  OpR X f (rI C fun i j=>.int (g i j)):=by
 intro pins s σ H x y v u Q I rx ry h
 obtain ⟨i,j,rfl,rfl,hc,q⟩:=h
 obtain ⟨t,rfl⟩:=rx
 obtain ⟨t',rfl⟩:=ry
 exact rule i j t t' s _ _ hc ⟨.int (g i j),H,I.tok _,⟨_,rfl⟩,q⟩
theorem opI0 {f:Value->Value->Sem Value} {g:Int->Int->Int}
  (rule:∀ (i j:Int) (t u:Tok) (s:Shared) (Q:Value->Shared->Prop) (E:Value->Shared->Prop),Q (.int (g i j) s.toks) { s with toks:=s.toks+1 }->wpAny (model X.prog X.w) X.A (f (.int i t) (.int j u)) Q E s) :
  OpR X f (rI0 fun i j=>.int (g i j)):=by
 intro pins s σ H x y v u Q I rx ry h
 obtain ⟨i,j,rfl,rfl,q⟩:=h
 obtain ⟨t,rfl⟩:=rx
 obtain ⟨t',rfl⟩:=ry
 exact rule i j t t' s _ _ ⟨.int (g i j),H,I.tok _,⟨_,rfl⟩,q⟩
theorem opB0 {f:Value->Value->Sem Value} {g:Int->Int->Bool}
  (rule:∀ (i j:Int) (t u:Tok) (s:Shared) (Q:Value->Shared->Prop) (E:Value->Shared->Prop),Q (.bool (g i j)) s->wpAny (model X.prog X.w) X.A (f (.int i t) (.int j u)) Q E s) :
  OpR X f (rI0 fun i j=>.bl (g i j)):=by
 intro pins s σ H x y v u Q I rx ry h
 obtain ⟨i,j,rfl,rfl,q⟩:=h
 obtain ⟨t,rfl⟩:=rx
 obtain ⟨t',rfl⟩:=ry
 exact rule i j t t' s _ _ ⟨.bl (g i j),H,I,rfl,q⟩
def CDiv (i j:Int):Prop:=0 < j/\j < 1073741824
def CPow (i j:Int):Prop:=0<=j/\j<=1000000/\i.natAbs < 2 ^ 64
def CMul (i j:Int):Prop:=(-(2 ^ 64) < i/\i < 2 ^ 64)\/(-(2 ^ 64) < j/\j < 2 ^ 64)
theorem CMul.ok {i j:Int} (h:CMul i j):IntMulOk i j:=by
 rcases h with ⟨h1,h2⟩ | ⟨h1,h2⟩
 ·exact .of_left (intBits_le_64 h1 h2)
 ·exact .of_right (intBits_le_64 h1 h2)
theorem op_add:OpR X (binaryOp .Add) (rI0 fun i j=>.int (i+j)):=opI0 fun _ _ _ _ _ _ _ q=>add_int q
theorem op_sub:OpR X (binaryOp .Sub) (rI0 fun i j=>.int (i - j)):=opI0 fun _ _ _ _ _ _ _ q=>sub_int q
theorem op_mul:OpR X (binaryOp .Mult) (rI CMul fun i j=>.int (i * j)):=opI fun _ _ _ _ _ _ _ hc q=>mul_int q hc.ok
theorem op_fdiv:OpR X (binaryOp .FloorDiv) (rI CDiv fun i j=>.int (i / j)):=opI fun i j _ _ _ _ _ hc q=>by
 have h1:(0:Int) < j:=hc.1
 have h2:j < 1073741824:=hc.2
 exact floordiv_int (by omega) (by rw [Int.fdiv_eq_ediv_of_nonneg i (by omega)];exact q) (.inl (PyProof.noPylong_small (by omega)))
theorem op_mod:OpR X (binaryOp .Mod) (rI (fun _ j=>0 < j) fun i j=>.int (i % j)):=opI fun i j _ _ _ _ _ hc q=>by
 have h1:(0:Int) < j:=hc
 exact mod_int' (by omega) (by rw [Int.fmod_eq_emod_of_nonneg i (by omega)];exact q)
theorem op_pow:OpR X (binaryOp .Pow) (rI CPow fun i j=>.int (i ^ j.toNat)):=opI fun _ _ _ _ _ _ _ hc q=>pow_int_small hc.1 hc.2.1 hc.2.2 q
end
def scal:V->V->Bool
 | .non,.non=>true | .non,.int _=>true | .int _,.non=>true | .non,.bl _=>true | .bl _,.non=>true | .non,.str _=>true | .str _,.non=>true
 | .int _,.int _=>true | .bl _,.bl _=>true | .str _,.str _=>true | .byt _,.byt _=>true
 | .int _,.str _=>true | .str _,.int _=>true | .bl _,.str _=>true | .str _,.bl _=>true
 | _,_=>false
def rEq:R2:=fun x y H Q=>scal x y=true/\Q (.bl (decide (x=y))) H
def rNe:R2:=fun x y H Q=>scal x y=true/\Q (.bl (!decide (x=y))) H
theorem dec_int {i j:Int}:decide (V.int i=V.int j)=(i == j):=by
 rw [Bool.eq_iff_iff]
 simp
theorem dec_bl {i j:Bool}:decide (V.bl i=V.bl j)=(i == j):=by
 rw [Bool.eq_iff_iff]
 simp
theorem dec_str {i j:Str}:decide (V.str i=V.str j)=(i == j):=by
 rw [Bool.eq_iff_iff]
 simp
theorem dec_byt {i j:Array UInt8}:decide (V.byt i=V.byt j)=(i.toList == j.toList):=by
 rw [Bool.eq_iff_iff]
 cases i
 cases j
 simp
section
variable {X:Cx} {a b c:Expr} {ta tb tc:TE} {pos:Pos}
theorem fin_bl {pins:List (Addr × Obj)} {σ:St} {H:Hp} {s:Shared} {Q:VK} {k k':Bool} (I:Inv X pins σ H s) (q:Q (.bl k) H) (e:k=k'):EP X pins σ Q (.bool k') s:=by
 subst e
 exact ⟨.bl k,H,I,rfl,q⟩
theorem op_eq:OpR X (compareOp .Eq) rEq:=by
 intro pins s σ H x y v u Q I rx ry h
 obtain ⟨hs,q⟩:=h
 cases x with
 | non =>
  cases rx
  cases y with
  | non=>cases ry;exact PySem.EqNone.eq_none_none (fin_bl I q (by simp))
  | bl j=>cases ry;exact PySem.EqNone.eq_none_bool (fin_bl I q (by simp))
  | int j=>obtain ⟨t',rfl⟩:=ry;exact PySem.EqNone.eq_none_int (fin_bl I q (by simp))
  | str j=>obtain ⟨t',rfl⟩:=ry;exact PySem.EqNone.eq_none_str (fin_bl I q (by simp))
  | _=>exact absurd (show false=true from hs) Bool.false_ne_true
 | bl i =>
  cases rx
  cases y with
  | non=>cases ry;exact PySem.EqNone.eq_bool_none (fin_bl I q (by simp))
  | bl j=>cases ry;exact eq_bool (fin_bl I q dec_bl)
  | str j=>obtain ⟨t',rfl⟩:=ry;exact PySem.EqMixed.eq_bool_str (fin_bl I q (by simp))
  | _=>exact absurd (show false=true from hs) Bool.false_ne_true
 | int i =>
  obtain ⟨t,rfl⟩:=rx
  cases y with
  | non=>cases ry;exact PySem.EqNone.eq_int_none (fin_bl I q (by simp))
  | int j=>obtain ⟨t',rfl⟩:=ry;exact eq_int (fin_bl I q dec_int)
  | str j=>obtain ⟨t',rfl⟩:=ry;exact PySem.EqMixed.eq_int_str (fin_bl I q (by simp))
  | _=>exact absurd (show false=true from hs) Bool.false_ne_true
 | str i =>
  obtain ⟨t,rfl⟩:=rx
  cases y with
  | non=>cases ry;exact PySem.EqNone.eq_str_none (fin_bl I q (by simp))
  | bl j=>cases ry;exact PySem.EqMixed.eq_str_bool (fin_bl I q (by simp))
  | int j=>obtain ⟨t',rfl⟩:=ry;exact PySem.EqMixed.eq_str_int (fin_bl I q (by simp))
  | str j=>obtain ⟨t',rfl⟩:=ry;exact eq_str (fin_bl I q dec_str)
  | _=>exact absurd (show false=true from hs) Bool.false_ne_true
 | byt i =>
  obtain ⟨t,rfl⟩:=rx
  cases y with
  | byt j=>obtain ⟨t',rfl⟩:=ry;exact PySem.W.eq_bytes (fin_bl I q dec_byt)
  | _=>exact absurd (show false=true from hs) Bool.false_ne_true
 | _=>cases y<;>exact absurd (show false=true from hs) Bool.false_ne_true
theorem op_ne:OpR X (compareOp .NotEq) rNe:=by
 intro pins s σ H x y v u Q I rx ry h
 obtain ⟨hs,q⟩:=h
 cases x with
 | non =>
  cases rx
  cases y with
  | non=>cases ry;exact PySem.EqNone.ne_none_none (fin_bl I q (by simp))
  | bl j=>cases ry;exact PySem.EqNone.ne_none_bool (fin_bl I q (by simp))
  | int j=>obtain ⟨t',rfl⟩:=ry;exact PySem.EqNone.ne_none_int (fin_bl I q (by simp))
  | str j=>obtain ⟨t',rfl⟩:=ry;exact PySem.EqNone.ne_none_str (fin_bl I q (by simp))
  | _=>exact absurd (show false=true from hs) Bool.false_ne_true
 | bl i =>
  cases rx
  cases y with
  | non=>cases ry;exact PySem.EqNone.ne_bool_none (fin_bl I q (by simp))
  | bl j=>cases ry;exact ne_bool (fin_bl I q (congrArg not dec_bl))
  | str j=>obtain ⟨t',rfl⟩:=ry;exact PySem.EqMixed.ne_bool_str (fin_bl I q (by simp))
  | _=>exact absurd (show false=true from hs) Bool.false_ne_true
 | int i =>
  obtain ⟨t,rfl⟩:=rx
  cases y with
  | non=>cases ry;exact PySem.EqNone.ne_int_none (fin_bl I q (by simp))
  | int j=>obtain ⟨t',rfl⟩:=ry;exact ne_int (fin_bl I q (congrArg not dec_int))
  | str j=>obtain ⟨t',rfl⟩:=ry;exact PySem.EqMixed.ne_int_str (fin_bl I q (by simp))
  | _=>exact absurd (show false=true from hs) Bool.false_ne_true
 | str i =>
  obtain ⟨t,rfl⟩:=rx
  cases y with
  | non=>cases ry;exact PySem.EqNone.ne_str_none (fin_bl I q (by simp))
  | bl j=>cases ry;exact PySem.EqMixed.ne_str_bool (fin_bl I q (by simp))
  | int j=>obtain ⟨t',rfl⟩:=ry;exact PySem.EqMixed.ne_str_int (fin_bl I q (by simp))
  | str j=>obtain ⟨t',rfl⟩:=ry;exact ne_str (fin_bl I q (congrArg not dec_str))
  | _=>exact absurd (show false=true from hs) Bool.false_ne_true
 | byt i =>
  obtain ⟨t,rfl⟩:=rx
  cases y with
  | byt j=>obtain ⟨t',rfl⟩:=ry;exact PySem.W.ne_bytes (fin_bl I q (congrArg not dec_byt))
  | _=>exact absurd (show false=true from hs) Bool.false_ne_true
 | _=>cases y<;>exact absurd (show false=true from hs) Bool.false_ne_true
theorem op_lt:OpR X (compareOp .Lt) (rI0 fun i j=>.bl (decide (i < j))):=opB0 fun _ _ _ _ _ _ _ q=>lt_int q
theorem op_le:OpR X (compareOp .LtE) (rI0 fun i j=>.bl (decide (i<=j))):=opB0 fun _ _ _ _ _ _ _ q=>le_int q
theorem op_gt:OpR X (compareOp .Gt) (rI0 fun i j=>.bl (decide (j < i))):=opB0 fun _ _ _ _ _ _ _ q=>gt_int q
theorem op_isN:OpR X (compareOp .Is) (fun x y H Q=>y=.non/\Q (.bl (decide (x=.non))) H):=by
 intro pins s σ H x y v u Q I rx ry h
 obtain ⟨rfl,q⟩:=h
 cases ry
 refine is_none_gen (fin_bl I q ?_)
 cases x<;>first
  | (cases rx;rfl)
  | (obtain ⟨t,rfl⟩:=rx;rfl)
theorem nomark (b:Expr) {op:CmpOp} (h:op≠.In:=by decide) (h2:op≠.NotIn:=by decide):behindInMarks op b=false:=by
 have e1:(op == CmpOp.In)=false:=by cases op<;>first | rfl | exact absurd rfl h
 have e2:(op == CmpOp.NotIn)=false:=by cases op<;>first | rfl | exact absurd rfl h2
 cases b<;>simp [behindInMarks,e1,e2]
theorem pe_cmpR {op:CmpOp} {r:R2} (ho:OpR X (compareOp op) r) (ha:PE X a ta) (hb:PE X b tb) (hm:behindInMarks op b=false):PE X (.Compare a [op] [b] pos) (tOp r ta tb):=by
 intro pins s σ H Q I h
 exact wpAny_Compare1 (binT ha hb I h fun v u s2 x y H2 I2 rx ry q=>ho pins s2 σ H2 x y v u Q I2 rx ry q) hm
def tTest (t:TE):TT:=fun σ H Q=>t σ H fun x H'=>∃ k,x=.bl k/\Q k H'
theorem pt_cmpR {op:CmpOp} {r:R2} (ho:OpR X (compareOp op) r) (ha:PE X a ta) (hb:PE X b tb) (hm:behindInMarks op b=false):PT X (.Compare a [op] [b] pos) (tTest (tOp r ta tb)):=by
 intro pins s σ H Q I h
 refine wpAny_isTrue_Compare1 (thn (ha pins s σ H _ I h) fun v s1 ⟨x,H1,I1,r1,q1⟩=>thn (hb pins s1 σ H1 _ I1 q1) fun u s2 ⟨y,H2,I2,r2,q2⟩ =>
  thn (ho pins s2 σ H2 x y v u _ I2 r1 r2 q2) fun c s3 ⟨z,H3,I3,r3,k,e,q3⟩=>?_) hm
 subst e
 cases r3
 exact wpAny_truthy_bool ⟨H3,I3,q3⟩
def tChain (r r':R2) (ta tb tc:TE):TE:=fun σ H Q=>ta σ H fun x H1=>tb σ H1 fun y H2=>r x y H2 fun z H3=>∃ k,z=.bl k /\
 (if k=true then tc σ H3 fun w' H4=>r' y w' H4 Q else Q (.bl false) H3)
theorem pe_chain {op op':CmpOp} {r r':R2} (ho:OpR X (compareOp op) r) (ho':OpR X (compareOp op') r') (ha:PE X a ta) (hb:PE X b tb) (hc:PE X c tc)
  (hm:lastMarks [op,op'] [b,c]=false:=by with_unfolding_all rfl):PE X (.Compare a [op,op'] [b,c] pos) (tChain r r' ta tb tc):=by
 intro pins s σ H Q I h
 refine Compare_chain (thn (ha pins s σ H _ I h) fun v s1 ⟨x,H1,I1,r1,q1⟩=>chain_link (thn (hb pins s1 σ H1 _ I1 q1) fun u s2 ⟨y,H2,I2,r2,q2⟩ =>
  thn (ho pins s2 σ H2 x y v u _ I2 r1 r2 q2) fun d s3 ⟨z,H3,I3,r3,k,e,q3⟩=>?_)) hm
 subst e
 cases r3
 refine wpAny_truthy_bool ?_
 cases k with
 | false=>exact ite_ff ⟨.bl false,H3,I3,rfl,q3⟩
 | true=>exact ite_tt (chain_last (thn (hc pins s3 σ H3 _ I3 q3) fun w' s4 ⟨z',H4,I4,r4,q4⟩=>ho' pins s4 σ H4 y z' u w' Q I4 r2 r4 q4))
theorem pt_chain {op op':CmpOp} {r r':R2} (ho:OpR X (compareOp op) r) (ho':OpR X (compareOp op') r') (ha:PE X a ta) (hb:PE X b tb) (hc:PE X c tc)
  (hm:lastMarks [op,op'] [b,c]=false:=by with_unfolding_all rfl):PT X (.Compare a [op,op'] [b,c] pos) (tTest (tChain r r' ta tb tc)):=by
 intro pins s σ H Q I h
 refine isTrue_chain (thn (ha pins s σ H _ I h) fun v s1 ⟨x,H1,I1,r1,q1⟩=>test_link (thn (hb pins s1 σ H1 _ I1 q1) fun u s2 ⟨y,H2,I2,r2,q2⟩ =>
  thn (ho pins s2 σ H2 x y v u _ I2 r1 r2 q2) fun d s3 ⟨z,H3,I3,r3,k,e,q3⟩=>?_)) hm
 subst e
 cases r3
 refine wpAny_truthy_bool ?_
 cases k with
 | false =>
  obtain ⟨k',e',q'⟩:=q3
  cases e'
  exact ite_ff ⟨H3,I3,q'⟩
 | true =>
  refine ite_tt (test_last (thn (hc pins s3 σ H3 _ I3 q3) fun w' s4 ⟨z',H4,I4,r4,q4⟩=>thn (ho' pins s4 σ H4 y z' u w' _ I4 r2 r4 q4) fun d' s5 ⟨z2,H5,I5,r5,k2,e2,q5⟩=>?_))
  subst e2
  cases r5
  exact wpAny_truthy_bool ⟨H5,I5,q5⟩
def TruV (K:PySem.W.Frag) (x:V) (H:Hp) (k:Bool):Prop :=
 match x with
 | .non=>k=false
 | .bl b=>k=b
 | .int i=>k=(i != 0)
 | .str y=>y.length<=sizeLine/\k=((y.length:Int) != 0)
 | .byt y=>y.size<=sizeLine/\k=((y.size:Int) != 0)
 | .ref p=>(∃ xs,SqL K H p xs/\k=!xs.isEmpty)\/(∃ xs,SqT K H p xs/\k=!xs.isEmpty)\/∃ kvs,H p=some (.dK kvs)/\k=!kvs.isEmpty
 | _=>False
theorem isEmpty_kv {κ:Type} {kvs:List (κ × V)} {vs:List (κ × Value)} (r:KV kvs vs):(!vs.isEmpty)=!kvs.isEmpty:=by
 cases r<;>rfl
theorem isEmpty_of {xs:List V} {its:List Value} (r:Vals xs its):(!its.toArray.isEmpty)=!xs.isEmpty:=by
 cases r<;>simp
theorem line63:(sizeLine:Nat) < 2 ^ 63:=by rw [sizeLine_eq];decide
theorem tru_ok:TruR X (fun x H Q=>∃ k,TruV X.K x H k/\Q k H):=by
 intro pins s σ H x v Q I rx h
 obtain ⟨k,e,q⟩:=h
 have hl:=line63
 have hs:sizeLine=16777216:=sizeLine_eq
 cases x with
 | non =>
  cases rx
  have e':k=false:=e
  subst e'
  exact truthy_none ⟨H,I,q⟩
 | bl b =>
  cases rx
  have e':k=b:=e
  subst e'
  exact wpAny_truthy_bool ⟨H,I,q⟩
 | int i =>
  obtain ⟨t,rfl⟩:=rx
  have e':k=(i != 0):=e
  subst e'
  exact PySem.P.truthy_int ⟨H,I,q⟩
 | str y =>
  obtain ⟨t,rfl⟩:=rx
  obtain ⟨hy,e'⟩:y.length<=sizeLine/\k=((y.length:Int) != 0):=e
  subst e'
  exact PySem.P.truthy_str (by omega) ⟨H,I.tok _,q⟩
 | byt y =>
  obtain ⟨t,rfl⟩:=rx
  obtain ⟨hy,e'⟩:y.size<=sizeLine/\k=((y.size:Int) != 0):=e
  subst e'
  exact PySem.W.truthy_bytes (by omega) ⟨H,I.tok _,q⟩
 | ref p =>
  cases rx
  have e':(∃ xs,SqL X.K H p xs/\k=!xs.isEmpty)\/(∃ xs,SqT X.K H p xs/\k=!xs.isEmpty)\/∃ kvs,H p=some (.dK kvs)/\k=!kvs.isEmpty:=e
  rcases e' with ⟨xs,hx,e'⟩ | ⟨xs,hx,e'⟩ | ⟨kvs,hx,e'⟩
  ·subst e'
   obtain ⟨its,r,pl,hz⟩:=I.list hx
   have hlen:=r.length
   exact wpAny_truthy_list pl.isList (by simp only [List.size_toArray];omega) ⟨H,I.tok _,by rw [isEmpty_of r];exact q⟩
  ·subst e'
   obtain ⟨its,r,pl,hz⟩:=I.tuple hx
   have hlen:=r.length
   exact truthy_tuple pl (by simp only [List.size_toArray];omega) ⟨H,I.tok _,by rw [isEmpty_of r];exact q⟩
  ·subst e'
   obtain ⟨hz,hS,vs,r,m⟩:kvs.length<=sizeLine/\(p == sysModules)=false/\∃ vs,KV kvs vs/\s.heap.DictOf (mixKind X.prog X.w) p vs:=I.hok p _ hx
   have hlen:kvs.length=vs.length:=Paired.length r
   exact wpAny_truthy_dict hS m (by omega) ⟨H,I.tok _,by rw [isEmpty_kv r];exact q⟩
 | _=>exact (show False from e).elim
theorem pt_truth (ha:PE X a ta) (he:∀ whole,isTrue a X.env whole=(do let v <- whole;standAt a.pos;holding [v] (truthy v))) :
  PT X a (fun σ H Q=>ta σ H fun x H'=>∃ k,TruV X.K x H' k/\Q k H'):=by
 intro pins s σ H Q I h
 exact isTrue_plain (thn (ha pins s σ H _ I h) fun v s1 ⟨x,H1,I1,r1,q1⟩=>tru_ok pins s1 σ H1 x v Q I1 r1 q1) (he _)
theorem vals1 {x:V} {us:List Value} (r:Vals [x] us):∃ u,us=[u]/\RelV x u:=by
 cases r with
 | cons r1 r2=>cases r2;exact ⟨_,rfl,r1⟩
theorem vals2 {x y:V} {us:List Value} (r:Vals [x,y] us):∃ u w',us=[u,w']/\RelV x u/\RelV y w':=by
 cases r with
 | cons r1 r2 =>
  cases r2 with
  | cons r3 r4=>cases r4;exact ⟨_,_,rfl,r1,r3⟩
theorem call_abs:CallR X (.builtin "abs") (fun xs H Q=>∃ i,xs=[.int i]/\Q (.int (if i < 0 then -i else i)) H):=by
 intro pins s σ H xs us Q I r h
 obtain ⟨i,rfl,q⟩:=h
 obtain ⟨u,rfl,t,rfl⟩:=vals1 r
 exact call_abs_int fun u tk=>⟨.int (if i < 0 then -i else i),H,I.tok _,⟨_,rfl⟩,q⟩
theorem call_max2 (hc:X.calm=true):CallR X (.builtin "max") (fun xs H Q=>∃ i j,xs=[.int i,.int j]/\Q (.int (if j > i then j else i)) H):=by
 intro pins s σ H xs us Q I r h
 obtain ⟨i,j,rfl,q⟩:=h
 obtain ⟨u,w',rfl,⟨t,rfl⟩,⟨t',rfl⟩⟩:=vals2 r
 refine max_two_ints (I.ok.hd hc) fun h' tk k=>⟨_,H,I.kept k,?_,q⟩
 by_cases hj:j > i
 ·rw [if_pos hj,if_pos hj];exact ⟨_,rfl⟩
 ·rw [if_neg hj,if_neg hj];exact ⟨_,rfl⟩
theorem call_min2 (hc:X.calm=true):CallR X (.builtin "min") (fun xs H Q=>∃ i j,xs=[.int i,.int j]/\Q (.int (if j < i then j else i)) H):=by
 intro pins s σ H xs us Q I r h
 obtain ⟨i,j,rfl,q⟩:=h
 obtain ⟨u,w',rfl,⟨t,rfl⟩,⟨t',rfl⟩⟩:=vals2 r
 refine min_two_ints (I.ok.hd hc) fun h' tk k=>⟨_,H,I.kept k,?_,q⟩
 by_cases hj:j < i
 ·rw [if_pos hj,if_pos hj];exact ⟨_,rfl⟩
 ·rw [if_neg hj,if_neg hj];exact ⟨_,rfl⟩
end
structure ObjM (h:Heap) (x dx C:Addr) (mA:Str->Option Value):Prop where
 obj:h.get? x=some (PySem.W.instObj C dx)
 ns:h.Ns1 dx mA
 ne:dx≠x
theorem lookIn_ns {h:Heap} {dx:Addr} {mA:Str->Option Value} (n:h.Ns1 dx mA):∃ od,h.get? dx=some od/\∀ name,PySem.W.lookIn name od=some (mA name):=by
 obtain ⟨o,es,ep,ho,hd,hk,_,hm⟩:=n
 refine ⟨o,ho,fun name=>?_⟩
 have e:=hm name
 unfold nsFind findBy at e
 rw [<- Array.find?_toList] at e
 unfold PySem.W.lookIn
 rw [hd]
 dsimp only
 split
 ·rename_i y q
  rw [q] at e
  exact congrArg some e
 ·rename_i q
  rw [q] at e
  have a:es.toList.any (·.refKey)=false:=by
   rw [List.any_eq_false]
   intro y hy
   obtain ⟨z,t,hkey⟩:=hk y (Array.mem_toList_iff.mp hy)
   simp [DictEntry.refKey,hkey]
  have a':¬ es.toList.any (·.refKey)=true:=by rw [a];exact Bool.false_ne_true
  rw [if_neg a']
  exact congrArg some e
theorem ObjM.look {h:Heap} {x dx C:Addr} {mA:Str->Option Value} (I:ObjM h x dx C mA):∃ od,PySem.W.InstAt h x (PySem.W.instObj C dx) C (some od)/\∀ name,PySem.W.lookIn name od=some (mA name) :=
 let ⟨od,ho,hl⟩:=lookIn_ns I.ns
 ⟨od,⟨I.obj,rfl,rfl,ho⟩,hl⟩
section
variable {prog:Program} {w:World} {A:Around} {E:Value->Shared->Prop} {s:Shared} {K:PySem.W.Frag} {x dx C f:Addr} {mA:Str->Option Value} {name:Str} {v:Value}
theorem get_map {expr:Bool} {Q:Value->Shared->Prop} (X:K.In s.heap) (I:ObjM s.heap x dx C mA) (hg:PySem.W.plainGet K C name=true) (hh:PySem.W.hasDictIn K C=true)
  (ha:W.findIn K (.ref C) name=some none) (hv:mA name=some v) (hv':W.handedIn v=true) (h:Q v { s with toks:=s.toks+1 }) :
  wpAny (model prog w) A (getAttr (.ref x) name expr) Q E s:=by
 obtain ⟨od,J,hl⟩:=I.look
 exact PySem.W.get_value X J (PySem.W.plainGet_of hg).1 (PySem.W.findObj_own hh ha rfl (by rw [hl,hv])) hv' h
theorem get_meth {pl:Sem Bool} {Q:Value × List Value->Shared->Prop} (X:K.In s.heap) (I:ObjM s.heap x dx C mA) (hg:PySem.W.plainGet K C name=true)
  (hf:W.findIn K (.ref C) name=some (some (.ref f))) (ht:W.isFn K (.ref f)=true) (hv:mA name=none) (h:Q (.ref f,[.ref x]) s) :
  wpAny (model prog w) A (getMethod (.ref x) name pl) Q E s:=by
 obtain ⟨od,J,hl⟩:=I.look
 exact PySem.W.method_fn X J (PySem.W.plainGet_of hg).1 (PySem.W.plainGet_of hg).2 hf (beq_iff_eq.mp ht) (by show (PySem.W.lookIn name od).map (·.isSome)=some false;rw [hl,hv];rfl) h
theorem set_map {ns:List Str} {Q:Unit->Shared->Prop} (X:K.In s.heap) (I:ObjM s.heap x dx C mA)
  (hs:W.findIn K (.ref C) "__setattr__" = some (some (.builtin "object.__setattr__"))) (hp:W.plainOver K C=true) (ht:W.takerIn K C name=some none) (hh:W.hasDictIn K C=true)
  (hw:PySem.Within mA ns) (hsz:ns.length<=sizeLine)
  (h:∀ h',ObjM h' x dx C (fun y=>if y=name then some v else mA y)->Heap.SameBut dx s.heap h'->Q () { s with heap:=h',toks:=s.toks+2 }) :
  wpAny (model prog w) A (setAttr (.ref x) name v) Q E s:=by
 obtain ⟨od,J,hl⟩:=I.look
 refine PySem.W.set_plain X J hs (PySem.W.osa_open (s:={ s with toks:=s.toks+1 }) (r:=none) X J hp ht fun b=>?_)
 obtain ⟨cd,hc,hd'⟩:=PySem.W.any_some hh
 have hx:s.heap.get? x=some ⟨.ref C,some dx,.plain,#[]⟩:=I.obj
 refine wpAny_bind (wpAny_pure (wpAny_bind (wpAny_bind (wpAny_loadPart hx (wpAny_bind (PySem.W.Looks.here (s:={ s with toks:=s.toks+1 }) (PySem.W.looks_clsIn X hc) ?_))))))
 rw [hd']
 refine wpAny_pure (a:=some dx) (wpAny_bind (wpAny_pure (wpAny_bind ?_)))
 refine wpAny_nsSet1 (s:={ s with toks:=s.toks+1 }) I.ns fun h' hn2 hs2=>?_
 obtain ⟨oD,esD,epD,hoD,hdD,hcD⟩:=hn2.count (PySem.Within.cons name v hw)
 refine wpAny_bind (wpAny_lookBehind hoD (by rw [hdD];exact pastItsLine_dict (Nat.le_trans hcD (by rw [List.length_cons];omega))) ?_)
 exact wpAny_pure (h _ ⟨(hs2.2 _ (Ne.symm I.ne)).trans I.obj,hn2,I.ne⟩ hs2)
theorem make_map {R:Result->Shared->Prop} {vs:List Value} {kw:List (Str × Value)} (X:K.In s.heap) (hm:PySem.W.makesIn K C=true)
  (hi:W.findIn K (.ref C) "__init__" = some (some (.ref f))) (hf:W.typeIn K (.ref f)=some (.type "function"))
  (h:codeAny (model prog w) (A.under (.builtin "type.__call__" ⟨.ref C::vs,kw⟩)) (.call (.ref f) ⟨.ref (s.heap.objs.size+1)::vs,kw⟩) (PySem.W.InitBack (s.heap.objs.size+1) R)
   { s with heap:=(s.heap.push PySem.W.emptyDict).push (PySem.W.instObj C s.heap.objs.size) }) :
  codeAny (model prog w) A (.call (.ref C) ⟨vs,kw⟩) R s:=by
 obtain ⟨hh,g,d,t,os⟩:=s
 exact PySem.W.make_core (PySem.W.makes_of X hm) (PySem.W.looks_findIn X hi) (fun self=>PySem.W.bind_fn X self hf) (.inl rfl) h
end
def putF (f:Str) (v:V):List (Str × V)->List (Str × V)
 | []=>[(f,v)]
 | (g,x)::r=>if g=f then (g,v)::r else (g,x)::putF f v r
theorem lookup_putF (f g:Str) (v:V):∀ fs:List (Str × V),(putF f v fs).lookup g=if g=f then some v else fs.lookup g
 | []=>by
  show List.lookup g [(f,v)]=_
  by_cases h:g=f
  ·have hb:(g == f)=true:=beq_iff_eq.mpr h
   simp only [List.lookup,hb,if_pos h]
  ·have hb:(g == f)=false:=beq_eq_false_iff_ne.mpr h
   simp only [List.lookup,hb,if_neg h]
 | (k,x)::r=>by
  have ih:=lookup_putF f g v r
  rw [show putF f v ((k,x)::r)=(if k=f then (k,v)::r else (k,x)::putF f v r) from rfl]
  by_cases hk:k=f
  ·rw [if_pos hk]
   by_cases h:g=k
   ·have hb:(g == k)=true:=beq_iff_eq.mpr h
    simp only [List.lookup,hb,if_pos (h.trans hk)]
   ·have hb:(g == k)=false:=beq_eq_false_iff_ne.mpr h
    simp only [List.lookup,hb,if_neg (fun e:g=f=>h (e.trans hk.symm))]
  ·rw [if_neg hk]
   by_cases h:g=k
   ·have hb:(g == k)=true:=beq_iff_eq.mpr h
    simp only [List.lookup,hb,if_neg (fun e:g=f=>hk (h.symm.trans e))]
   ·have hb:(g == k)=false:=beq_eq_false_iff_ne.mpr h
    simp only [List.lookup,hb]
    exact ih
theorem keys_putF (f:Str) (v:V):∀ fs:List (Str × V),f∈(putF f v fs).map (·.1)/\∀ g,g∈fs.map (·.1)->g∈(putF f v fs).map (·.1)
 | []=>⟨by simp [putF],fun g h=>by simp at h⟩
 | (k,x)::r=>by
  obtain ⟨i1,i2⟩:=keys_putF f v r
  rw [show putF f v ((k,x)::r)=(if k=f then (k,v)::r else (k,x)::putF f v r) from rfl]
  by_cases hk:k=f
  ·rw [if_pos hk]
   subst hk
   exact ⟨by simp,fun g h=>by simpa using h⟩
  ·rw [if_neg hk]
   refine ⟨?_,fun g h=>?_⟩
   ·rw [List.map_cons]
    exact List.mem_cons_of_mem _ i1
   ·rw [List.map_cons] at h ⊢
    rcases List.mem_cons.mp h with e | e
    ·exact List.mem_cons.mpr (.inl e)
    ·exact List.mem_cons_of_mem _ (i2 g e)
theorem length_putF (f:Str) (v:V):∀ fs:List (Str × V),(putF f v fs).length<=fs.length+1
 | []=>by simp [putF]
 | (k,x)::r=>by
  have ih:=length_putF f v r
  rw [show putF f v ((k,x)::r)=(if k=f then (k,v)::r else (k,x)::putF f v r) from rfl]
  by_cases hk:k=f
  ·rw [if_pos hk,List.length_cons,List.length_cons];omega
  ·rw [if_neg hk,List.length_cons,List.length_cons];omega
theorem RelO.some_of {v:V} {o:Option Value} (r:RelO (some v) o):∃ u,o=some u/\RelV v u:=by
 cases o with
 | none=>exact (show False from r).elim
 | some u=>exact ⟨u,rfl,r⟩
theorem RelO.none_of {o:Option Value} (r:RelO none o):o=none:=by
 cases o with
 | none=>rfl
 | some u=>exact (show False from r).elim
theorem handed_of {v:V} {u:Value} (r:RelV v u):PySem.W.handedIn u=true:=by
 cases v with
 | non=>cases (show u=Value.none from r);rfl
 | bl b=>cases (show u=Value.bool b from r);rfl
 | int i=>obtain ⟨t,e⟩:=(show ∃ t,u=Value.int i t from r);cases e;rfl
 | str x=>obtain ⟨t,e⟩:=(show ∃ t,u=Value.str x t from r);cases e;rfl
 | byt b=>obtain ⟨t,e⟩:=(show ∃ t,u=Value.bytes b t from r);cases e;rfl
 | flt b=>obtain ⟨t,e⟩:=(show ∃ t,u=Value.float b t from r);cases e;rfl
 | ref a=>cases (show u=Value.ref a from r);rfl
 | ty n=>cases (show u=Value.type n from r);rfl
section
variable {P:Program} {w:World} {H H':Hp} {h h':Heap} {a C dx:Addr} {fs fs':List (Str × V)}
theorem ins_get (hok:HOk P w H h) (e:H a=some (.ins C dx fs)):∃ mA,ObjM h a dx C mA/\(∀ f,RelO (fs.lookup f) (mA f))/\PySem.Within mA (fs.map (·.1))/\fs.length<=1000/\H dx=some (.own a):=by
 obtain ⟨d,z,ne,ob,mA,n,r,q⟩:=(show ObjOk P w H h a (.ins C dx fs) from hok a _ e)
 exact ⟨mA,⟨ob,n,ne⟩,r,q,z,d⟩
end
structure Cls (K:PySem.W.Frag) (C:Addr):Prop where
 pg:PySem.W.plainGet K C Str.empty=true
 hd:PySem.W.hasDictIn K C=true
 po:PySem.W.plainOver K C=true
 sa:PySem.W.findIn K (.ref C) "__setattr__" = some (some (.builtin "object.__setattr__"))
theorem Cls.get {K:PySem.W.Frag} {C:Addr} (c:Cls K C) (f:Str):PySem.W.plainGet K C f=true:=c.pg
def NoAttr (K:PySem.W.Frag) (C:Addr) (f:Str):Prop:=PySem.W.findIn K (.ref C) f=some none
theorem NoAttr.taker {K:PySem.W.Frag} {C:Addr} {f:Str} (n:NoAttr K C f):PySem.W.takerIn K C f=some none:=by
 unfold PySem.W.takerIn
 rw [show PySem.W.findIn K (.ref C) f=some none from n]
 rfl
structure Meth (K:PySem.W.Frag) (C:Addr) (m:Str) (f:Addr):Prop where
 at_:PySem.W.findIn K (.ref C) m=some (some (.ref f))
 fn:PySem.W.isFn K (.ref f)=true
 kp:PySem.W.keepIn K (.ref f)=true
section
variable {X:Cx} {pins:List (Addr × Obj)} {σ:St} {H:Hp} {s:Shared} {a C dx:Addr} {fs:List (Str × V)} {f:Str} {v:V} {A:Around} {E:Value->Shared->Prop}
theorem getattr_ok {b:Bool} {Q:Value->Shared->Prop} (I:Inv X pins σ H s) (e:H a=some (.ins C dx fs)) (c:Cls X.K C) (n:NoAttr X.K C f) (l:fs.lookup f=some v)
  (h:∀ u s',Inv X pins σ H s'->RelV v u->Q u s'):wpAny (model X.prog X.w) A (getAttr (.ref a) f b) Q E s:=by
 obtain ⟨mA,O,r,_,_,_⟩:=ins_get I.hok e
 obtain ⟨u,hu,ru⟩:=RelO.some_of (v:=v) (o:=mA f) (by rw [<- l];exact r f)
 exact get_map I.kIn O (c.get f) c.hd n hu (handed_of ru) (h u _ (I.tok _) ru)
theorem getmeth_ok {m:Str} {g:Addr} {pl:Sem Bool} {Q:Value × List Value->Shared->Prop} (I:Inv X pins σ H s) (e:H a=some (.ins C dx fs)) (c:Cls X.K C) (k:Meth X.K C m g) (l:fs.lookup m=none)
  (h:Q (.ref g,[.ref a]) s):wpAny (model X.prog X.w) A (getMethod (.ref a) m pl) Q E s:=by
 obtain ⟨mA,O,r,_,_,_⟩:=ins_get I.hok e
 have hn:mA m=none:=RelO.none_of (by rw [<- l];exact r m)
 exact get_meth I.kIn O (c.get m) k.at_ k.fn hn h
theorem setattr_ok {y:V} {u:Value} {Q:Unit->Shared->Prop} (I:Inv X pins σ H s) (e:H a=some (.ins C dx fs)) (c:Cls X.K C) (n:NoAttr X.K C f) (hl:fs.length < 1000) (ry:RelV y u)
  (h:∀ s',Inv X pins σ (upd H a (.ins C dx (putF f y fs))) s'->Q () s'):wpAny (model X.prog X.w) A (setAttr (.ref a) f u) Q E s:=by
 obtain ⟨mA,O,r,wi,_,ho⟩:=ins_get I.hok e
 have hz:(fs.map (·.1)).length<=sizeLine:=by rw [List.length_map,sizeLine_eq];omega
 refine set_map I.kIn O c.sa c.po n.taker c.hd wi hz fun h' O' sb=>h _ ?_
 have hd:∃ o,h'.get? dx=some o:=let ⟨o,_,_,e',_⟩:=O'.ns;⟨o,e'⟩
 refine I.write (x:=a) (e:=dx) (by rw [e];exact True.intro) (.inr ho) (fun b q hb z=>(sb.2 b hb).trans z) hd ?_
 refine ⟨by rw [upd_ne O.ne];exact ho,?_,O.ne,O'.obj,_,O'.ns,fun g=>?_,fun g hg=>?_⟩
 ·have:=length_putF f y fs;omega
 ·show RelO ((putF f y fs).lookup g) (if g=f then some u else mA g)
  rw [lookup_putF]
  by_cases q:g=f
  ·rw [if_pos q,if_pos q];exact ry
  ·rw [if_neg q,if_neg q];exact r g
 ·by_cases q:g=f
  ·rw [q];exact (keys_putF f y fs).1
  ·refine (keys_putF f y fs).2 g (wi g fun z=>hg ?_)
   show (if g=f then some u else mA g)=none
   rw [if_neg q];exact z
theorem Inv.made (I:Inv X pins σ H s):Inv X pins σ (upd (upd H s.heap.objs.size (.own (s.heap.objs.size+1))) (s.heap.objs.size+1) (.ins C s.heap.objs.size []))
  { s with heap:=(s.heap.push PySem.W.emptyDict).push (PySem.W.instObj C s.heap.objs.size) }:=by
 have e1:(s.heap.push PySem.W.emptyDict).get? s.heap.objs.size=some PySem.W.emptyDict:=Heap.get?_push_size s.heap rfl
 have e2:((s.heap.push PySem.W.emptyDict).push (PySem.W.instObj C s.heap.objs.size)).get? (s.heap.objs.size+1)=some (PySem.W.instObj C s.heap.objs.size):=by
  have:=Heap.get?_push_size (s.heap.push PySem.W.emptyDict) (o:=PySem.W.instObj C s.heap.objs.size) rfl
  rwa [Heap.size_push] at this
 have e3:(s.heap.push PySem.W.emptyDict).Ns s.heap.objs.size (fun _=>none):=⟨PySem.W.emptyDict,#[],_,e1,rfl,(fun e he=>absurd he (by simp)),fun _=>rfl⟩
 have I1:=I.laid (a:=s.heap.objs.size) (o:=.own (s.heap.objs.size+1)) (h':=s.heap.push PySem.W.emptyDict) (t':=s.toks) (fun b u q=>Heap.get?_push_of_some _ q) (Nat.le_refl _) ⟨_,e1⟩
 refine I1.laid (a:=s.heap.objs.size+1) (o:=.ins C s.heap.objs.size []) (t':=s.toks) (fun b u q=>Heap.get?_push_of_some _ q) (Nat.le_of_eq (Heap.size_push _ _)) ?_
 have ne:s.heap.objs.size≠s.heap.objs.size+1:=Nat.ne_of_lt (Nat.lt_succ_self _)
 refine ⟨by rw [upd_ne ne,upd_same],Nat.zero_le _,ne,e2,fun _=>none,(Heap.Ns1.of_empty e3).at fun o q=>Heap.get?_push_of_some _ q,fun _=>True.intro,fun y hy=>absurd rfl hy⟩
theorem attr_of {prog:Program} {w:World} {env:Env} {e:Expr} {f:Str} {pos:Pos} {s:Shared} {Q:Value->Shared->Prop} (hb:attributeBase e f env (eval e env)=eval e env)
  (h:wpAny (model prog w) A (eval e env) (fun o s₁=>wpAny (model prog w) A (getAttr o f true) Q E s₁) E s):wpAny (model prog w) A (eval (.Attribute e f pos) env) Q E s :=
 Attribute_any_ h (by rw [arm_eval_Attribute,hb])
end
def tFld (K:PySem.W.Frag) (ta:TE) (f:Str):TE:=fun σ H Q=>ta σ H fun x H1=>∃ a C dx fs v,x=.ref a/\H1 a=some (.ins C dx fs)/\Cls K C/\NoAttr K C f/\fs.lookup f=some v/\Q v H1
def sFld (K:PySem.W.Frag) (ta tv:TE) (f:Str):TS:=fun D σ H=>tv σ H fun y H1=>ta σ H1 fun x H2=>∃ a C dx fs,x=.ref a/\H2 a=some (.ins C dx fs)/\Cls K C/\NoAttr K C f/\fs.length < 1000 /\
 D.nx σ (upd H2 a (.ins C dx (putF f y fs)))
section
variable {X:Cx} {o e value:Expr} {f:Str} {pos pos' tpos:Pos} {ta tv:TE}
theorem pe_fld (he:PE X e ta) (hb:attributeBase e f X.env (eval e X.env)=eval e X.env):PE X (.Attribute e f pos) (tFld X.K ta f):=by
 intro pins s σ H Q I h
 refine attr_of hb (thn (he pins s σ H _ I h) fun u s1 ⟨x,H1,I1,rx,a,C,dx,fs,v,ex,ea,c,n,l,q⟩=>?_)
 subst ex
 obtain rfl:u=Value.ref a:=rx
 exact getattr_ok I1 ea c n l fun u' s2 I2 ru=>⟨v,H1,I2,ru,q⟩
theorem ps_fld (ha:PE X o ta) (hv:PE X value tv) (hs:swapsWith value (some (.Attribute o f pos')) pos.line X.env=pure false):PS X (.Assign [.Attribute o f pos'] value pos) (sFld X.K ta tv f):=by
 intro pins s σ H D I h
 refine plainObj_wpAny_Assign_Attribute (thn (hv pins s σ H _ I h) fun u s1 ⟨y,H1,I1,ry,q⟩=>thn (ha pins s1 σ H1 _ I1 q) fun ov s2 ⟨x,H2,I2,rx,a,C,dx,fs,ex,ea,c,n,l,q2⟩=>?_) hs
 subst ex
 obtain rfl:ov=Value.ref a:=rx
 exact setattr_ok I2 ea c n l ry fun s3 I3=>⟨σ,_,I3,q2⟩
end
section
variable {X:Cx} {pins:List (Addr × Obj)} {σ:St} {H:Hp} {s:Shared} {A:Around} {E:Value->Shared->Prop} {Q:Value->Shared->Prop} {c:Value} {b:Bool}
inductive TyOf (K:PySem.W.Frag) (H:Hp):V->Value->Prop where
 | non:TyOf K H .non (.type "NoneType")
 | bl (x:Bool):TyOf K H (.bl x) (.type "bool")
 | int (i:Int):TyOf K H (.int i) (.type "int")
 | str (x:Str):TyOf K H (.str x) (.type "str")
 | flt (x:UInt64):TyOf K H (.flt x) (.type "float")
 | lst {a:Addr} {xs:List V} (e:H a=some (.lst xs)):TyOf K H (.ref a) (.type "list")
 | frz {a:Addr} {o:Obj} {xs:List V} (e:H a=some (.frz o (.lst xs))):TyOf K H (.ref a) (.type "list")
 | tup {a:Addr} {xs:List V} (e:H a=some (.tup xs)):TyOf K H (.ref a) (.type "tuple")
 | dK {a:Addr} {kvs:List (Key × V)} (e:H a=some (.dK kvs)):TyOf K H (.ref a) (.type "dict")
 | dT {a:Addr} {kvs:List (List Key × V)} (e:H a=some (.dT kvs)):TyOf K H (.ref a) (.type "dict")
 | ins {a C dx:Addr} {fs:List (Str × V)} (e:H a=some (.ins C dx fs)) (cl:Cls K C) (ha:PySem.W.findIn K (.ref C) "__class__" = some (some (.builtin "object.__class__")))
   (hn:PySem.W.specialIn K (.builtin "object.__class__") "__get__" = some (some (.builtin "getset_descriptor.__get__"))) (htk:PySem.W.takesIn K (.builtin "object.__class__")=some true)
   (hm:PySem.W.mroIn K C (.type "object")=some true):TyOf K H (.ref a) (.ref C)
theorem isinst_ok {x:V} {u t:Value} (I:Inv X pins σ H s) (rx:RelV x u) (ty:TyOf X.K H x t) (e:PySem.W.kitOne X.K t c=some b) (h:∀ tk,Q (.bool b) { s with toks:=tk }) :
  wpAny (model X.prog X.w) A (call (.builtin "isinstance") [u,c]) Q E s:=by
 cases ty with
 | non=>cases (show u=Value.none from rx);exact PySem.W.kia_one PySem.W.kitx_none I.kIn True.intro e (fun z=>nomatch z) h
 | bl y=>cases (show u=Value.bool y from rx);exact PySem.W.kia_one PySem.W.kitx_bool I.kIn True.intro e (fun z=>nomatch z) h
 | int i=>obtain ⟨t,q⟩:=(show ∃ t,u=Value.int i t from rx);cases q;exact PySem.W.kia_one PySem.W.kitx_int I.kIn True.intro e (fun z=>nomatch z) h
 | str y=>obtain ⟨t,q⟩:=(show ∃ t,u=Value.str y t from rx);cases q;exact PySem.W.kia_one PySem.W.kitx_str I.kIn True.intro e (fun z=>nomatch z) h
 | flt y=>obtain ⟨t,q⟩:=(show ∃ t,u=Value.float y t from rx);cases q;exact PySem.W.kia_one PySem.W.kitx_float I.kIn True.intro e (fun z=>nomatch z) h
 | @lst a xs ea =>
  cases (show u=Value.ref a from rx)
  obtain ⟨_,_,n,_,h1⟩:=(show ObjOk X.prog X.w H s.heap a (.lst xs) from I.hok a _ ea)
  exact PySem.W.kia_one PySem.W.kitx_list I.kIn ⟨_,h1,rfl⟩ e (fun z=>nomatch z) h
 | @frz a ob xs ea =>
  cases (show u=Value.ref a from rx)
  obtain ⟨_,_,_,n,_,h1⟩:=(show ObjOk X.prog X.w H s.heap a (.frz ob (.lst xs)) from I.hok a _ ea)
  exact PySem.W.kia_one PySem.W.kitx_list I.kIn ⟨_,h1,rfl⟩ e (fun z=>nomatch z) h
 | @tup a xs ea =>
  cases (show u=Value.ref a from rx)
  obtain ⟨_,_,_,p⟩:=(show ObjOk X.prog X.w H s.heap a (.tup xs) from I.hok a _ ea)
  obtain ⟨o,h1,h2,_⟩:=p
  exact PySem.W.kia_one PySem.W.kitx_tuple I.kIn ⟨o,h1,h2⟩ e (fun z=>nomatch z) h
 | @dK a kvs ea =>
  cases (show u=Value.ref a from rx)
  obtain ⟨_,_,vs,_,p⟩:=(show ObjOk X.prog X.w H s.heap a (.dK kvs) from I.hok a _ ea)
  obtain ⟨o,es,ep,h1,h2,_⟩:=p
  exact PySem.W.kia_one PySem.W.kitx_dict I.kIn ⟨o,h1,h2.1⟩ e (fun z=>nomatch z) h
 | @dT a kvs ea =>
  cases (show u=Value.ref a from rx)
  obtain ⟨_,_,xs,_,o,es,ep,h1,h2,_⟩:=(show ObjOk X.prog X.w H s.heap a (.dT kvs) from I.hok a _ ea)
  exact PySem.W.kia_one PySem.W.kitx_dict I.kIn ⟨o,h1,h2.1⟩ e (fun z=>nomatch z) h
 | @ins a C dx fs ea cl ha hn htk hm =>
  cases (show u=Value.ref a from rx)
  obtain ⟨mA,O,_⟩:=ins_get I.hok ea
  obtain ⟨od,J,_⟩:=O.look
  exact PySem.W.kia_one (PySem.W.kitx_own (cl.get _) cl.hd ha hn htk hm) I.kIn J e (fun z=>nomatch z) h
end
structure Room (k:Nat) (A:Around):Prop where
 hd:A.handled=none
 dp:A.depth+3 * k+5 < recursionLimit
 un:A.units+16 * k+200 < cLine
 gd:A.guards=some []
theorem Room.mono {j k:Nat} {A:Around} (r:Room k A) (h:j<=k):Room j A:=⟨r.hd,by have:=r.dp;omega,by have:=r.un;omega,r.gd⟩
theorem Room.deeper {k:Nat} {A:Around} (r:Room (k+1) A) (env:Env):Room k (A.deeper env) :=
 ⟨r.hd,by have:=r.dp;show A.depth+1+3 * k+5 < _;omega,by have:=r.un;show A.units+3+16 * k+200 < _;omega,r.gd⟩
theorem make_guards {A:Around} {C:Addr} {us:List Value} {kw:List (Str × Value)} (h:A.guards=some []):(A.under (.builtin "type.__call__" ⟨.ref C::us,kw⟩)).guards=some []:=by
 have e:(Code.builtin "type.__call__" ⟨.ref C::us,kw⟩).isGuard=false:=by first | rfl | simp [Code.isGuard,guardIds]
 have q:∀ c:Code,(A.under c).guards=pushGuards c.guards A.guards:=fun _=>rfl
 rw [q,h,Code.guards,e]
 rfl
theorem make_depth {A:Around} {C:Addr} {us:List Value} {kw:List (Str × Value)}:(A.under (.builtin "type.__call__" ⟨.ref C::us,kw⟩)).depth=A.depth+1:=by
 first | rfl | simp [Around.under,Code.weight,Code.isCreation,Code.isGuard,Code.isCaller,Code.frames,Code.isFrame,guardIds]
theorem make_units {A:Around} {C:Addr} {us:List Value} {kw:List (Str × Value)}:(A.under (.builtin "type.__call__" ⟨.ref C::us,kw⟩)).units=A.units+1:=by
 first | rfl | simp [Around.under,Code.cUnits,Code.frames,Code.isFrame]
theorem Room.make {k:Nat} {A:Around} (r:Room (k+1) A) (C:Addr) (us:List Value) (kw:List (Str × Value)):Room k (A.under (.builtin "type.__call__" ⟨.ref C::us,kw⟩)) :=
 ⟨r.hd,by have:=r.dp;rw [make_depth];omega,by have:=r.un;rw [make_units];omega,make_guards r.gd⟩
theorem Room.depth {k:Nat} {A:Around} (r:Room k A):A.depth < recursionLimit:=by have:=r.dp;omega
theorem Room.units {k:Nat} {A:Around} (r:Room k A):A.units+64 < cLine:=by have:=r.un;omega
def tNil:TA:=fun _ H Q=>Q [] H
def tCons (ta:TE) (tr:TA):TA:=fun σ H Q=>ta σ H fun x H1=>tr σ H1 fun xs H2=>Q (x::xs) H2
section
variable {X:Cx} {e:Expr} {es:List Expr} {te:TE} {t:TA} {pos:Pos}
theorem pa_nil:PA X [] tNil:=fun _ _ _ _ H Q I h=>Calls.spliced_nil ⟨[],H,I,.nil,h⟩
theorem pa_cons (ha:PE X e te) (hr:PA X es t) (hs:starEach (e::es) X.env=(false,eval e X.env)::starEach es X.env:=by rfl):PA X (e::es) (tCons te t):=by
 intro pos pins s σ H Q I h
 rw [hs]
 show wpAny _ _ (spliced ((false,eval e X.env)::backTo pos (starEach es X.env))) _ _ s
 refine Calls.spliced_cons (thn (ha pins s σ H _ I h) fun u s1 ⟨x,H1,I1,r1,q1⟩=>?_)
 exact thn (hr pos pins s1 σ H1 _ I1 q1) fun us s2 ⟨xs,H2,I2,r2,q2⟩=>⟨x::xs,H2,I2,.cons r1 r2,q2⟩
def tTup (t:TA):TE:=fun σ H Q=>t σ H fun xs H1=>xs.length<=sizeLine/\∀ p,H1 p=none->Q (.ref p) (upd H1 p (.tup xs))
def tLst (t:TA):TE:=fun σ H Q=>t σ H fun xs H1=>xs.length<=sizeLine/\∀ p,H1 p=none->Q (.ref p) (upd H1 p (.lst xs))
theorem pe_tup {x1} (h:PA X es t):PE X (.Tuple es x1 pos) (tTup t):=by
 intro pins s σ H Q I hq
 refine wpAny_Tuple_spliced (thn (h pos pins s σ H _ I hq) fun us s1 ⟨xs,H1,I1,r,z,q⟩=>⟨by rw [<- r.length];exact z,?_⟩)
 have hf:H1 s1.heap.objs.size=none:=I1.hok.fresh (Nat.le_refl _)
 refine ⟨.ref s1.heap.objs.size,upd H1 s1.heap.objs.size (.tup xs),I1.laid (t':=s1.toks) (fun b u e=>Heap.get?_push_of_some _ e) (Nat.le_refl _) ?_,rfl,q _ hf⟩
 exact ⟨z,us,r,⟨_,Heap.get?_push_size _ rfl,rfl,_,rfl⟩⟩
theorem pe_lst (h:PA X es t):PE X (.List es pos) (tLst t):=by
 intro pins s σ H Q I hq
 refine wpAny_List_spliced (thn (h pos pins s σ H _ I hq) fun us s1 ⟨xs,H1,I1,r,z,q⟩=>⟨by rw [<- r.length];exact z,?_⟩)
 have hf:H1 s1.heap.objs.size=none:=I1.hok.fresh (Nat.le_refl _)
 refine ⟨.ref s1.heap.objs.size,upd H1 s1.heap.objs.size (.lst xs),I1.laid (t':=s1.toks) (fun b u e=>Heap.get?_push_of_some _ e) (Nat.le_refl _) ?_,rfl,q _ hf⟩
 exact ⟨z,us,0,r,Heap.get?_push_size _ rfl⟩
end
abbrev Sp:=List V->Hp->VK->XK->Prop
abbrev CXT:=List Env->Hp->Shared->XK->Value->Shared->Prop
structure Env0 (P:Program) (w:World) (K:PySem.W.Frag) (mg:Str->Option Value) (base:Heap) (A:Around) (outer:List Env) (s:Shared) (H:Hp):Prop where
 frames:A.frames=some outer
 mod:Mod K mg base
 bs:∀ b o,base.get? b=some o->s.heap.get? b=some o/\H b=none
 bsz:base.objs.size<=s.heap.objs.size
 funs:s.heap.FunFrames base outer
 frf:∀ b∈frs outer,H b=none
 hok:HOk P w H s.heap
 bare:AllBare s.gens
def CE (outer:List Env) (P:Program) (w:World) (H:Hp) (s:Shared) (Q:VK) (u:Value) (s':Shared):Prop :=
 ∃ v H',s'.os=s.os/\AllBare s'.gens/\Un (frs outer) [] H H' s.heap s'.heap/\HOk P w H' s'.heap/\RelV v u/\Q v H'
def CR (CX:CXT) (outer:List Env) (P:Program) (w:World) (H:Hp) (s:Shared) (Q:VK) (E:XK) (r:Result) (s':Shared):Prop :=
 match r with
 | .ok (.ret u)=>CE outer P w H s Q u s'
 | .ok _=>False
 | .error e=>CX outer H s E e s'
structure FnOk (P:Program) (w:World) (K:PySem.W.Frag) (mg:Str->Option Value) (base:Heap) (CX:CXT) (k:Nat) (f:Addr) (fd:FuncData) (ps:List Str) (sp:Sp):Prop where
 len:∀ vs H Q E,sp vs H Q E->vs.length=ps.length
 run:∀ (A:Around) (outer:List Env) (s:Shared) (H:Hp) (args:Args) (us:List Value) (vs:List V) (Q:VK) (E:XK),Room k A->Env0 P w K mg base A outer s H->BindsTo s fd args (ps.zip us)->Vals vs us->sp vs H Q E ->
  codeAny (model P w) A (.call (.ref f) args) (CR CX outer P w H s Q E) s
theorem FnOk.mono {P:Program} {w:World} {K:PySem.W.Frag} {mg:Str->Option Value} {base:Heap} {CX:CXT} {j k:Nat} {f:Addr} {fd:FuncData} {ps:List Str} {sp:Sp} (F:FnOk P w K mg base CX j f fd ps sp) (h:j<=k) :
  FnOk P w K mg base CX k f fd ps sp:=⟨F.len,fun A outer s H args us vs Q E hr=>F.run A outer s H args us vs Q E (hr.mono h)⟩
theorem Env0.make {P:Program} {w:World} {K:PySem.W.Frag} {mg:Str->Option Value} {base:Heap} {A:Around} {outer:List Env} {s:Shared} {H:Hp} (e:Env0 P w K mg base A outer s H) (C:Addr) (us:List Value) (kw:List (Str × Value)) :
  Env0 P w K mg base (A.under (.builtin "type.__call__" ⟨.ref C::us,kw⟩)) outer s H:=⟨by first | exact e.frames | (simpa [Around.under,Code.envs,Code.isFrame,pushEnvs] using e.frames),e.mod,e.bs,e.bsz,e.funs,e.frf,e.hok,e.bare⟩
section
variable {X:Cx} {pins:List (Addr × Obj)} {σ:St} {H:Hp} {s s':Shared}
theorem Inv.env0 (I:Inv X pins σ H s):Env0 X.prog X.w X.K X.mg X.base X.A X.stack s H :=
 ⟨I.ok.frames,I.ok.mod,I.bs,Nat.le_trans I.ok.bsz I.sz,I.stack,I.stkFree,I.hok,I.bare⟩
theorem Inv.after {Q:VK} {u:Value} (I:Inv X pins σ H s) (h:CE X.stack X.prog X.w H s Q u s'):EP X pins σ Q u s':=by
 obtain ⟨v,H',os,bare,un,hok,r,q⟩:=h
 obtain ⟨hh,g,d,t,os'⟩:=s'
 obtain rfl:os'=s.os:=os
 exact ⟨v,H',I.call (h':=hh) (g':=g) (d':=d) (t':=t) (ch:=[]) un hok bare (fun b z=>absurd z (by simp)),r,q⟩
end
def tCall (sp:Sp) (dvs:List V) (E:XK) (t:TA):TE:=fun σ H Q=>t σ H fun vs H1=>sp (vs++dvs) H1 Q E
def tMeth (C:Addr) (m:Str) (sp:Sp) (dvs:List V) (E:XK) (ta:TE) (t:TA):TE:=fun σ H Q=>ta σ H fun x H1=>∃ a dx fs,x=.ref a/\H1 a=some (.ins C dx fs)/\fs.lookup m=none /\
 t σ H1 fun vs H2=>sp (x::(vs++dvs)) H2 Q E
def tMake (C:Addr) (sp:Sp) (dvs:List V) (E:XK) (t:TA):TE:=fun σ H Q=>t σ H fun vs H1=>∀ x dx,H1 x=none->H1 dx=none->dx≠x ->
 sp (.ref x::(vs++dvs)) (upd (upd H1 dx (.own x)) x (.ins C dx [])) (fun v H2=>v=.non/\Q (.ref x) H2) E
def Binds (K:PySem.W.Frag) (fd:FuncData) (ps:List Str) (ds:List Value):Prop :=
 ∀ (s:Shared) (us:List Value),K.In s.heap->(us++ds).length=ps.length->BindsTo s fd ⟨us,[]⟩ (ps.zip (us++ds))
theorem Binds.all {K:PySem.W.Frag} {fd:FuncData} {ps:List Str} (h:∀ us:List Value,us.length=ps.length->bindArgs fd ⟨us,[]⟩=pure (ps.zip us)):Binds K fd ps []:=fun s us _ hl=>by
 rw [List.append_nil] at hl ⊢
 exact .of_eq (h us hl)
def Passes (CX:CXT) (X:Cx) (E:XK):Prop:=∀ (pins:List (Addr × Obj)) (σ:St) (H:Hp) (s:Shared) (e:Value) (s':Shared),Inv X pins σ H s->CX X.stack H s E e s'->X.xe e s'
section
variable {X:Cx} {CX:CXT} {k:Nat} {f C:Addr} {fd:FuncData} {ps:List Str} {sp:Sp} {dvs:List V} {ds:List Value} {E:XK} {x m:Str} {p pos apos:Pos} {e o:Expr} {es:List Expr} {ta:TE} {t:TA}
theorem run_fn {pins:List (Addr × Obj)} {σ:St} {H:Hp} {s:Shared} {Q:VK} {us:List Value} {vs:List V} (F:FnOk X.prog X.w X.K X.mg X.base CX k f fd ps sp) (hr:Room k X.A) (hb:Binds X.K fd ps ds) (hd:Vals dvs ds) (hx:Passes CX X E)
  (I:Inv X pins σ H s) (r:Vals vs us) (h:sp (vs++dvs) H Q E):wpAny (model X.prog X.w) X.A (call (.ref f) us) (EP X pins σ Q) X.xe s:=by
 have r2:Vals (vs++dvs) (us++ds):=r.append hd
 have hl:(us++ds).length=ps.length:=by rw [<- r2.length];exact F.len _ _ _ _ h
 refine wpAny_call (codeAny_mono (F.run X.A X.stack s H ⟨us,[]⟩ (us++ds) (vs++dvs) Q E hr I.env0 (hb s us I.kIn hl) r2 h) fun r s' hq=>?_)
 cases r with
 | error e=>exact hx pins σ H s e s' I hq
 | ok fl =>
  cases fl with
  | ret u=>exact I.after hq
  | next=>exact False.elim hq
  | brk=>exact False.elim hq
  | cont=>exact False.elim hq
theorem pe_call (F:FnOk X.prog X.w X.K X.mg X.base CX k f fd ps sp) (hr:Room k X.A) (hg:Gl X x) (hm:X.mg x=some (.ref f)) (hk:PySem.W.keepIn X.K (.ref f)=true) (hb:Binds X.K fd ps ds) (hd:Vals dvs ds) (hx:Passes CX X E)
  (ha:PA X (e::es) t) (hdb:(x == ("__debug__" : Str))=false:=by decide) (he:starEach (e::es) X.env=(false,eval e X.env)::starEach es X.env:=by rfl) (hpl:(backTo pos (starEach es X.env)).any (·.1)=false:=by rfl) :
  PE X (.Call (.Name x p) (e::es) [] pos) (tCall sp dvs E t):=by
 intro pins s σ H Q I h
 refine wpAny_Call_Name_kw (ld_glob I hg hm ?_ hdb)
 refine PySem.W.callWith_K (h₀:=X.base) I.ok.mod.kin hk (thn (ha pos pins s σ H _ I h) fun us s1 ⟨vs,H1,I1,r,q⟩=>⟨I1.kIn,?_⟩) he hpl
 exact run_fn F hr hb hd hx I1 r q
theorem pe_meth {pl:Sem Bool} (he:PE X o ta) (c:Cls X.K C) (hm:Meth X.K C m f) (F:FnOk X.prog X.w X.K X.mg X.base CX k f fd ps sp) (hr:Room k X.A) (hb:Binds X.K fd ps ds) (hd:Vals dvs ds) (hx:Passes CX X E) (ha:PA X (e::es) t)
  (hst:starEach (e::es) X.env=(false,eval e X.env)::starEach es X.env:=by rfl) (hpl:(backTo pos (starEach es X.env)).any (·.1)=false:=by rfl)
  (ht:eval (.Call (.Attribute o m apos) (e::es) [] pos) X.env=(do
   let ov <- eval o X.env
   standAt apos.atName
   let (f,first) <- holding [ov] (getMethod ov m pl)
   callWith pos f first (backTo pos (starEach (e::es) X.env)) (backToKw pos (keywordEach [] X.env))):=by rfl) :
  PE X (.Call (.Attribute o m apos) (e::es) [] pos) (tMeth C m sp dvs E ta t):=by
 intro pins s σ H Q I h
 refine PySem.W.methodCall_KW (pl:=pl) (thn (he pins s σ H _ I h) fun u s1 ⟨x,H1,I1,rx,a,dx,fs,ex,ea,l,q⟩=>?_) ht
 subst ex
 obtain rfl:u=Value.ref a:=rx
 refine getmeth_ok I1 ea c hm l ?_
 refine PySem.W.callWith_K (first:=[.ref a]) (h₀:=X.base) I.ok.mod.kin hm.kp (thn (ha pos pins s1 σ H1 _ I1 q) fun us s2 ⟨vs,H2,I2,r,q2⟩=>⟨I2.kIn,?_⟩) hst hpl
 exact run_fn (us:=.ref a::us) (vs:=.ref a::vs) F hr hb hd hx I2 (.cons rfl r) q2
theorem pe_meth0 {pl:Sem Bool} (he:PE X o ta) (c:Cls X.K C) (hm:Meth X.K C m f) (F:FnOk X.prog X.w X.K X.mg X.base CX k f fd ps sp) (hr:Room k X.A) (hb:Binds X.K fd ps ds) (hd:Vals dvs ds) (hx:Passes CX X E)
  (ht:eval (.Call (.Attribute o m apos) [] [] pos) X.env=(do
   let ov <- eval o X.env
   standAt apos.atName
   let (f,first) <- holding [ov] (getMethod ov m pl)
   callWith pos f first (backTo pos (starEach [] X.env)) (backToKw pos (keywordEach [] X.env))):=by rfl) :
  PE X (.Call (.Attribute o m apos) [] [] pos) (tMeth C m sp dvs E ta tNil):=by
 intro pins s σ H Q I h
 refine PySem.W.methodCall_KW (pl:=pl) (thn (he pins s σ H _ I h) fun u s1 ⟨x,H1,I1,rx,a,dx,fs,ex,ea,l,q⟩=>?_) ht
 subst ex
 obtain rfl:u=Value.ref a:=rx
 refine getmeth_ok I1 ea c hm l ?_
 exact PySem.W.callWith_K0 (first:=[.ref a]) I1.kIn hm.kp (run_fn (us:=[.ref a]) (vs:=[.ref a]) F hr hb hd hx I1 (.cons rfl .nil) q)
structure Mk (K:PySem.W.Frag) (C f:Addr):Prop where
 makes:PySem.W.makesIn K C=true
 init:PySem.W.findIn K (.ref C) "__init__" = some (some (.ref f))
 fn:PySem.W.isFn K (.ref f)=true
 kp:PySem.W.keepIn K (.ref C)=true
theorem run_make {pins:List (Addr × Obj)} {σ:St} {H:Hp} {s:Shared} {Q:VK} {us:List Value} {vs:List V} (M:Mk X.K C f) (F:FnOk X.prog X.w X.K X.mg X.base CX k f fd ps sp) (hr:Room (k+1) X.A) (hb:Binds X.K fd ps ds) (hd:Vals dvs ds)
  (hx:Passes CX X E) (I:Inv X pins σ H s) (r:Vals vs us)
  (h:∀ x dx,H x=none->H dx=none->dx≠x->sp (.ref x::(vs++dvs)) (upd (upd H dx (.own x)) x (.ins C dx [])) (fun v H2=>v=.non/\Q (.ref x) H2) E) :
  wpAny (model X.prog X.w) X.A (call (.ref C) us) (EP X pins σ Q) X.xe s:=by
 have hq:=h (s.heap.objs.size+1) s.heap.objs.size (I.hok.fresh (Nat.le_succ _)) (I.hok.fresh (Nat.le_refl _)) (Nat.ne_of_lt (Nat.lt_succ_self _))
 have I2:=Inv.made (C:=C) I
 have r2:Vals (V.ref (s.heap.objs.size+1)::(vs++dvs)) (Value.ref (s.heap.objs.size+1)::(us++ds)):=.cons rfl (r.append hd)
 have hl:(Value.ref (s.heap.objs.size+1)::us++ds).length=ps.length:=by
  have e:=r2.length
  rw [F.len _ _ _ _ hq] at e
  exact e.symm
 refine wpAny_call (make_map (f:=f) I.kIn M.makes M.init (beq_iff_eq.mp M.fn) (codeAny_mono (F.run _ X.stack _ _ ⟨Value.ref (s.heap.objs.size+1)::us,[]⟩ (Value.ref (s.heap.objs.size+1)::(us++ds)) _ _ E (hr.make C us [])
  (I2.env0.make C us []) (hb _ (Value.ref (s.heap.objs.size+1)::us) I2.kIn hl) r2 hq) fun r s' hq'=>?_))
 cases r with
 | error e=>exact hx pins σ _ _ e s' I2 hq'
 | ok fl =>
  cases fl with
  | ret u =>
   obtain ⟨v,H',I3,rv,ev,q3⟩:=I2.after hq'
   subst ev
   exact ⟨rv,⟨V.ref (s.heap.objs.size+1),H',I3,rfl,q3⟩⟩
  | next=>exact False.elim hq'
  | brk=>exact False.elim hq'
  | cont=>exact False.elim hq'
theorem pe_make (M:Mk X.K C f) (F:FnOk X.prog X.w X.K X.mg X.base CX k f fd ps sp) (hr:Room (k+1) X.A) (hg:Gl X x) (hm:X.mg x=some (.ref C)) (hb:Binds X.K fd ps ds) (hd:Vals dvs ds) (hx:Passes CX X E)
  (ha:PA X (e::es) t) (hdb:(x == ("__debug__" : Str))=false:=by decide) (he:starEach (e::es) X.env=(false,eval e X.env)::starEach es X.env:=by rfl) (hpl:(backTo pos (starEach es X.env)).any (·.1)=false:=by rfl) :
  PE X (.Call (.Name x p) (e::es) [] pos) (tMake C sp dvs E t):=by
 intro pins s σ H Q I h
 refine wpAny_Call_Name_kw (ld_glob I hg hm ?_ hdb)
 refine PySem.W.callWith_K (h₀:=X.base) I.ok.mod.kin M.kp (thn (ha pos pins s σ H _ I h) fun us s1 ⟨vs,H1,I1,r,q⟩=>⟨I1.kIn,?_⟩) he hpl
 exact run_make M F hr hb hd hx I1 r q
end
section
variable {X:Cx} {CX:CXT} {k:Nat} {f C:Addr} {fd:FuncData} {ps ks:List Str} {sp:Sp} {E:XK} {x m:Str} {p pos apos kpos:Pos} {e o:Expr} {es:List Expr} {kws:List Keyword} {te ta:TE} {t tk:TA} {nm:Option Str}
variable {g:List Value->List Value->List Value} {gV:List V->List V->List V}
end
structure FnScope (N P:List Str) (sc:Scope):Prop where
 kind:sc.kind=.function
 co:sc.isCoroutine=false
 gen:sc.isGenerator=false
 nd:N.Nodup
 pre:N.take P.length=P
 par:∀ x∈P,sc.names.lookup x=some .local\/sc.names.lookup x=some .cell
 nofree:∀ y∈sc.names,y.2≠.free
theorem bindL_out {kindOf:Str->Option NameKind} {x:Str}:∀ {binds:List (Str × Value)} {m:Str->Option Value},(∀ v,(x,v) ∉ binds)->bindL kindOf binds m x=m x
 | [],_,_=>rfl
 | (n,v)::r,m,h=>by
  unfold bindL
  rw [bindL_out fun w hw=>h w (List.mem_cons_of_mem _ hw)]
  split
  ·have:x≠n:=by rintro rfl;exact h v List.mem_cons_self
   simp [this]
  ·rfl
theorem bindC_out {kindOf:Str->Option NameKind} {x:Str}:∀ {binds:List (Str × Value)} {m:Str->Option Value},(∀ v,(x,v) ∉ binds)->bindC kindOf binds m x=m x
 | [],_,_=>rfl
 | (n,v)::r,m,h=>by
  unfold bindC
  rw [bindC_out fun w hw=>h w (List.mem_cons_of_mem _ hw)]
  split
  ·rfl
  ·have:x≠n:=by rintro rfl;exact h v List.mem_cons_self
   simp [this]
theorem bindL_get {kindOf:Str->Option NameKind} {x:Str} {v:Value}:∀ {P:List Str} {vs:List Value} {i:Nat} {m:Str->Option Value},P.Nodup->P[i]?=some x->vs[i]?=some v->kindOf x=some .local ->
  bindL kindOf (P.zip vs) m x=some v
 | [],_,_,_,_,h,_,_=>by simp at h
 | _::_,[],_,_,_,_,h,_=>by simp at h
 | p::P,w::vs,0,m,nd,h1,h2,hk=>by
  simp at h1 h2;subst h1;subst h2
  show bindL kindOf ((p,w)::P.zip vs) m p=_
  unfold bindL
  rw [bindL_out fun v hv=>(List.nodup_cons.mp nd).1 (List.of_mem_zip hv).1,if_pos hk]
  simp
 | p::P,w::vs,i+1,m,nd,h1,h2,hk=>by
  show bindL kindOf ((p,w)::P.zip vs) m x=_
  unfold bindL
  exact bindL_get (i:=i) (List.nodup_cons.mp nd).2 (by simpa using h1) (by simpa using h2) hk
theorem bindC_get {kindOf:Str->Option NameKind} {x:Str} {v:Value}:∀ {P:List Str} {vs:List Value} {i:Nat} {m:Str->Option Value},P.Nodup->P[i]?=some x->vs[i]?=some v->kindOf x≠some .local ->
  bindC kindOf (P.zip vs) m x=some v
 | [],_,_,_,_,h,_,_=>by simp at h
 | _::_,[],_,_,_,_,h,_=>by simp at h
 | p::P,w::vs,0,m,nd,h1,h2,hk=>by
  simp at h1 h2;subst h1;subst h2
  show bindC kindOf ((p,w)::P.zip vs) m p=_
  unfold bindC
  rw [bindC_out fun v hv=>(List.nodup_cons.mp nd).1 (List.of_mem_zip hv).1,if_neg hk]
  simp
 | p::P,w::vs,i+1,m,nd,h1,h2,hk=>by
  show bindC kindOf ((p,w)::P.zip vs) m x=_
  unfold bindC
  exact bindC_get (i:=i) (List.nodup_cons.mp nd).2 (by simpa using h1) (by simpa using h2) hk
def start (N:List Str) (vs:List V):St:=vs.map some++List.replicate (N.length - vs.length) none
def cxOf (CX:CXT) (P:Program) (w:World) (K:PySem.W.Frag) (mg:Str->Option Value) (base:Heap) (N:List Str) (qual:Str) (scope:Scope) (f:Addr) (cd:Value) (A:Around) (outer:List Env) (s:Shared) (H:Hp) (E:XK):Cx where
 prog:=P
 w:=w
 K:=K
 mg:=mg
 base:=base
 A:=A.deeper (envOfC qual scope s.heap.objs.size f cd)
 N:=N
 s₀:=s
 H₀:=H
 env:=envOfC qual scope s.heap.objs.size f cd
 outer:=outer
 stack:=envOfC qual scope s.heap.objs.size f cd::outer
 ex:=[]
 calm:=true
 fn:=fun _=>true
 pn:=[]
 xe:=fun e s'=>wpAny (model P w) (A.deeper (envOfC qual scope s.heap.objs.size f cd)) (leaving (envOfC qual scope s.heap.objs.size f cd) e) (fun _ s''=>CX outer H s E e s'') (fun e' s''=>CX outer H s E e' s'') s'
theorem cell_has {sc:Scope} {n:Nat} {x:Str} (h:sc.names.lookup x=some .cell):∃ c,(cellsFrom n sc.names []).lookup x=some c:=by
 have q:=PySem.W.cellsFrom_some sc.names n [] (.inl h)
 exact Option.isSome_iff_exists.mp q
theorem inv_start {CX:CXT} {P:Program} {w:World} {K:PySem.W.Frag} {mg:Str->Option Value} {base:Heap} {N ps:List Str} {qual:Str} {scope:Scope} {f:Addr} {cd:Value} {A:Around} {outer:List Env} {s s1:Shared} {H:Hp} {E:XK} {us:List Value} {vs:List V}
  (S:FnScope N ps scope) (hd:A.handled=none) (e0:Env0 P w K mg base A outer s H) (hl:vs.length=ps.length) (r:Vals vs us)
  (x:InCallC s s.heap.objs.size (bindL (envOfC qual scope s.heap.objs.size f cd).kindOf (ps.zip us) fun _=>none) (cellsFrom (s.heap.objs.size+1) scope.names []) (bindC (envOfC qual scope s.heap.objs.size f cd).kindOf (ps.zip us) fun _=>none) s1) :
  Inv (cxOf CX P w K mg base N qual scope f cd A outer s H E) [] (start N vs) H s1:=by
 have hpl:ps.length<=N.length:=by have:=congrArg List.length S.pre;rw [List.length_take] at this;omega
 obtain ⟨h1,tk,rfl,hk⟩:=x.done
 have noA:∀ b:Addr,b ∉ (cxOf CX P w K mg base N qual scope f cd A outer s H E).ex:=fun b z=>absurd (show b∈([]:List Addr) from z) (by simp)
 refine ⟨⟨e0.mod,S.kind,rfl,rfl,Nat.le_refl _,fun y z c h1 h2=>?_,fun y hy=>?_,fun y c _ h=>?_,fun _=>hd,Around.frames_deeper e0.frames,.inr ⟨rfl,rfl⟩,fun b z=>absurd z (noA b),e0.bs,e0.bsz,fun b _ _=>noA b,fun b z=>absurd z (noA b),e0.funs,e0.frf⟩,
  rfl,e0.bare,Un.kept hk,⟨_,x.toInCall.ns,fun i y v h1 h2 h3=>?_⟩,fun y c h=>⟨_,x.cell y c h⟩,e0.hok.fresh (Nat.le_refl _),fun y c h=>?_,fun p hp=>absurd (show p∈([]:List (Addr × Obj)) from hp) (by simp),e0.hok.kept hk,?_⟩
 ·exact name_of_addr x.apart (PySem.mem_of_lookup h1) (PySem.mem_of_lookup h2)
 ·have hy:scope.names.lookup y=some .cell\/scope.names.lookup y=some .free:=hy
  rcases hy with hy | hy
  ·exact cell_has hy
  ·exact absurd rfl (S.nofree _ (PySem.mem_of_lookup hy))
 ·exact Nat.le_of_lt (x.above y c (PySem.mem_of_lookup h))
 ·have hi:i < vs.length:=by
   unfold start at h2
   by_cases hi:i < vs.length
   ·exact hi
   ·rw [List.getElem?_append_right (by simpa using hi)] at h2
    rw [List.getElem?_replicate] at h2
    split at h2<;>cases h2
  have ha:vs[i]?=some v:=by
   unfold start at h2
   rw [List.getElem?_append_left (by simpa using hi),List.getElem?_map] at h2
   cases e:vs[i]? with
   | none=>rw [e] at h2;cases h2
   | some a=>rw [e] at h2;cases h2;rfl
  obtain ⟨u,hu,rv⟩:=r.get ha
  have hp:ps[i]?=some y:=by
   rw [<- S.pre,List.getElem?_take_of_lt (by omega)];exact h1
  have ndP:ps.Nodup:=by rw [<- S.pre];exact S.nd.sublist (List.take_sublist _ _)
  refine ⟨u,rv,?_⟩
  rcases S.par y (List.mem_of_getElem? hp) with k | k
  ·exact .inl ⟨k,bindL_get ndP hp hu k⟩
  ·obtain ⟨c,e⟩:=cell_has (n:=s.heap.objs.size+1) k
   refine .inr ⟨.inl k,c,e,?_⟩
   have q:=x.cell y c e
   rw [bindC_get ndP hp hu (by show scope.names.lookup y≠_;rw [k];decide)] at q
   exact q
 ·exact e0.hok.fresh (Nat.le_of_lt (x.above y c (PySem.mem_of_lookup h)))
 ·unfold start
  show _=N.length
  rw [List.length_append,List.length_map,List.length_replicate]
  omega
theorem fn_of {CX:CXT} {P:Program} {w:World} {K:PySem.W.Frag} {mg:Str->Option Value} {base:Heap} {k:Nat} {f:Addr} {name qual:Str} {params:Arguments} {body:List Stmt} {scope:Scope} {dV kV doc pm cdv ct oc:Value} {an od:Option Addr}
  {osl:Array (Option Value)} {N ps:List Str} {sp:Sp} (lk:K.lookup f=some ⟨oc,od,.func (PySem.W.fnOf name qual params body scope dV kV doc pm an cdv ct),osl⟩) (hcd:PySem.W.codeIn K cdv qual=true) (S:FnScope N ps scope)
  (len:∀ vs H Q E,sp vs H Q E->vs.length=ps.length)
  (hbody:∀ (A:Around) (outer:List Env) (s:Shared) (H:Hp) (vs:List V) (Q:VK) (E:XK),Room k (A.deeper (envOfC qual scope s.heap.objs.size f cdv))->sp vs H Q E ->
   ∃ t,PSs (cxOf CX P w K mg base N qual scope f cdv A outer s H E) body t/\t { nx:=fun _ H'=>Q .non H',rt:=Q } (start N vs) H) :
  FnOk P w K mg base CX (k+1) f (PySem.W.fnOf name qual params body scope dV kV doc pm an cdv ct) ps sp:=by
 refine ⟨len,fun A outer s H args us vs Q E hr e0 hb r hsp=>?_⟩
 have hl:=len _ _ _ _ hsp
 have KX:K.In s.heap:=e0.mod.kin.keeps fun b o e=>(e0.bs b o e).1
 have lim:s.heap.NoLimit:=e0.mod.nolimit.keeps fun b o e=>(e0.bs b o e).1
 have hkind:∀ y∈ps.zip us,scope.names.lookup y.1=some .local\/(scope.names.lookup y.1=some .cell/\((cellsFrom (s.heap.objs.size+1) scope.names []).lookup y.1).isSome=true):=fun ⟨n,v⟩ hy=>by
  rcases S.par n (List.of_mem_zip hy).1 with q | q
  ·exact .inl q
  ·exact .inr ⟨q,PySem.W.cellsFrom_some _ _ _ (.inl q)⟩
 refine codeAny_call_function hr.depth (KX _ _ lk) rfl S.co S.gen rfl (PySem.W.codeRec_of KX hcd) (hb _ _ _ _ ?_)
 refine wpAny_newFunctionEnv_cells S.kind hkind fun env he s1 x=>?_
 subst he
 refine ⟨lim.keeps x.toInCall.keep,codeAny_func ?_⟩
 obtain ⟨t,ht,hq⟩:=hbody A outer s H vs Q E (hr.deeper _) hsp
 have I:Inv (cxOf CX P w K mg base N qual scope f cdv A outer s H E) [] (start N vs) H s1:=inv_start S hr.hd e0 hl r x
 refine wpAny_mono (ht [] s1 (start N vs) H _ I hq) (fun fl s' hs=>?_) fun e s' hs=>hs
 have fin:∀ {σ':St} {H':Hp} {v:V} {u:Value},Inv (cxOf CX P w K mg base N qual scope f cdv A outer s H E) [] σ' H' s'->RelV v u->Q v H'->CE outer P w H s Q u s' :=
  fun {σ' H' v u} J rv q=>⟨v,H',J.os,J.bare,J.base,J.hok,rv,q⟩
 cases fl with
 | ret u =>
  obtain ⟨v,σ',H',J,rv,q⟩:=hs
  exact fin J rv q
 | next =>
  obtain ⟨σ',H',J,q⟩:=hs
  exact fin (v:=V.non) (u:=Value.none) J rfl q
 | brk =>
  obtain ⟨_,_,_,q⟩:=hs
  exact False.elim q
 | cont =>
  obtain ⟨_,_,_,q⟩:=hs
  exact False.elim q
section
variable {X:Cx} {x:Str} {p pos:Pos} {e:Expr} {es:List Expr} {t:TA} {id T:String} {r:List V->Hp->VK->Prop}
def tCB (r:List V->Hp->VK->Prop) (t:TA):TE:=fun σ H Q=>t σ H fun vs H1=>r vs H1 Q
theorem pe_callB (hc:CallR X (.builtin id) r) (hg:Gl X x) (hm:X.mg x=none) (hv:bootBuiltins x=some (.builtin id)) (ha:PA X (e::es) t) (hn:x≠"__name__" := by decide) (hdb:(x == ("__debug__" : Str))=false:=by decide)
  (he:starEach (e::es) X.env=(false,eval e X.env)::starEach es X.env:=by rfl) (hpl:(backTo pos (starEach es X.env)).any (·.1)=false:=by rfl):PE X (.Call (.Name x p) (e::es) [] pos) (tCB r t):=by
 intro pins s σ H Q I h
 refine wpAny_Call_Name_kw (ld_blt I hg hm hv ?_ hn hdb)
 exact PyProof.Rows.callWith_builtin1 (thn (ha pos pins s σ H _ I h) fun us s1 ⟨vs,H1,I1,r1,q1⟩=>hc pins s1 σ H1 vs us Q I1 r1 q1) he hpl
theorem pe_callTy (hc:CallR X (.type T) r) (hg:Gl X x) (hm:X.mg x=none) (hv:bootBuiltins x=some (.type T)) (ha:PA X (e::es) t) (hn:x≠"__name__" := by decide) (hdb:(x == ("__debug__" : Str))=false:=by decide)
  (he:starEach (e::es) X.env=(false,eval e X.env)::starEach es X.env:=by rfl) (hpl:(backTo pos (starEach es X.env)).any (·.1)=false:=by rfl):PE X (.Call (.Name x p) (e::es) [] pos) (tCB r t):=by
 intro pins s σ H Q I h
 refine wpAny_Call_Name_kw (ld_blt I hg hm hv ?_ hn hdb)
 exact PyProof.Rows.callWith_type1 (thn (ha pos pins s σ H _ I h) fun us s1 ⟨vs,H1,I1,r1,q1⟩=>hc pins s1 σ H1 vs us Q I1 r1 q1) he hpl
end
end L2
namespace HT
open PySem PyProof.Rows
section
open PySem.SeqAt
open PySem.AutoSeq1 (wpAny_loadPart')
open PySem.MeetsSeq PySem.MeetsSeq2 PySem.MeetsSeq3
end
section
variable {prog:Program} {w:World} {A:Around} {E:Value->Shared->Prop} {s:Shared}
end
end HT
namespace L2
open PySem PySem.Spec PyProof.Rows
abbrev TO:=St->Hp->(Option Int->Hp->Prop)->Prop
theorem intsAre_of {ns:List Int}:∀ {us:List Value},Vals (ns.map V.int) us->IntsAre us ns:=by
 induction ns with
 | nil=>intro us r;rw [List.map_nil] at r;cases r;exact .nil
 | cons n ns ih =>
  intro us r
  rw [List.map_cons] at r
  cases r with
  | cons r1 r2 =>
   obtain ⟨t,e⟩:=r1
   subst e
   exact .cons n t (ih r2)
section
variable {X:Cx} {e:Expr} {te:TE} {lo hi:Option Expr} {tl th:TO} {pos p2:Pos}
end
def ixN (n:Nat) (i:Int):Option Nat:=if 0<=i then (if i < n then some i.toNat else none) else if -(n:Int)<=i then some (i+n).toNat else none
def atI {α:Type} (xs:List α) (i:Int):Option α:=(ixN xs.length i).bind fun j=>xs[j]?
theorem ixN_seq {n:Nat} {i:Int} {j:Nat} (h:ixN n i=some j):seqIndex? i n=some j/\j < n/\-(n:Int)<=i/\i < n:=by
 unfold ixN at h
 by_cases h0:0<=i
 ·rw [if_pos h0] at h
  by_cases h1:i < n
  ·rw [if_pos h1] at h
   have e:i.toNat=j:=Option.some.inj h
   exact ⟨by rw [seqIndex_of h0 h1,e],by omega,by omega,h1⟩
  ·rw [if_neg h1] at h;cases h
 ·rw [if_neg h0] at h
  by_cases h1:-(n:Int)<=i
  ·rw [if_pos h1] at h
   have e:(i+n).toNat=j:=Option.some.inj h
   exact ⟨by rw [seqIndex_neg (by omega) h1,e],by omega,h1,by omega⟩
  ·rw [if_neg h1] at h;cases h
theorem atI_get {α:Type} {xs:List α} {i:Int} {v:α} (h:atI xs i=some v):∃ j,seqIndex? i xs.length=some j/\xs[j]?=some v/\j < xs.length/\-(xs.length:Int)<=i/\i < xs.length:=by
 unfold atI at h
 cases e:ixN xs.length i with
 | none=>rw [e] at h;cases h
 | some j =>
  rw [e] at h
  obtain ⟨h1,h2,h3,h4⟩:=ixN_seq e
  exact ⟨j,h1,h,h2,h3,h4⟩
theorem atI_nat {α:Type} {xs:List α} {j:Nat} {v:α} (h:xs[j]?=some v):atI xs (j:Int)=some v:=by
 have hj:j < xs.length:=(List.getElem?_eq_some_iff.mp h).1
 have e:ixN xs.length (j:Int)=some j:=by
  unfold ixN
  rw [if_pos (by omega),if_pos (by omega)];simp
 unfold atI;rw [e];exact h
def PlainIx (b:Expr):Prop:=∀ o i,subscripted b false o i=operate [o,i] (getItem o i)
def IxR (X:Cx) (r:R2):Prop :=
 ∀ (value slice:Expr) (pins:List (Addr × Obj)) (s:Shared) (σ:St) (H:Hp) (x y:V) (v u:Value) (Q:VK),Inv X pins σ H s->RelV x v->RelV y u->r x y H Q ->
  subscripted slice false v u=operate [v,u] (getItem v u)->wpAny (model X.prog X.w) X.A (subscriptTail value slice v u) (EP X pins σ Q) X.xe s
def MtR (X:Cx) (id:String) (r:V->List V->Hp->VK->Prop):Prop :=
 ∀ (pins:List (Addr × Obj)) (s:Shared) (σ:St) (H:Hp) (x:V) (xs:List V) (v:Value) (us:List Value) (Q:VK),Inv X pins σ H s->RelV x v->Vals xs us->r x xs H Q ->
  wpAny (model X.prog X.w) X.A (call (.builtin id) (v::us)) (EP X pins σ Q) X.xe s
section
variable {X:Cx} {a b:Expr} {ta tb:TE} {pos:Pos}
theorem pe_ix {r:R2} (hr:IxR X r) (ha:PE X a ta) (hb:PE X b tb) (hs:PlainIx b):PE X (.Subscript a b pos) (tOp r ta tb):=by
 intro pins s σ H Q I h
 exact Subscript_ (binT ha hb I h fun v u s2 x y H2 I2 rx ry q=>hr a b pins s2 σ H2 x y v u Q I2 rx ry q (hs _ _))
def rIxL (K:PySem.W.Frag):R2:=fun x y H Q=>∃ p xs i v,x=.ref p/\y=.int i/\SqL K H p xs/\atI xs i=some v/\Q v H
def rIxT (K:PySem.W.Frag):R2:=fun x y H Q=>∃ p xs i v,x=.ref p/\y=.int i/\SqT K H p xs/\atI xs i=some v/\Q v H
def rIxS:R2:=fun x y H Q=>∃ z i c,x=.str z/\y=.int i/\z.length<=sizeLine/\atI z.cps.toList i=some c/\Q (.str ⟨#[c]⟩) H
theorem ix_list:IxR X (rIxL X.K):=by
 intro value slice pins s σ H x y v u Q I rx ry h hs
 obtain ⟨p,xs,i,z,rfl,rfl,hq,he,q⟩:=h
 cases rx
 obtain ⟨t,rfl⟩:=ry
 obtain ⟨its,r,pl,hz⟩:=I.list hq
 obtain ⟨j,h1,h2,h3,h4,h5⟩:=atI_get he
 obtain ⟨w,ew,rw'⟩:=r.get h2
 have hl:=r.length
 have hn:=line63
 have fin:EP X pins σ Q w s:=⟨z,H,I,rw',q⟩
 by_cases h0:0<=i
 ·have hj:i.toNat=j:=by
   rw [seqIndex_of h0 h5] at h1
   exact Option.some.inj h1
  exact item_listR pl.isList h0 (by omega) (by rw [hj];simpa using ew) fin hs
 ·have hj:(i+(its.toArray.size:Int)).toNat=j:=by
   rw [seqIndex_neg (by omega) h4] at h1
   rw [List.size_toArray,<- hl]
   exact Option.some.inj h1
  exact subscriptTail_builtinR (x:=w) pl.isList.typeIs slot_list_getitem.lookup
   (wpAny_getItem_list_neg (Q:=fun r s'=>r=w/\EP X pins σ Q r s') pl.isList (by omega) (by rw [List.size_toArray]<;>omega) (by omega) (by rw [hj];simpa using ew) ⟨rfl,fin⟩) hs
theorem ix_tup:IxR X (rIxT X.K):=by
 intro value slice pins s σ H x y v u Q I rx ry h hs
 obtain ⟨p,xs,i,z,rfl,rfl,hq,he,q⟩:=h
 cases rx
 obtain ⟨t,rfl⟩:=ry
 obtain ⟨its,r,pl,hz⟩:=I.tuple hq
 obtain ⟨j,h1,h2,h3,h4,h5⟩:=atI_get he
 obtain ⟨w,ew,rw'⟩:=r.get h2
 have hl:=r.length
 have hn:=line63
 have fin:EP X pins σ Q w s:=⟨z,H,I,rw',q⟩
 exact subscriptTail_builtinR (x:=w) pl.typeIs slot_tuple_getitem.lookup
  (getItem_tuple (j:=j) (Q:=fun r s'=>r=w/\EP X pins σ Q r s') pl (by omega) (by omega) (by rw [List.size_toArray,<- hl];exact h1) (by simpa using ew) ⟨rfl,fin⟩) hs
theorem ix_str:IxR X rIxS:=by
 intro value slice pins s σ H x y v u Q I rx ry h hs
 obtain ⟨z,i,c,rfl,rfl,hz,he,q⟩:=h
 obtain ⟨t,rfl⟩:=rx
 obtain ⟨t',rfl⟩:=ry
 obtain ⟨j,h1,h2,h3,h4,h5⟩:=atI_get he
 have hl:z.cps.toList.length=z.length:=by simp [Str.length]
 rw [hl] at h1 h4 h5
 have hn:=line63
 exact tail_any (typeIs_str s z t) slot_str_getitem.lookup (getItem_str (c:=c) (by
  have e1:decide (i < -(2 ^ 63:Int))=false:=decide_eq_false (by omega)
  have e2:decide (i ≥ 2 ^ 63)=false:=decide_eq_false (by omega)
  rw [e1,e2,Bool.or_false]) (by rw [h1];simpa using h2) ⟨.str ⟨#[c]⟩,H,I.tok _,⟨_,rfl⟩,q⟩) hs
theorem mapSeq_set (its:List Value) (n j:Nat) (u:Value):Obj.mapSeq (·.setIfInBounds j u) { cls:=.type "list",data:=.seq its.toArray n }={ cls:=.type "list",data:=.seq (its.set j u).toArray n }:=by
 simp [Obj.mapSeq]
theorem Inv.lst {pins:List (Addr × Obj)} {σ:St} {H:Hp} {s:Shared} {p:Addr} {xs:List V} (I:Inv X pins σ H s) (h:H p=some (.lst xs)) :
  ∃ (its:List Value) (n:Nat),Vals xs its/\s.heap.get? p=some { cls:=.type "list",data:=.seq its.toArray n }/\xs.length<=sizeLine:=by
 obtain ⟨z,its,n,r,e⟩:=I.hok p _ h
 exact ⟨its,n,r,e,z⟩
theorem Inv.lstUpd {pins:List (Addr × Obj)} {σ:St} {H:Hp} {s:Shared} {p:Addr} {xs ys:List V} {its its':List Value} {n n':Nat} {f:Obj->Obj} (I:Inv X pins σ H s) (h:H p=some (.lst xs))
  (ho:s.heap.get? p=some { cls:=.type "list",data:=.seq its.toArray n }) (hf:f { cls:=.type "list",data:=.seq its.toArray n }={ cls:=.type "list",data:=.seq its'.toArray n' }) (r:Vals ys its') (hz:ys.length<=sizeLine) (t:Nat) :
  Inv X pins σ (upd H p (.lst ys)) { s with heap:=s.heap.update p f,toks:=t }:=by
 have e:(s.heap.update p f).get? p=some { cls:=.type "list",data:=.seq its'.toArray n' }:=by
  rw [Heap.get?_update_self f ho (by rw [hf]<;>rfl),hf]
 refine I.write (x:=p) (e:=p) (by rw [h];trivial) (.inl rfl) (fun b u hb q=>(Heap.get?_update_other _ _ (Ne.symm hb)).trans q) ⟨_,e⟩ ?_
 exact ⟨hz,its',n',r,e⟩
def rSetL:V->V->V->Hp->(Hp->Prop)->Prop:=fun o i v H Q=>∃ p xs k j,o=.ref p/\i=.int k/\H p=some (.lst xs)/\ixN xs.length k=some j/\Q (upd H p (.lst (xs.set j v)))
theorem set_list:PSet X rSetL:=by
 intro pins s σ H o i v ov iv u Q I ro ri rv h
 obtain ⟨p,xs,k,j,rfl,rfl,hp,hj,q⟩:=h
 cases ro
 obtain ⟨t,rfl⟩:=ri
 obtain ⟨its,n,r,ho,hz⟩:=I.lst hp
 obtain ⟨h1,h2,h3,h4⟩:=ixN_seq hj
 have hl:=r.length
 have hn:=line63
 have I':Inv X pins σ (upd H p (.lst (xs.set j v))) { s with heap:=s.heap.update p (Obj.mapSeq (·.setIfInBounds j u)) } :=
  I.lstUpd hp ho (mapSeq_set its n j u) (r.set rv j) (by rw [List.length_set];exact hz) s.toks
 by_cases h0:0<=k
 ·have hk:k.toNat=j:=by
   rw [seqIndex_of h0 h4] at h1
   exact Option.some.inj h1
  exact PySem.W.ki_setAt ho h0 (by omega) (by rw [List.size_toArray,<- hl];exact h4) (by rw [hk];exact ⟨_,I',q⟩)
 ·have hk:(k+(its.toArray.size:Int)).toNat=j:=by
   rw [seqIndex_neg (by omega) h3] at h1
   rw [List.size_toArray,<- hl]
   exact Option.some.inj h1
  exact PySem.W.ki_setBack ho (by omega) (by rw [List.size_toArray,<- hl];exact h3) (by omega) (by rw [hk];exact ⟨_,I',q⟩)
def flatV:V->Bool
 | .non=>true
 | .bl _=>true
 | .int _=>true
 | .str _=>true
 | _=>false
def eqV:V->V->Bool
 | .non,.non=>true
 | .bl a,.bl b=>a == b
 | .bl a,.int b=>(if a then 1 else 0) == b
 | .int a,.bl b=>a == (if b then 1 else 0)
 | .int a,.int b=>a == b
 | .str a,.str b=>a == b
 | _,_=>false
theorem eqAt_V {A:Around} {s:Shared} {y x:V} {u v:Value} (ry:RelV y u) (rx:RelV x v) (fy:flatV y=true) (fx:flatV x=true):SeqAt.EqAt A s u v (eqV y x):=by
 cases y with
 | non =>
  cases ry
  cases x with
  | non=>cases rx;exact SeqAt.EqAt.same _
  | bl b=>cases rx;exact SeqAt.EqAt.none_bool b
  | int b=>obtain ⟨t,rfl⟩:=rx;exact SeqAt.EqAt.none_int b t
  | str b=>obtain ⟨t,rfl⟩:=rx;exact SeqAt.EqAt.none_str b t
  | _=>exact absurd (show false=true from fx) Bool.false_ne_true
 | bl a =>
  cases ry
  cases x with
  | non=>cases rx;exact SeqAt.EqAt.bool_none a
  | bl b=>cases rx;exact SeqAt.EqAt.bool_bool a b
  | int b=>obtain ⟨t,rfl⟩:=rx;exact SeqAt.EqAt.bool_int a b t
  | str b=>obtain ⟨t,rfl⟩:=rx;exact SeqAt.EqAt.bool_str a b t
  | _=>exact absurd (show false=true from fx) Bool.false_ne_true
 | int a =>
  obtain ⟨t',rfl⟩:=ry
  cases x with
  | non=>cases rx;exact SeqAt.EqAt.int_none a t'
  | bl b=>cases rx;exact SeqAt.EqAt.int_bool a t' b
  | int b=>obtain ⟨t,rfl⟩:=rx;exact SeqAt.EqAt.int_int a t' b t
  | str b=>obtain ⟨t,rfl⟩:=rx;exact SeqAt.EqAt.int_str a t' b t
  | _=>exact absurd (show false=true from fx) Bool.false_ne_true
 | str a =>
  obtain ⟨t',rfl⟩:=ry
  cases x with
  | non=>cases rx;exact SeqAt.EqAt.str_none a t'
  | bl b=>cases rx;exact SeqAt.EqAt.str_bool a t' b
  | int b=>obtain ⟨t,rfl⟩:=rx;exact SeqAt.EqAt.str_int a t' b t
  | str b=>obtain ⟨t,rfl⟩:=rx;exact SeqAt.EqAt.str_str a t' b t
  | _=>exact absurd (show false=true from fx) Bool.false_ne_true
 | _=>exact absurd (show false=true from fy) Bool.false_ne_true
def eqU (x:V) (u:Value):Bool:=match u with
 | .none=>eqV .non x
 | .bool b=>eqV (.bl b) x
 | .int i _=>eqV (.int i) x
 | .str z _=>eqV (.str z) x
 | _=>false
theorem eqU_of {x y:V} {u:Value} (r:RelV y u) (f:flatV y=true):eqU x u=eqV y x:=by
 cases y with
 | non=>cases r;rfl
 | bl b=>cases r;rfl
 | int i=>obtain ⟨t,rfl⟩:=r;rfl
 | str z=>obtain ⟨t,rfl⟩:=r;rfl
 | _=>exact absurd (show false=true from f) Bool.false_ne_true
theorem any_eqU {x:V}:∀ {xs:List V} {us:List Value},Vals xs us->xs.all flatV=true->us.any (eqU x)=xs.any fun y=>eqV y x
 | _,_,.nil,_=>rfl
 | y::xs,u::us,.cons r t,f=>by
  rw [List.all_cons,Bool.and_eq_true] at f
  rw [List.any_cons,List.any_cons,eqU_of r f.1,any_eqU t f.2]
theorem mem_eqAt {A:Around} {s:Shared} {x:V} {v:Value} (rx:RelV x v) (fx:flatV x=true):∀ {xs:List V} {us:List Value},Vals xs us->xs.all flatV=true->∀ u∈us,SeqAt.EqAt A s u v (eqU x u)
 | _,_,.nil,_=>fun u hu=>by cases hu
 | y::xs,u::us,.cons r t,f=>fun u' hu=>by
  rw [List.all_cons,Bool.and_eq_true] at f
  rcases List.mem_cons.mp hu with rfl | hu
  ·rw [eqU_of r f.1];exact eqAt_V r rx f.1 fx
  ·exact mem_eqAt rx fx t f.2 u' hu
def inV (x:V) (xs:List V):Bool:=xs.any fun y=>eqV y x
def rIn (K:PySem.W.Frag) (neg:Bool):R2:=fun x y H Q=>∃ p xs,y=.ref p/\(SqL K H p xs\/SqT K H p xs)/\flatV x=true/\xs.all flatV=true/\Q (.bl (if neg then !inV x xs else inV x xs)) H
theorem op_in_seq:OpR X (compareOp .In) (rIn X.K false):=by
 intro pins s σ H x y v u Q I rx ry h
 obtain ⟨p,xs,rfl,hq,fx,fs,q⟩:=h
 cases ry
 rcases hq with hq | hq
 ·obtain ⟨its,r,pl,hz⟩:=I.list hq
  refine SeqAt.in_listAt (eqU x) pl.isList (fun w hw=>mem_eqAt rx fx r fs w (by simpa using hw)) ⟨.bl _,H,I,rfl,?_⟩
  rw [show its.toArray.any (eqU x)=its.any (eqU x) by simp,any_eqU r fs]
  exact q
 ·obtain ⟨its,r,pl,hz⟩:=I.tuple hq
  refine SeqAt.in_tupleAt (eqU x) pl (fun w hw=>mem_eqAt rx fx r fs w (by simpa using hw)) ⟨.bl _,H,I,rfl,?_⟩
  rw [show its.toArray.any (eqU x)=its.any (eqU x) by simp,any_eqU r fs]
  exact q
theorem op_notIn_seq:OpR X (compareOp .NotIn) (rIn X.K true):=by
 intro pins s σ H x y v u Q I rx ry h
 obtain ⟨p,xs,rfl,hq,fx,fs,q⟩:=h
 cases ry
 rcases hq with hq | hq
 ·obtain ⟨its,r,pl,hz⟩:=I.list hq
  refine SeqAt.notIn_listAt (eqU x) pl.isList (fun w hw=>mem_eqAt rx fx r fs w (by simpa using hw)) ⟨.bl _,H,I,rfl,?_⟩
  rw [show its.toArray.any (eqU x)=its.any (eqU x) by simp,any_eqU r fs]
  exact q
 ·obtain ⟨its,r,pl,hz⟩:=I.tuple hq
  refine SeqAt.notIn_tupleAt (eqU x) pl (fun w hw=>mem_eqAt rx fx r fs w (by simpa using hw)) ⟨.bl _,H,I,rfl,?_⟩
  rw [show its.toArray.any (eqU x)=its.any (eqU x) by simp,any_eqU r fs]
  exact q
theorem call_len_seq:CallR X (.builtin "len") (fun xs H Q=>∃ p ys,xs=[.ref p]/\(SqL X.K H p ys\/SqT X.K H p ys)/\Q (.int ys.length) H):=by
 intro pins s σ H xs us Q I r h
 obtain ⟨p,ys,rfl,hq,q⟩:=h
 obtain ⟨u,rfl,rx⟩:=vals1 r
 cases rx
 have hn:=line63
 rcases hq with hq | hq
 ·obtain ⟨its,r',pl,hz⟩:=I.list hq
  have hlen:=r'.length
  exact Calls.call_len_list pl.isList (by simp only [List.size_toArray]<;>omega) ⟨.int ys.length,H,I.tok _,⟨s.toks+1,by rw [List.size_toArray,hlen]⟩,q⟩
 ·obtain ⟨its,r',pl,hz⟩:=I.tuple hq
  have hlen:=r'.length
  exact len_tuple pl (by simp only [List.size_toArray]<;>omega) ⟨.int ys.length,H,I.tok _,⟨s.toks+1,by rw [List.size_toArray,hlen]⟩,q⟩
theorem call_len_str:CallR X (.builtin "len") (fun xs H Q=>∃ z,xs=[.str z]/\z.length<=sizeLine/\Q (.int z.length) H):=by
 intro pins s σ H xs us Q I r h
 obtain ⟨z,rfl,hz,q⟩:=h
 obtain ⟨u,rfl,t,rfl⟩:=vals1 r
 have hn:=line63
 exact len_str (by omega) ⟨.int z.length,H,I.tok _,⟨_,rfl⟩,q⟩
theorem call_list_of:CallR X (.type "list") (fun xs H Q=>∃ p ys,xs=[.ref p]/\(SqL X.K H p ys\/SqT X.K H p ys)/\∀ l,H l=none->Q (.ref l) (upd H l (.lst ys))):=by
 intro pins s σ H xs us Q I r h
 obtain ⟨p,ys,rfl,hq,q⟩:=h
 obtain ⟨u,rfl,rx⟩:=vals1 r
 cases rx
 have fin:∀ (its:List Value),Vals ys its->ys.length<=sizeLine->∀ (h':Heap) (c':Nat),(∀ b o',s.heap.get? b=some o'->h'.get? b=some o') ->
   h'.get? s.heap.objs.size=some { cls:=.type "list",dict:=none,data:=.seq its.toArray c',slots:=#[] }->EP X pins σ Q (.ref s.heap.objs.size) { s with heap:=h' }:=fun its r' hz h' c' kp e =>
  ⟨.ref s.heap.objs.size,_,I.laid (t':=s.toks) kp (Nat.le_refl _) (show ObjOk X.prog X.w _ h' _ (.lst ys) from ⟨hz,its,c',r',e⟩),rfl,q _ (I.hok.fresh (Nat.le_refl _))⟩
 rcases hq with hq | hq
 ·obtain ⟨its,r',pl,hz⟩:=I.list hq
  have hlen:=r'.length
  obtain ⟨o,ho,hc,n,hd⟩:=pl.isList
  exact call_list_seq p (.inl rfl) ho hc hd (fun h' c' kp e=>fin its r' hz h' c' kp e) (by simp only [List.size_toArray]<;>omega)
 ·obtain ⟨its,r',pl,hz⟩:=I.tuple hq
  have hlen:=r'.length
  obtain ⟨o,ho,hc,n,hd⟩:=pl
  exact call_list_seq p (.inr rfl) ho hc hd (fun h' c' kp e=>fin its r' hz h' c' kp e) (by simp only [List.size_toArray]<;>omega)
theorem call_tuple_of:CallR X (.type "tuple") (fun xs H Q=>∃ p ys,xs=[.ref p]/\((SqL X.K H p ys/\∀ l,H l=none->Q (.ref l) (upd H l (.tup ys)))\/(SqT X.K H p ys/\Q (.ref p) H))):=by
 intro pins s σ H xs us Q I r h
 obtain ⟨p,ys,rfl,h⟩:=h
 obtain ⟨u,rfl,rx⟩:=vals1 r
 cases rx
 rcases h with ⟨hq,q⟩ | ⟨hq,q⟩
 ·obtain ⟨its,r',pl,hz⟩:=I.list hq
  have hlen:=r'.length
  refine call_tuple_list pl.isList (fun h' kp=>?_) (by simp only [List.size_toArray]<;>omega)
  have I1:Inv X pins σ H { s with heap:=h' }:=I.kept (t':=s.toks) kp
  have I2:Inv X pins σ (upd H h'.objs.size (.tup ys)) { s with heap:=h'.push { cls:=.type "tuple",data:=.seq its.toArray } } :=
   I1.laid (t':=s.toks) (fun b o e=>Heap.get?_push_of_some _ e) (Nat.le_refl _) (show ObjOk X.prog X.w _ _ _ (.tup ys) from ⟨hz,its,r',IsTup.new _ _⟩)
  exact ⟨.ref h'.objs.size,_,I2,rfl,q _ (I1.hok.fresh (Nat.le_refl _))⟩
 ·obtain ⟨its,r',pl,hz⟩:=I.tuple hq
  exact call_tuple_same pl ⟨.ref p,H,I,rfl,q⟩
def tyV (K:PySem.W.Frag) (T:String) (x:V) (H:Hp):Prop:=match x with
 | .str _=>T="str"
 | .int _=>T="int"
 | .ref p=>(T="list" /\ ∃ xs,SqL K H p xs)\/(T="tuple" /\ ∃ o,K.lookup p=some o/\o.cls=.type "tuple" /\ o.dict=none) \/
   (T="dict" /\ ((∃ kvs,H p=some (.dK kvs))\/∃ kvs,H p=some (.dT kvs)))\/(T="set" /\ ∃ S n,H p=some (.set S n))
 | _=>False
theorem tyV_is {pins:List (Addr × Obj)} {σ:St} {H:Hp} {s:Shared} {T:String} {x:V} {v:Value} (I:Inv X pins σ H s) (r:RelV x v) (ty:tyV X.K T x H) :
  s.TypeIs v T/\∀ a,v=.ref a->∃ ob,s.heap.get? a=some ob/\ob.dict=none:=by
 cases x with
 | str z =>
  obtain ⟨t,rfl⟩:=r
  cases (show T="str" from ty)
  exact ⟨typeIs_str s z t,fun _ e=>nomatch e⟩
 | int i =>
  obtain ⟨t,rfl⟩:=r
  cases (show T="int" from ty)
  exact ⟨typeIs_int s i t,fun _ e=>nomatch e⟩
 | ref p =>
  cases r
  rcases ty with ⟨rfl,xs,hq⟩ | ⟨rfl,o,hk,hc,hd⟩ | ⟨rfl,hk⟩ | ⟨rfl,S,n,hk⟩
  ·obtain ⟨its,_,pl,_⟩:=I.list hq
   refine ⟨pl.isList.typeIs,fun a e=>?_⟩
   cases e
   obtain ⟨o,n,e,c,hd,_⟩:=pl
   exact ⟨o,e,hd⟩
  ·refine ⟨⟨o,I.kIn p o hk,hc⟩,fun a e=>?_⟩
   cases e
   exact ⟨o,I.kIn _ o hk,hd⟩
  ·have z:∃ o,s.heap.get? p=some o/\o.ExactDict:=by
    rcases hk with ⟨kvs,hk⟩ | ⟨kvs,hk⟩
    ·obtain ⟨_,_,_,_,o,_,_,e,ex,_⟩:=I.hok p _ hk
     exact ⟨o,e,ex⟩
    ·obtain ⟨_,_,_,_,o,_,_,e,ex,_⟩:=I.hok p _ hk
     exact ⟨o,e,ex⟩
   obtain ⟨o,e,ex⟩:=z
   refine ⟨⟨o,e,ex.1⟩,fun a e2=>?_⟩
   cases e2
   exact ⟨o,e,ex.2.1⟩
  ·obtain ⟨o,_,_,_,e,ex,_⟩:=I.hok p _ hk
   refine ⟨⟨o,e,ex.1⟩,fun a e2=>?_⟩
   cases e2
   exact ⟨o,e,ex.2.1⟩
 | _=>exact False.elim ty
def tBM0 (K:PySem.W.Frag) (T:String) (r:V->List V->Hp->VK->Prop) (to:TE):TE:=fun σ H Q=>to σ H fun x H1=>tyV K T x H1/\r x [] H1 Q
def tBM (K:PySem.W.Frag) (T:String) (r:V->List V->Hp->VK->Prop) (to:TE) (t:TA):TE:=fun σ H Q=>to σ H fun x H1=>tyV K T x H1/\t σ H1 fun xs H2=>r x xs H2 Q
variable {o e:Expr} {es:List Expr} {to:TE} {t:TA} {name:Str} {apos cpos:Pos} {T id:String} {r:V->List V->Hp->VK->Prop}
theorem pe_bm0 (pa:PlainAttrs T) (slot:Slot T name id) (hty:typeOf (.builtin id)=pure (.type "method_descriptor")) (hm:MtR X id r) (ho:PE X o to)
  (hbase:attributeBase o name X.env (eval o X.env)=eval o X.env:=by rfl) (hline:(apos.endLine == cpos.line)=true:=by rfl):PE X (.Call (.Attribute o name apos) [] [] cpos) (tBM0 X.K T r to):=by
 intro pins s σ H Q I h
 refine wpAny_Call_method0_late hbase hline (thn (ho pins s σ H _ I h) fun v s1 ⟨x,H1,I1,r1,ty,q1⟩=>?_)
 obtain ⟨h1,h2⟩:=tyV_is I1 r1 ty
 exact ⟨T,id,pa,slot,hty,h1,h2,Calls.callWith_builtin rfl (PySem.evalArgs_none (hm pins s1 σ H1 x [] v [] Q I1 r1 .nil q1))⟩
theorem pe_bm (pa:PlainAttrs T) (slot:Slot T name id) (hty:typeOf (.builtin id)=pure (.type "method_descriptor")) (hm:MtR X id r) (ho:PE X o to) (ha:PA X (e::es) t)
  (hbase:attributeBase o name X.env (eval o X.env)=eval o X.env:=by rfl)
  (hfew:((backTo cpos (starEach (e::es) X.env)).all (fun x=>!x.1) && (backToKw cpos (keywordEach [] X.env)).all (fun x=>x.1.isSome)
   && decide ((e::es).length+([]:List Keyword).length+(if ([]:List Keyword).isEmpty then 0 else 1) < 30))=true:=by rfl)
  (hline:(apos.endLine == cpos.line)=true:=by rfl) (hs:starEach (e::es) X.env=(false,eval e X.env)::starEach es X.env:=by rfl) (hplain:(backTo cpos (starEach es X.env)).any (·.1)=false:=by rfl) :
  PE X (.Call (.Attribute o name apos) (e::es) [] cpos) (tBM X.K T r to t):=by
 intro pins s σ H Q I h
 refine wpAny_Call_method_late hbase hfew hline rfl (thn (ho pins s σ H _ I h) fun v s1 ⟨x,H1,I1,r1,ty,q1⟩=>?_)
 obtain ⟨h1,h2⟩:=tyV_is I1 r1 ty
 refine ⟨T,id,pa,slot,hty,h1,h2,?_⟩
 have hA:=ha cpos pins s1 σ H1 _ I1 q1
 rw [hs] at hA ⊢
 refine Calls.callWith_builtin (by show (false || (backTo cpos (starEach es X.env)).any (·.1))=false;rw [hplain]<;>rfl) (Calls.evalArgs_plain ?_)
 exact thn hA fun us s2 ⟨vs,H2,I2,r2,q2⟩=>hm pins s2 σ H2 x vs v us Q I2 r1 r2 q2
end
def MtM (X:Cx) (id:String) (r:V->List V->Hp->VK->Prop):Prop :=
 ∀ (pins:List (Addr × Obj)) (s:Shared) (σ:St) (H:Hp) (x:V) (xs:List V) (v:Value) (us:List Value) (Q:VK),Inv X pins σ H s->RelV x v->Vals xs us->r x xs H Q ->
  wpAny (model X.prog X.w) X.A (call (.builtin id) (v::us)) (EP X pins σ Q) X.xe s
theorem Vals.one:∀ {x:V} {us:List Value},Vals [x] us->∃ u,us=[u]/\RelV x u
 | _,_,.cons r .nil=>⟨_,rfl,r⟩
theorem Vals.zero:∀ {us:List Value},Vals [] us->us=[]
 | _,.nil=>rfl
theorem Vals.dropLast {xs:List V} {us:List Value} (h:Vals xs us):Vals xs.dropLast us.dropLast:=by
 induction h with
 | nil=>exact .nil
 | cons r t ih =>
  cases t with
  | nil=>exact .nil
  | cons q t'=>exact .cons r ih
theorem erase_last {α:Type} (l:List α):l.eraseIdx (l.length - 1)=l.dropLast:=by
 induction l with
 | nil=>rfl
 | cons a r ih =>
  cases r with
  | nil=>rfl
  | cons b r =>
   have e:(a::b::r).length - 1=((b::r).length - 1)+1:=by
    have h1:(a::b::r).length=r.length+2:=rfl
    have h2:(b::r).length=r.length+1:=rfl
    omega
   rw [e,List.eraseIdx_cons_succ,ih]
   all_goals rfl
section
variable {X:Cx} {pins:List (Addr × Obj)} {σ:St} {H:Hp} {s:Shared} {l b:Addr} {xs ys zs:List V}
theorem Inv.lset {its its':List Value} {n:Nat} {f:Array Value->Array Value} {t':Nat} (I:Inv X pins σ H s) (hH:H l=some (.lst xs))
  (e:s.heap.get? l=some { cls:=.type "list",data:=.seq its.toArray n }) (hf:f its.toArray=its'.toArray) (hv:Vals ys its') (hz:ys.length<=sizeLine) :
  Inv X pins σ (upd H l (.lst ys)) { s with heap:=s.heap.update l (Obj.mapSeq f),toks:=t' }:=by
 have q:=PySem.IsL.update e f
 rw [hf] at q
 refine I.write (x:=l) (e:=l) (by rw [hH];exact trivial) (.inl rfl) (fun b' u hb hu=>(Heap.get?_update_other s.heap (Obj.mapSeq f) (Ne.symm hb)).trans hu) ⟨_,q⟩ ?_
 exact ⟨hz,its',_,hv,q⟩
theorem Inv.lnew {its:List Value} {t':Nat} (I:Inv X pins σ H s) (hv:Vals ys its) (hz:ys.length<=sizeLine) :
  Inv X pins σ (upd H s.heap.objs.size (.lst ys)) { s with heap:=s.heap.push { cls:=.type "list",data:=.seq its.toArray },toks:=t' } :=
 I.laid (fun _ _ q=>Heap.get?_push_of_some _ q) (Nat.le_refl _) ⟨hz,its,0,hv,Heap.get?_push_size _ rfl⟩
theorem Inv.fresh (I:Inv X pins σ H s):H s.heap.objs.size=none:=I.hok.fresh (Nat.le_refl _)
theorem Inv.lstM (I:Inv X pins σ H s) (hH:H l=some (.lst xs)):xs.length<=sizeLine/\∃ (its:List Value) (n:Nat),Vals xs its/\xs.length=its.length/\s.heap.get? l=some { cls:=.type "list",data:=.seq its.toArray n }:=by
 obtain ⟨z,its,n,r,e⟩:=I.hok l _ hH
 exact ⟨z,its,n,r,r.length,e⟩
end
section
variable {X:Cx}
def rAppend:V->List V->Hp->VK->Prop:=fun x vs H Q=>∃ l xs y,x=.ref l/\vs=[y]/\H l=some (.lst xs)/\xs.length < sizeLine/\Q .non (upd H l (.lst (xs++[y])))
theorem mt_append:MtM X "list.append" rAppend:=by
 intro pins s σ H x vs v us Q I rx rv h
 obtain ⟨l,xs,y,rfl,rfl,hH,hz,q⟩:=h
 cases rx
 obtain ⟨u,rfl,ru⟩:=rv.one
 obtain ⟨z,its,n,r,hl,e⟩:=I.lstM hH
 refine call_meets F.slot_list_append ⟨_,e,rfl⟩ F.entry_list_append (F.args_list_append_2 _ _) (PySem.list_append l its.toArray n u (by rw [List.size_toArray];omega)) ⟨e,?_⟩
 refine ⟨.non,_,I.lset (its':=its++[u]) hH e (by simp) (r.append (.cons ru .nil)) ?_,rfl,q⟩
 rw [List.length_append,List.length_singleton]
 omega
def rPop:V->List V->Hp->VK->Prop:=fun x vs H Q=>∃ l xs y,x=.ref l/\vs=[]/\H l=some (.lst xs)/\xs[xs.length - 1]?=some y/\Q y (upd H l (.lst xs.dropLast))
theorem mt_pop:MtM X "list.pop" rPop:=by
 intro pins s σ H x vs v us Q I rx rv h
 obtain ⟨l,xs,y,rfl,rfl,hH,hy,q⟩:=h
 cases rx
 have hus:=rv.zero
 subst hus
 obtain ⟨z,its,n,r,hl,e⟩:=I.lstM hH
 obtain ⟨u,hu,ru⟩:=r.get hy
 have hy':its.toArray[its.toArray.size - 1]?=some u:=by
  show its.toArray[its.length - 1]?=some u
  rw [<- Array.getElem?_toList,<- hl]
  exact hu
 refine call_meets F.slot_list_pop ⟨_,e,rfl⟩ F.entry_list_pop (F.args_list_pop_1 _) (MeetsSeq.list_pop_last l its.toArray n u hy' (by rw [List.size_toArray];omega)) ⟨e,?_⟩
 refine ⟨y,_,I.lset (its':=its.dropLast) hH e ?_ r.dropLast ?_,ru,q⟩
 ·show its.toArray.eraseIdxIfInBounds (its.toArray.size - 1)=its.dropLast.toArray
  rw [List.size_toArray,List.eraseIdxIfInBounds_toArray,erase_last]
 ·rw [List.length_dropLast]
  omega
def rCat:R2:=fun x y H Q=>∃ l b xs zs,x=.ref l/\y=.ref b/\H l=some (.lst xs)/\H b=some (.lst zs)/\xs.length+zs.length<=sizeLine/\∀ p,H p=none->Q (.ref p) (upd H p (.lst (xs++zs)))
theorem op_cat:OpR X (binaryOp .Add) rCat:=by
 intro pins s σ H x y v u Q I rx ry h
 obtain ⟨l,b,xs,zs,rfl,rfl,hH,hB,hz,q⟩:=h
 cases rx
 cases ry
 obtain ⟨z,its,n,r,hl,e⟩:=I.lstM hH
 obtain ⟨z2,its2,n2,r2,hl2,e2⟩:=I.lstM hB
 refine PySem.P.add_list e e2 ?_ (by rw [List.size_toArray,List.size_toArray];omega)
 have ea:its.toArray++its2.toArray=(its++its2).toArray:=by simp
 rw [ea]
 exact ⟨.ref _,_,I.lnew (t':=s.toks) (r.append r2) (by rw [List.length_append];omega),rfl,q _ I.fresh⟩
end
section
variable {prog:Program} {w:World} {A:Around} {E:Value->Shared->Prop} {s:Shared}
set_option maxRecDepth 100000 in
end
section
variable {X:Cx}
end
end L2
namespace Att
open PySem PySem.W PySem.Calls PyProof.Rows
theorem ints_of_wellAll {P:Params} {h:Heap}:∀ (ns:List Int) (vs:List Value),WellAll P h vs (ns.map WData.int)->IntsAre vs ns:=by
 intro ns
 induction ns with
 | nil =>
  intro vs w
  rw [List.map_nil] at w
  cases w
  exact .nil
 | cons n ns ih =>
  intro vs w
  rw [List.map_cons] at w
  cases w with
  | cons a b =>
   cases a
   exact .cons _ _ (ih _ b)
theorem script_of {l:OpenLaw} {n:Nat} (hn:l.most=some n) {P:Params} {h:Heap} {args:List WData} {vals:List Value}
  (hpre:l.row.toRowW.claim.pre args=true) (hwl:WellAll P h vals args) :
  ∃ a vs ns,vals=[Value.ref a]/\args=[WData.list (ns.map WData.int)]/\h.get? a=some { cls:=.type "list",data:=.seq vs.toArray }/\IntsAre vs ns/\ns.length<=n:=by
 have hsh:WShape.hasAll [] args [.list .int]=true:=(pre_splitW hpre).1
 have hc:l.pre.holds [] { args:=args }=true:=(pre_splitW hpre).2
 obtain ⟨d,r,rfl,h1,h2⟩:=hasAllW_cons hsh
 obtain rfl:=hasAllW_nil h2
 obtain ⟨xs,rfl,h3⟩:=hasW_list h1
 obtain ⟨ns,rfl⟩:=items_int h3
 have hlen:ns.length<=n:=by
  unfold OpenLaw.pre at hc
  have h4:(WTm.not (.lt (.lit (.int (n:Int))) (.len (.arg 0)))).holds [] { args:=[.list (ns.map .int)] }=true:=by
   have h4:=(holds_andW hc).1
   rw [hn] at h4
   exact h4
  have h5:=condW_of h4 (w_not (w_lt w_lit (w_len_list (w_arg rfl))))
  rw [List.length_map] at h5
  refine Nat.le_of_not_lt fun q=>?_
  have q':(n:Int) < ((ns.length:Nat):Int):=by omega
  first
   | (rw [decide_eq_true q'] at h5;exact absurd h5 (by decide))
   | (simp at h5;omega)
 cases hwl with
 | cons w1 w2 =>
  cases w2
  cases w1 with
  | list ho hall=>exact ⟨_,_,ns,rfl,rfl,ho,ints_of_wellAll ns _ hall,hlen⟩
theorem post_true (l:OpenLaw) (args:List WData):l.row.toRowW.claim.post args (.bool true) args=true :=
 postW_of (r:=l.row.toRowW) (X:=(true == true))
  (show WShape.has [] (.bool true) .bool=true by first | rfl | decide | simp [WShape.has,WShape.arms,WShape.armsAll])
  (show (WTm.eq .res (.lit (.bool true))).value [] { args:=args,res:=some (.bool true),after:=args }=some (.bool (true == true)) from w_eq_bool (w_res rfl) w_lit) rfl
theorem attach_call {l:OpenLaw} {n:Nat} {q:Program} {loose:List Str} {XP:(Str->Option Value)->Heap->Prop} {YP:World->Heap->Prop} {d:DefRec}
  (hn:l.most=some n) (hdf:d.params.defaults=[])
  (call:∀ (w:World) (s₀ s₁:Shared) (mg mb:Str->Option Value) (fa:Addr) (o:Obj) (pm cd doc:Value) (a:Addr) (vs:List Value) (ns:List Int),
   Ground q loose [] XP w s₀ mg mb s₁.heap->YP w s₁.heap ->
   s₁.heap.get? fa=some o->o.data=.func (docDef d.name d.params d.body d.scope pm cd doc)->s₁.heap.CodeRec cd d.name->mg d.name=some (.ref fa) ->
   s₁.heap.get? a=some { cls:=.type "list",data:=.seq vs.toArray }->IntsAre vs ns->ns.length<=n->s₁.gens=#[] ->
   codeAny (model l.prog w) callerA (.call (.ref fa) ⟨[.ref a],[]⟩) (fun r s'=>r=.ok (.ret (.bool true))/\OldK s₁.heap s'.heap/\s'.os=s₁.os/\AllBare s'.gens) s₁) :
  WalkO q loose XP YP l.row.toRowW d [] (fun f vs=>PySem.call f vs):=by
 intro w s₀ s₁ mg mb G Y fa o pm cd doc dV kV ho hd hcd hD hmg hg args vals as hpre hlay hrd hwl hlo
 obtain rfl:dV=.none:=Dflts.none hD hdf
 obtain rfl:kV=.none:=Dflts.noKw hD
 obtain ⟨a,vs,ns,rfl,rfl,hobj,hints,hlen⟩:=script_of hn hpre hwl
 refine enter_call (codeAny_mono (call w s₀ s₁ mg mb fa o pm cd doc a vs ns G Y ho (fd_plain hd) hcd hmg hobj hints hlen hg) fun r s' hq=>?_)
 obtain ⟨rfl,h2,h3,h4⟩:=hq
 exact ⟨.inl ⟨.bool true,.bool true,[],rfl,fun _=>rfl,.bool true,post_true l _,fun _=>⟨List.Pairwise.nil,fun _ hm=>(nomatch hm)⟩⟩,h2,h3,h4⟩
section
variable {prog:Program} {w:World} {A:Around} {E:Value->Shared->Prop} {s:Shared} {K:Frag}
def ledger (h:Heap) (L d:Addr):List (Addr × Obj):=(List.range h.objs.size).filterMap fun a=>if a=L\/a=d then none else (h.get? a).map fun o=>(a,o)
end
end Att
namespace L2
open PySem PySem.Spec PyProof.Rows
theorem vals_ints:∀ {vs:List Value} {ns:List Int},IntsAre vs ns->Vals (ns.map V.int) vs
 | _,_,.nil=>.nil
 | _,_,.cons n t h=>.cons ⟨t,rfl⟩ (vals_ints h)
def Only (H:Hp):Prop:=∀ b,H b=none\/∃ o xs,H b=some (.frz o (.lst xs))
theorem law_call {P:Program} {w:World} {K:PySem.W.Frag} {mg mb:Str->Option Value} {CX:CXT} {k:Nat} {fa a:Addr} {fd:FuncData} {x:Str} {sp:Sp} {s₁:Shared} {vs:List Value} {ns:List Int}
  (KX:K.In s₁.heap) (hns:s₁.heap.Ns mainGlobals mg) (hb:s₁.heap.Ns builtinsNs mb) (hbb:∀ x:Str,x≠"__name__" -> mb x=bootBuiltins x) (hlim:s₁.heap.NoLimit) (hg:s₁.gens=#[])
  (ha:s₁.heap.get? a=some { cls:=.type "list",data:=.seq vs.toArray }) (hi:IntsAre vs ns) (hl:ns.length<=sizeLine) (hr:Room k callerA)
  (F:∀ base:Heap,K.In base->base.Ns mainGlobals mg->FnOk P w K mg base CX k fa fd [x] sp) (hbind:∀ (s:Shared) (u:Value),BindsTo s fd ⟨[u],[]⟩ [(x,u)])
  (hsp:∀ H:Hp,Only H->SqL K H a (ns.map V.int)->sp [.ref a] H (fun v _=>v=.bl true) fun _ _ _=>False)
  (hCX:∀ H e s',CX [] H s₁ (fun _ _ _=>False) e s'->False) :
  codeAny (model P w) callerA (.call (.ref fa) ⟨[.ref a],[]⟩) (fun r s'=>r=.ok (.ret (.bool true))/\OldK s₁.heap s'.heap/\s'.os=s₁.os/\AllBare s'.gens) s₁:=by
 have rv:=vals_ints hi
 have lenV:=hi.length
 have core:∀ H:Hp,Only H->SqL K H a (ns.map V.int)->HOk P w H s₁.heap->(∀ b,H b≠none->b=a)->(H a≠none->K.lookup a=none) ->
   codeAny (model P w) callerA (.call (.ref fa) ⟨[.ref a],[]⟩) (fun r s'=>r=.ok (.ret (.bool true))/\OldK s₁.heap s'.heap/\s'.os=s₁.os/\AllBare s'.gens) s₁:=by
  intro H hO hS hok hA hK
  have base_of:∀ {b:Addr} {o:Obj},s₁.heap.get? b=some o->H b=none->(hidT s₁.heap H).get? b=some o:=fun e n=>hidT_get e n
  have noA:∀ {b:Addr} {o:Obj} {es:Array DictEntry} {ep:Nat},s₁.heap.get? b=some o->o.data=.dict es ep->H b=none:=fun {b o es ep} e d=>by
   cases q:H b with
   | none=>rfl
   | some u =>
    have e':b=a:=hA b (by rw [q];simp)
    subst e'
    rw [ha] at e;cases e
    have d':Data.seq vs.toArray _=Data.dict es ep:=d
    cases d'
  have nsK:∀ {b:Addr} {m:Str->Option Value},s₁.heap.Ns b m->(hidT s₁.heap H).Ns b m:=fun {b m} ⟨o,es,ep,e,d,r⟩=>⟨o,es,ep,base_of e (noA e d),d,r⟩
  have hKb:K.In (hidT s₁.heap H):=fun b o e=>base_of (KX b o e) (by
   cases q:H b with
   | none=>rfl
   | some u =>
    have e':b=a:=hA b (by rw [q];simp)
    subst e'
    rw [hK (by rw [q];simp)] at e;cases e)
  have hM:Mod K mg (hidT s₁.heap H):=⟨hKb,nsK hns,⟨mb,nsK hb,hbb⟩,let ⟨mc,h1,h2⟩:=hlim;⟨mc,nsK h1,h2⟩⟩
  have e0:Env0 P w K mg (hidT s₁.heap H) callerA [] s₁ H:=⟨rfl,hM,fun b o e=>of_hidT e,Nat.le_of_eq (hidT_size _ _),trivial,fun b hb=>absurd (show b∈([]:List Addr) from hb) (by simp),hok,.of_eq hg⟩
  refine codeAny_mono ((F _ hKb (nsK hns)).run callerA [] s₁ H ⟨[.ref a],[]⟩ [.ref a] [.ref a] _ _ hr e0 (hbind s₁ (.ref a)) (.cons rfl .nil) (hsp H hO hS)) fun r s' h=>?_
  cases r with
  | error e=>exact (hCX H e s' h).elim
  | ok fl =>
   cases fl with
   | next=>exact False.elim h
   | brk=>exact False.elim h
   | cont=>exact False.elim h
   | ret u =>
    obtain ⟨v,H',os,bare,un,hok',r',q⟩:=h
    have q':v=.bl true:=q
    subst q'
    obtain rfl:u=Value.bool true:=r'
    refine ⟨rfl,OldK.of_keep fun b o e=>?_,os,bare⟩
    cases q:H b with
    | none=>exact un.keep b o e q (by intro z;exact absurd (show b∈([]:List Addr) from z) (by simp)) (by simp)
    | some u =>
     rcases hO b with z | ⟨ob,xs,z⟩
     ·rw [q] at z;cases z
     ·have z2:=un.frzs b ob _ z
      obtain ⟨e1,_⟩:=hok b _ z
      obtain ⟨e2,_⟩:=hok' b _ z2
      rw [e] at e1;cases e1
      exact e2
 cases hk:K.lookup a with
 | some o =>
  have e:=KX a o hk
  rw [ha] at e
  cases e
  refine core (fun _=>none) (fun _=>.inl rfl) (.inr ⟨_,vs.toArray,_,hk,rfl,rfl,rfl,by rw [List.size_toArray,lenV];exact hl,by simpa using rv⟩) (fun b u z=>by have z':(none:Option HO)=some u:=z;cases z') (fun b z=>absurd rfl z) fun z=>absurd rfl z
 | none =>
  refine core (fun b=>if b=a then some (.frz { cls:=.type "list",data:=.seq vs.toArray } (.lst (ns.map V.int))) else none) (fun b=>?_) (.inl (.inr ⟨{ cls:=.type "list",data:=.seq vs.toArray },if_pos rfl⟩)) (fun b u z=>?_) (fun b z=>?_) fun _=>hk
  ·by_cases hb:b=a
   ·exact .inr ⟨_,_,if_pos hb⟩
   ·exact .inl (if_neg hb)
  ·by_cases hb:b=a
   ·have z':=(if_pos hb).symm.trans z
    cases z'
    subst hb
    exact ⟨ha,by rw [List.length_map];exact hl,vs,_,rv,ha⟩
   ·have z':=(if_neg hb).symm.trans z
    cases z'
  ·by_cases hb:b=a
   ·exact hb
   ·exact absurd (if_neg hb) z
abbrev KOf {K:PySem.W.Frag} {h:Heap} (_:K.In h):PySem.W.Frag:=K
theorem walk_of {l:PySem.W.OpenLaw} {n k:Nat} {q:Program} {loose:List Str} {XP:(Str->Option Value)->Heap->Prop} {YP:World->Heap->Prop} {d:DefRec} {K:Params->PySem.W.Frag} {CX:World->CXT} {sp:World->Sp} {x:Str}
  (hn:l.most=some n) (hn2:n<=sizeLine) (hdf:d.params.defaults=[]) (hr:Room k callerA)
  (hY:∀ (w:World) (h:Heap),YP w h->(K w.params).In h)
  (F:∀ (w:World) (mg:Str->Option Value) (fa:Addr) (h:Heap),(K w.params).In h->h.Ns mainGlobals mg->mg d.name=some (.ref fa) ->
   ∃ fd:FuncData,(∀ (s:Shared) (u:Value),BindsTo s fd ⟨[u],[]⟩ [(x,u)]) /\
    ∀ base:Heap,(K w.params).In base->base.Ns mainGlobals mg->FnOk l.prog w (K w.params) mg base (CX w) k fa fd [x] (sp w))
  (hsp:∀ (w:World) (H:Hp) (a:Addr) (ns:List Int),ns.length<=n->Only H->SqL (K w.params) H a (ns.map V.int)->sp w [.ref a] H (fun v _=>v=.bl true) fun _ _ _=>False)
  (hCX:∀ (w:World) (H:Hp) (s:Shared) (e:Value) (s':Shared),CX w [] H s (fun _ _ _=>False) e s'->False) :
  PySem.W.WalkO q loose XP YP l.row.toRowW d [] (fun f vs=>PySem.call f vs):=by
 refine Att.attach_call hn hdf fun w s₀ s₁ mg mb fa o pm cd doc a vs ns G Y ho hd hcd hmg hobj hints hlen hg=>?_
 have KX:=hY w _ Y
 obtain ⟨fd,hb,hF⟩:=F w mg fa _ KX G.T.g hmg
 exact law_call KX G.T.g G.T.b G.T.builtins G.T.nolimit hg hobj hints (Nat.le_trans hlen hn2) hr hF hb (fun H hO hS=>hsp w H a ns hlen hO hS) fun H e s'=>hCX w H s₁ e s'
def inClass (s:Stmt) (j:Nat):Stmt:=match s with
 | .ClassDef _ _ _ body _ _ _ _ _ _ _=>body.getD j (.Pass ⟨0,0,0,0⟩)
 | _=>.Pass ⟨0,0,0,0⟩
def defArgs (s:Stmt):Arguments:=match s with
 | .FunctionDef _ a _ _ _ _ _ _ _ _=>a
 | _=>{ posonlyargs:=[],args:=[],vararg:=none,kwonlyargs:=[],kw_defaults:=[],kwarg:=none,defaults:=[] }
def defBody (s:Stmt):List Stmt:=match s with
 | .FunctionDef _ _ b _ _ _ _ _ _ _=>b
 | _=>[]
def defScope (s:Stmt):Scope:=match s with
 | .FunctionDef _ _ _ _ _ _ sc _ _ _=>sc
 | _=>{ kind:=.function,names:=[],isGenerator:=false,isCoroutine:=false }
abbrev CX0:CXT:=fun _ _ _ _ _ _=>False
abbrev E0:XK:=fun _ _ _=>False
theorem pass0 {X:Cx}:Passes CX0 X E0:=fun _ _ _ _ _ _ _ h=>h.elim
structure Fun (K:PySem.W.Frag) (x qual:Str) (st:Stmt) (f:Addr) (fd:FuncData):Prop where
 ex:∃ (oc:Value) (od:Option Addr) (kV doc pm:Value) (an:Option Addr) (cdv ct:Value) (osl:Array (Option Value)),
  fd=PySem.W.fnOf x qual (defArgs st) (defBody st) (defScope st) .none kV doc pm an cdv ct/\K.lookup f=some ⟨oc,od,.func fd,osl⟩/\PySem.W.codeIn K cdv qual=true
 kp:PySem.W.keepIn K (.ref f)=true
section
variable {P:Program} {w:World} {K:PySem.W.Frag} {mg:Str->Option Value} {base:Heap}
theorem Fun.ok {x qual:Str} {st:Stmt} {f:Addr} {fd:FuncData} {N ps:List Str} {k:Nat} {sp:Sp} (F:Fun K x qual st f fd) (S:FnScope N ps (defScope st)) (len:∀ vs H Q E,sp vs H Q E->vs.length=ps.length)
  (hbody:∀ (cdv:Value) (A:Around) (outer:List Env) (s:Shared) (H:Hp) (vs:List V) (Q:VK) (E:XK),Room k (A.deeper (envOfC qual (defScope st) s.heap.objs.size f cdv))->sp vs H Q E ->
   ∃ t,PSs (cxOf CX0 P w K mg base N qual (defScope st) f cdv A outer s H E).nox (defBody st) t/\t { nx:=fun _ H'=>Q .non H',rt:=Q } (start N vs) H):FnOk P w K mg base CX0 (k+1) f fd ps sp:=by
 obtain ⟨oc,od,kV,doc,pm,an,cdv,ct,osl,rfl,lk,hcd⟩:=F.ex
 refine fn_of lk hcd S len fun A outer s H vs Q E hr hsp=>?_
 obtain ⟨t,h,q⟩:=hbody cdv A outer s H vs Q E hr hsp
 exact ⟨t,h.nox,q⟩
theorem Fun.binds {x qual:Str} {st:Stmt} {f:Addr} {fd:FuncData} {ps:List Str} (F:Fun K x qual st f fd)
  (h:∀ (kV doc pm:Value) (an:Option Addr) (cdv ct:Value) (us:List Value),us.length=ps.length->bindArgs (PySem.W.fnOf x qual (defArgs st) (defBody st) (defScope st) .none kV doc pm an cdv ct) ⟨us,[]⟩=pure (ps.zip us)):Binds K fd ps []:=by
 obtain ⟨oc,od,kV,doc,pm,an,cdv,ct,osl,rfl,lk,hcd⟩:=F.ex
 exact .all (h kV doc pm an cdv ct)
theorem fun_mk {x qual:Str} {st:Stmt} {f:Addr} {oc:Value} {od an:Option Addr} {osl:Array (Option Value)} {kV doc pm cdv ct:Value} (l:K.lookup f=some ⟨oc,od,.func (PySem.W.fnOf x qual (defArgs st) (defBody st) (defScope st) .none kV doc pm an cdv ct),osl⟩)
  (c:W.codeIn K cdv qual=true) (k:W.keepIn K (.ref f)=true):Fun K x qual st f (W.fnOf x qual (defArgs st) (defBody st) (defScope st) .none kV doc pm an cdv ct):=⟨⟨oc,od,kV,doc,pm,an,cdv,ct,osl,rfl,l,c⟩,k⟩
end
theorem hu_of {A:Around} {k:Nat} (hr:Room k A):A.units+1 < cLine:=Nat.lt_of_le_of_lt (Nat.add_le_add_left (by decide:1<=64) _) hr.units
theorem small1000 {n:Nat} (h:n<=1000):n < sizeLine:=Nat.lt_of_le_of_lt h (by decide)
section
variable {X:Cx}
theorem pv (i:Nat) {x:Str} {pos:Pos} (hN:X.N[i]?=some x:=by rfl) (hv:Vis X.env.scope x:=by first | exact Or.inl rfl | exact Or.inr (Or.inl rfl) | exact Or.inr (Or.inr rfl)) (hd:(x == ("__debug__" : Str))=false:=by decide)
  (hcd:(x == ("__classdict__" : Str))=false:=by decide):PE X (.Name x pos) (tVar i):=pe_var hN hv hd hcd
end
theorem iteF {A B:Prop} (h:B):if false=true then A else B:=by
 rw [if_neg Bool.false_ne_true]
 exact h
theorem iteT {A B:Prop} (h:A):if true=true then A else B:=by
 rw [if_pos rfl]
 exact h
theorem ite2 {c A B:Prop} [Decidable c] (h1:c->A) (h2:¬ c->B):if c then A else B:=by
 by_cases h:c
 ·rw [if_pos h]
  exact h1 h
 ·rw [if_neg h]
  exact h2 h
def Same (H H':Hp):Prop:=∀ b o,H b=some o->H' b=some o
theorem Same.refl (H:Hp):Same H H:=fun _ _ h=>h
theorem Same.trans {H H1 H2:Hp} (a:Same H H1) (b:Same H1 H2):Same H H2:=fun c o h=>b c o (a c o h)
theorem Same.free {H H':Hp} (e:Same H H') {l:Addr} (h:H' l=Option.none):H l=Option.none:=by
 cases q:H l with
 | none=>rfl
 | some o =>
  rw [e l o q] at h
  cases h
theorem Same.seq {K:PySem.W.Frag} {H H':Hp} {a:Addr} {xs:List V} (e:Same H H') (h:SqL K H a xs):SqL K H' a xs:=by
 rcases h with (h | ⟨o,h⟩) | h
 ·exact .inl (.inl (e _ _ h))
 ·exact .inl (.inr ⟨o,e _ _ h⟩)
 ·exact .inr h
end L2
set_option maxHeartbeats 4000000
namespace L2
open PySem PySem.Spec PyProof.Rows
section
variable {κ:Type} [DecidableEq κ]
def valV (kvs:List (κ × V)) (k:κ):Option V:=(kvs.find? fun kv=>decide (kv.1=k)).map (·.2)
def putK (kvs:List (κ × V)) (k:κ) (v:V):List (κ × V) :=
 if (kvs.any fun kv=>decide (kv.1=k))=true then kvs.map (fun kv=>if kv.1=k then (kv.1,v) else kv) else kvs++[(k,v)]
theorem valV_pos {p:κ × V} {r:List (κ × V)} {k:κ} (e:p.1=k):valV (p::r) k=some p.2:=by simp [valV,List.find?_cons,e]
theorem valV_neg {p:κ × V} {r:List (κ × V)} {k:κ} (e:¬ p.1=k):valV (p::r) k=valV r k:=by simp [valV,List.find?_cons,e]
theorem valV_any (k:κ):∀ kvs:List (κ × V),(kvs.any fun kv=>decide (kv.1=k))=(valV kvs k).isSome
 | []=>rfl
 | p::r=>by
  rw [List.any_cons]
  by_cases e:p.1=k
  ·simp only [valV_pos e,decide_eq_true e,Bool.true_or,Option.isSome_some]
  ·rw [valV_neg e,decide_eq_false e,Bool.false_or];exact valV_any k r
theorem length_putK (kvs:List (κ × V)) (k:κ) (v:V):(putK kvs k v).length<=kvs.length+1:=by
 unfold putK
 split
 ·rw [List.length_map];omega
 ·rw [List.length_append,List.length_cons,List.length_nil];omega
theorem putK_new {kvs:List (κ × V)} {k:κ} (v:V) (h:valV kvs k=none):putK kvs k v=kvs++[(k,v)]:=by
 unfold putK
 rw [valV_any,h]
 exact if_neg (by decide)
theorem RelO.isSome_eq {o:Option V} {u:Option Value} (r:RelO o u):o.isSome=u.isSome:=by
 cases o with
 | none=>cases u with
  | none=>rfl
  | some _=>exact (show False from r).elim
 | some _=>cases u with
  | none=>exact (show False from r).elim
  | some _=>rfl
theorem KV.val {kvs:List (κ × V)} {vs:List (κ × Value)} (r:KV kvs vs) (k:κ):RelO (valV kvs k) (valueAt vs k):=by
 unfold KV at r
 induction r with
 | nil=>exact True.intro
 | @cons p q ps qs h t ih =>
  obtain ⟨h1,h2⟩:=h
  by_cases e:p.1=k
  ·have e':q.1=k:=h1.symm.trans e
   have b:valueAt (q::qs) k=some q.2:=by simp [valueAt,List.find?_cons,e']
   rw [valV_pos e,b];exact h2
  ·have e':¬ q.1=k:=fun z=>e (h1.trans z)
   have b:valueAt (q::qs) k=valueAt qs k:=by simp [valueAt,List.find?_cons,e']
   rw [valV_neg e,b];exact ih
theorem KV.any {kvs:List (κ × V)} {vs:List (κ × Value)} (r:KV kvs vs) (k:κ):(kvs.any fun kv=>decide (kv.1=k))=vs.any fun kv=>decide (kv.1=k):=by
 unfold KV at r
 induction r with
 | nil=>rfl
 | cons h t ih=>rw [List.any_cons,List.any_cons,ih,h.1]
theorem KV.repl {kvs:List (κ × V)} {vs:List (κ × Value)} (r:KV kvs vs) (k:κ) {y:V} {u:Value} (ry:RelV y u) :
  KV (kvs.map fun kv=>if kv.1=k then (kv.1,y) else kv) (vs.map fun kv=>if kv.1=k then (kv.1,u) else kv):=by
 unfold KV at r ⊢
 induction r with
 | nil=>exact .nil
 | @cons p q ps qs h t ih =>
  rw [List.map_cons,List.map_cons]
  refine .cons ?_ ih
  obtain ⟨h1,h2⟩:=h
  by_cases e:p.1=k
  ·rw [if_pos e,if_pos (h1.symm.trans e)];exact ⟨h1,ry⟩
  ·rw [if_neg e,if_neg (fun z=>e (h1.trans z))];exact ⟨h1,h2⟩
theorem KV.put {kvs:List (κ × V)} {vs:List (κ × Value)} (r:KV kvs vs) (k:κ) {y:V} {u:Value} (ry:RelV y u):KV (putK kvs k y) (stored vs k u):=by
 unfold putK stored
 rw [r.any k]
 by_cases e:(vs.any fun kv=>decide (kv.1=k))=true
 ·rw [if_pos e,if_pos e];exact r.repl k ry
 ·rw [if_neg e,if_neg e];exact Paired.snoc r ⟨rfl,ry⟩
theorem KV.keys {kvs:List (κ × V)} {vs:List (κ × Value)} (r:KV kvs vs):kvs.map (·.1)=vs.map (·.1):=by
 unfold KV at r
 induction r with
 | nil=>rfl
 | cons h t ih=>rw [List.map_cons,List.map_cons,ih,h.1]
theorem KV.length {kvs:List (κ × V)} {vs:List (κ × Value)} (r:KV kvs vs):kvs.length=vs.length:=Paired.length r
end
theorem kV_is {P:Program} {w:World} {k:Key} {u:Value} (r:RelV (kV k) u):(mixKind P w).is k u=true:=by
 cases k with
 | inl i=>obtain ⟨t,e⟩:=(show ∃ t,u=Value.int i t from r);subst e;exact mixKind_int P w i t
 | inr x=>obtain ⟨t,e⟩:=(show ∃ t,u=Value.str x t from r);subst e;exact mixKind_str P w x t
theorem items_are {P:Program} {w:World}:∀ {ks:List Key} {us:List Value},Vals (ks.map kV) us->ItemsAre (mixKind P w) ks us
 | [],_,r=>by rw [List.map_nil] at r;cases r;exact .nil
 | k::ks,_,r=>by
  rw [List.map_cons] at r
  cases r with
  | cons h t=>exact .cons (kV_is h) (items_are t)
abbrev KT (H:Hp):List (List Key × V)->List (List Key × Addr × Value)->Prop:=Paired fun p q=>p.1=q.1/\H q.2.1=some (.tup (p.1.map kV))/\RelV p.2 q.2.2
theorem KT.val {H:Hp} {kvs:List (List Key × V)} {xs:List (List Key × Addr × Value)} (r:KT H kvs xs) (k:List Key):RelO (valV kvs k) ((atKey xs k).map (·.2)):=by
 induction r with
 | nil=>exact True.intro
 | @cons p q ps qs h t ih =>
  obtain ⟨h1,_,h2⟩:=h
  by_cases e:p.1=k
  ·have e':q.1=k:=h1.symm.trans e
   have b:atKey (q::qs) k=some q.2:=by simp [atKey,List.find?_cons,e']
   rw [valV_pos e,b];exact h2
  ·have e':¬ q.1=k:=fun z=>e (h1.trans z)
   have b:atKey (q::qs) k=atKey qs k:=by simp [atKey,List.find?_cons,e']
   rw [valV_neg e,b];exact ih
theorem KT.repl {H:Hp} {kvs:List (List Key × V)} {xs:List (List Key × Addr × Value)} (r:KT H kvs xs) (k:List Key) {y:V} {u:Value} (ry:RelV y u) :
  KT H (kvs.map fun kv=>if kv.1=k then (kv.1,y) else kv) (xs.map (putAt k u)):=by
 induction r with
 | nil=>exact .nil
 | @cons p q ps qs h t ih =>
  rw [List.map_cons,List.map_cons]
  refine .cons ?_ ih
  obtain ⟨h1,h2,h3⟩:=h
  unfold putAt
  by_cases e:p.1=k
  ·rw [if_pos e,if_pos (h1.symm.trans e)];exact ⟨h1,h2,ry⟩
  ·rw [if_neg e,if_neg (fun z=>e (h1.trans z))];exact ⟨h1,h2,h3⟩
theorem KT.put {H:Hp} {kvs:List (List Key × V)} {xs:List (List Key × Addr × Value)} (r:KT H kvs xs) (k:List Key) {b:Addr} {y:V} {u:Value} (hb:H b=some (.tup (k.map kV))) (ry:RelV y u) :
  KT H (putK kvs k y) (storedH xs k b u):=by
 have e:(kvs.any fun kv=>decide (kv.1=k))=(atKey xs k).isSome:=by
  rw [valV_any,(r.val k).isSome_eq,Option.isSome_map]
 unfold putK storedH
 rw [e]
 by_cases q:(atKey xs k).isSome=true
 ·rw [if_pos q,if_pos q];exact r.repl k ry
 ·rw [if_neg q,if_neg q];exact Paired.snoc r ⟨rfl,hb,ry⟩
theorem KT.keeps {H H':Hp} {kvs:List (List Key × V)} {xs:List (List Key × Addr × Value)} (r:KT H kvs xs) (ht:∀ b ys,H b=some (.tup ys)->H' b=some (.tup ys)):KT H' kvs xs :=
 Paired.mapP r fun _ _ z=>⟨z.1,ht _ _ z.2.1,z.2.2⟩
section
variable {P:Program} {w:World} {H:Hp} {h:Heap} {a:Addr}
theorem rd_of {u:HO} (ok:HOk P w H h) (e:Rd H a u):ObjOk P w H h a u:=e.ok ok
theorem dk_rd {kvs:List (Key × V)} (ok:HOk P w H h) (e:Rd H a (.dK kvs)):kvs.length<=sizeLine/\(a == sysModules)=false/\∃ vs,KV kvs vs/\h.DictOf (mixKind P w) a vs :=
 show ObjOk P w H h a (.dK kvs) from rd_of ok e
theorem dk_of {kvs:List (Key × V)} (ok:HOk P w H h) (e:H a=some (.dK kvs)):kvs.length<=sizeLine/\(a == sysModules)=false/\∃ vs,KV kvs vs/\h.DictOf (mixKind P w) a vs:=dk_rd ok (.inl e)
theorem key_of {ks:List Key} (ok:HOk P w H h) (e:H a=some (.tup (ks.map kV))):(tupleKind (mixKind P w)).is h ks a:=by
 obtain ⟨_,its,r,o,h1,h2,n,h3⟩:=(show ObjOk P w H h a (.tup (ks.map kV)) from ok a _ e)
 exact ⟨o,its.toArray,n,h1,h2,h3,by simpa using items_are r⟩
theorem dt_rd {kvs:List (List Key × V)} (ok:HOk P w H h) (e:Rd H a (.dT kvs)):kvs.length<=sizeLine/\(a == sysModules)=false /\
  ∃ xs,KT H kvs xs/\h.DictOfH (tupleKind (mixKind P w)) a xs:=by
 obtain ⟨z,y,xs,r,o,es,ep,h1,h2,h3,h4,h5⟩:=(show ObjOk P w H h a (.dT kvs) from rd_of ok e)
 refine ⟨z,y,xs,r,o,es,ep,h1,h2,h3,h4,fun x hx=>?_,h5⟩
 have all:∀ {l:List (List Key × V)} {m:List (List Key × Addr × Value)},KT H l m->∀ x∈m,(tupleKind (mixKind P w)).is h x.1 x.2.1:=by
  intro l m q
  induction q with
  | nil=>intro x hx;exact nomatch hx
  | @cons p q ps qs hq t ih =>
   intro x hx
   rcases List.mem_cons.mp hx with e | hx
   ·subst e
    exact key_of ok (by rw [<- hq.1];exact hq.2.1)
   ·exact ih x hx
 exact all r x hx
theorem dt_of {kvs:List (List Key × V)} (ok:HOk P w H h) (e:H a=some (.dT kvs)):kvs.length<=sizeLine/\(a == sysModules)=false /\
  ∃ xs,KT H kvs xs/\h.DictOfH (tupleKind (mixKind P w)) a xs:=dt_rd ok (.inl e)
end
def DGet (H:Hp) (a:Addr) (y:V) (r:Option V):Prop :=
 (∃ kvs k,Rd H a (.dK kvs)/\y=kV k/\r=valV kvs k)\/∃ kvs k b,Rd H a (.dT kvs)/\y=.ref b/\H b=some (.tup (k.map kV))/\r=valV kvs k
def DPut (H:Hp) (a:Addr) (y v:V) (H':Hp):Prop :=
 (∃ kvs k,H a=some (.dK kvs)/\y=kV k/\kvs.length < sizeLine/\H'=upd H a (.dK (putK kvs k v))) \/
 ∃ kvs k b,H a=some (.dT kvs)/\y=.ref b/\H b=some (.tup (k.map kV))/\kvs.length < sizeLine/\H'=upd H a (.dT (putK kvs k v))
theorem DGet.k {H:Hp} {a:Addr} {kvs:List (Key × V)} {k:Key} (e:H a=some (.dK kvs)):DGet H a (kV k) (valV kvs k):=.inl ⟨kvs,k,.inl e,rfl,rfl⟩
theorem DPut.k {H:Hp} {a:Addr} {kvs:List (Key × V)} {k:Key} {v:V} (e:H a=some (.dK kvs)) (hl:kvs.length < sizeLine):DPut H a (kV k) v (upd H a (.dK (putK kvs k v))):=.inl ⟨kvs,k,e,rfl,hl,rfl⟩
section
variable {X:Cx} {pins:List (Addr × Obj)} {σ:St} {H:Hp} {s:Shared} {a:Addr} {y v:V} {u r:Value} {o:Option V} {A:Around} {E:Value->Shared->Prop}
theorem Inv.big (I:Inv X pins σ H s):sysModules < s.heap.objs.size:=by
 have h:mainGlobals < s.heap.objs.size:=(I.mod.glob.keeps I.bk).lt
 exact Nat.lt_trans (by decide) h
theorem d_getItem {Q:Value->Shared->Prop} (hu:A.units+1 < cLine) (I:Inv X pins σ H s) (g:DGet H a y (some v)) (ry:RelV y u) (h:∀ w' s',Inv X pins σ H s'->RelV v w'->Q w' s') :
  wpAny (model X.prog X.w) A (getItem (.ref a) u) Q E s:=by
 rcases g with ⟨kvs,k,e,ey,l⟩ | ⟨kvs,k,b,e,ey,eb,l⟩
 ·subst ey
  obtain ⟨z,hd,vs,rel,dd⟩:=dk_rd I.hok e
  obtain ⟨w',hw,rw'⟩:=RelO.some_of (v:=v) (o:=valueAt vs k) (by rw [l];exact rel.val k)
  exact wpAny_getItem_of (kV_is ry) dd.mapOf hw (h w' _ (I.tok _) rw')
 ·subst ey
  cases (show u=Value.ref b from ry)
  obtain ⟨z,hd,xs,rel,dd⟩:=dt_rd I.hok e
  obtain ⟨w',hw,rw'⟩:=RelO.some_of (v:=v) (o:=(atKey xs k).map (·.2)) (by rw [l];exact rel.val k)
  obtain ⟨p,hp,hp2⟩:=Option.map_eq_some_iff.mp hw
  refine wpAny_getItem_heap (tupleKind_room_in1 hu) (key_of I.hok eb) dd hp ?_
  rw [hp2]
  exact h w' _ (I.tok _) rw'
theorem d_notIn {Q:Value->Shared->Prop} (hu:A.units+1 < cLine) (I:Inv X pins σ H s) (g:DGet H a y o) (ry:RelV y u) (h:∀ s',Inv X pins σ H s'->Q (.bool (!o.isSome)) s') :
  wpAny (model X.prog X.w) A (compareOp .NotIn u (.ref a)) Q E s:=by
 rcases g with ⟨kvs,k,e,ey,l⟩ | ⟨kvs,k,b,e,ey,eb,l⟩
 ·subst ey
  obtain ⟨z,hd,vs,rel,dd⟩:=dk_rd I.hok e
  refine wpAny_notIn_of (kV_is ry) hd dd.mapOf ?_
  rw [<- (rel.val k).isSome_eq,<- l]
  exact h _ (I.tok _)
 ·subst ey
  cases (show u=Value.ref b from ry)
  obtain ⟨z,hd,xs,rel,dd⟩:=dt_rd I.hok e
  refine wpAny_notIn_heap (tupleKind_room_in1 hu) (key_of I.hok eb) hd dd ?_
  have q:=(rel.val k).isSome_eq
  rw [Option.isSome_map] at q
  rw [<- q,<- l]
  exact h _ (I.tok _)
theorem d_write {h':Heap} {t':Nat} {ob:HO} (I:Inv X pins σ H s) (mu:Mut (H a)) (hs:Heap.SameBut a s.heap h') (he:∃ q,h'.get? a=some q) (new:ObjOk X.prog X.w (upd H a ob) h' a ob) :
  Inv X pins σ (upd H a ob) { s with heap:=h',toks:=t' } :=
 I.write (x:=a) (e:=a) mu (.inl rfl) (fun b q hb z=>(hs.2 b hb).trans z) he new
theorem dk_new {P:Program} {w:World} {H':Hp} {h':Heap} {kvs:List (Key × V)} {vs:List (Key × Value)} (z:kvs.length<=sizeLine) (hd:(a == sysModules)=false) (rel:KV kvs vs) (dd:h'.DictOf (mixKind P w) a vs) :
  ObjOk P w H' h' a (.dK kvs):=⟨z,hd,vs,rel,dd⟩
theorem d_setItem {H':Hp} {Q:Unit->Shared->Prop} (hu:A.units+1 < cLine) (I:Inv X pins σ H s) (g:DPut H a y v H') (ry:RelV y u) (rv:RelV v r) (h:∀ s',Inv X pins σ H' s'->Q () s') :
  wpAny (model X.prog X.w) A (setItem (.ref a) u r) Q E s:=by
 rcases g with ⟨kvs,k,e,ey,l,eH⟩ | ⟨kvs,k,b,e,ey,eb,l,eH⟩
 ·subst ey eH
  obtain ⟨z,hd,vs,rel,dd⟩:=dk_of I.hok e
  have hz:vs.length<=sizeLine:=by rw [<- rel.length];exact z
  have hl:(putK kvs k v).length<=sizeLine:=by have:=length_putK kvs k v;omega
  refine wpAny_setItem_pairs (hsz:=hz) (kV_is ry) dd fun h' dd' hs=>h _ ?_
  have he:∃ q,h'.get? a=some q:=let ⟨q,_,_,hq,_⟩:=dd';⟨q,hq⟩
  exact d_write I (by rw [e];exact True.intro) hs he (dk_new hl hd (rel.put k rv) dd')
 ·subst ey eH
  cases (show u=Value.ref b from ry)
  obtain ⟨z,hd,xs,rel,dd⟩:=dt_of I.hok e
  have hz:xs.length<=sizeLine:=by rw [<- Paired.length rel];exact z
  have hl:(putK kvs k v).length<=sizeLine:=by have:=length_putK kvs k v;omega
  refine wpAny_setItem_heap (hsz:=hz) (tupleKind_room_in1 hu) (key_of I.hok eb) dd fun h' dd' hs=>h _ ?_
  obtain ⟨q,es,ep,hq,h2,h3,h4,_,h5⟩:=dd'
  refine d_write I (by rw [e];exact True.intro) hs ⟨q,hq⟩ ⟨hl,hd,_,(rel.put k eb rv).keeps fun c ys ec=>?_,q,es,ep,hq,h2,h3,h4,h5⟩
  rw [upd_ne (ne_of ec e (fun z=>nomatch z))]
  exact ec
end
section
variable {X:Cx} {pins:List (Addr × Obj)} {σ:St} {H:Hp} {s:Shared} {a:Addr} {kvs:List (Key × V)} {k:Key} {u:Value} {A:Around} {E:Value->Shared->Prop}
end
def NoSl (i:Expr):Prop:=∀ ov iv,subscripted i false ov iv=operate [ov,iv] (getItem ov iv)
theorem subD_of {prog:Program} {w:World} {A:Around} {E:Value->Shared->Prop} {s:Shared} {env:Env} {value slice:Expr} {pos:Pos} {T id:String} {Q:Value->Shared->Prop}
  (hl:typeLookup (.type T) "__getitem__" = pure (some (.builtin id))) (hs:NoSl slice)
  (h:wpAny (model prog w) A (eval value env) (fun o s₁=>wpAny (model prog w) A (eval slice env) (fun i s₂=>s₂.TypeIs o T/\wpAny (model prog w) A (getItem o i) Q E s₂) E s₁) E s) :
  wpAny (model prog w) A (eval (.Subscript value slice pos) env) Q E s:=by
 refine Subscript_ (wpAny_mono h (fun o s₁ h₁=>wpAny_mono h₁ (fun i s₂ h₂=>?_) fun _ _ x=>x) fun _ _ x=>x)
 obtain ⟨hT,h₂⟩:=h₂
 unfold subscriptTail
 refine wpAny_bind ?_
 rw [getitemInPython_of_ne hT.not_modules]
 refine wpAny_bind (wpAny_specialOf hT hl ?_)
 have fin:wpAny (model prog w) A (subscripted slice false o i) (fun r s₃=>wpAny (model prog w) A (letTemporaryGo value o r >>= fun _=>pure r) Q E s₃) E s₂:=by
  rw [hs o i]
  exact wpAny_operating (wpAny_mono h₂ (fun r s₃ h₃=>wpAny_bind (wpAny_letTemporaryGo (wpAny_pure h₃))) fun _ _ x=>x)
 first
  | exact wpAny_pure (wpAny_bind fin)
  | exact wpAny_bind (wpAny_pure (wpAny_bind fin))
  | exact wpAny_bind fin
theorem dict_typeIs {X:Cx} {pins:List (Addr × Obj)} {σ:St} {H:Hp} {s:Shared} {a:Addr} {y:V} {o:Option V} (I:Inv X pins σ H s) (g:DGet H a y o):s.TypeIs (.ref a) "dict" := by
 rcases g with ⟨kvs,k,e,_,_⟩ | ⟨kvs,k,b,e,_,_,_⟩
 ·obtain ⟨_,_,vs,_,dd⟩:=dk_rd I.hok e
  exact dd.typeIs
 ·obtain ⟨_,_,xs,_,dd⟩:=dt_rd I.hok e
  exact dd.typeIs
def tDGet (td ty:TE):TE:=fun σ H Q=>td σ H fun x H1=>ty σ H1 fun y H2=>∃ a v,x=.ref a/\DGet H2 a y (some v)/\Q v H2
def tDNotIn (ty td:TE):TE:=fun σ H Q=>ty σ H fun y H1=>td σ H1 fun x H2=>∃ a o,x=.ref a/\DGet H2 a y o/\Q (.bl (!o.isSome)) H2
def sDPut (td ty tv:TE):TS:=fun D σ H=>tv σ H fun v H1=>td σ H1 fun x H2=>ty σ H2 fun y H3=>∃ a H4,x=.ref a/\DPut H3 a y v H4/\D.nx σ H4
section
variable {X:Cx} {o i e value:Expr} {pos pos' tpos:Pos} {td ty tv:TE}
theorem pe_dget (hu:X.A.units+1 < cLine) (ho:PE X o td) (hi:PE X i ty) (hs:NoSl i):PE X (.Subscript o i pos) (tDGet td ty):=by
 intro pins s σ H Q I h
 refine subD_of PySem.F.slot_dict_getitem.lookup hs (thn (ho pins s σ H _ I h) fun u s1 ⟨x,H1,I1,rx,q1⟩=>thn (hi pins s1 σ H1 _ I1 q1) fun iv s2 ⟨y,H2,I2,ry,a,v,ex,g,q2⟩=>?_)
 subst ex
 obtain rfl:u=Value.ref a:=rx
 exact ⟨dict_typeIs I2 g,d_getItem hu I2 g ry fun w' s3 I3 rw'=>⟨v,H2,I3,rw',q2⟩⟩
theorem pc_dnotin (hu:X.A.units+1 < cLine) (hi:PE X i ty) (ho:PE X o td):PC X .NotIn i o (tDNotIn ty td):=by
 intro pins s σ H Q I h
 refine thn (hi pins s σ H _ I h) fun iv s1 ⟨y,H1,I1,ry,q1⟩=>thn (ho pins s1 σ H1 _ I1 q1) fun u s2 ⟨x,H2,I2,rx,a,ov,ex,g,q2⟩=>?_
 subst ex
 obtain rfl:u=Value.ref a:=rx
 exact d_notIn hu I2 g ry fun s3 I3=>⟨.bl (!ov.isSome),H2,I3,rfl,q2⟩
theorem ps_dput (hu:X.A.units+1 < cLine) (ho:PE X o td) (hi:PE X i ty) (hv:PE X value tv) (hs:swapsWith value (some (.Subscript o i pos')) pos.line X.env=pure false) :
  PS X (.Assign [.Subscript o i pos'] value pos) (sDPut td ty tv):=by
 intro pins s σ H D I h
 refine wpAny_Assign_Subscript (thn (hv pins s σ H _ I h) fun r s1 ⟨v,H1,I1,rv,q1⟩=>thn (ho pins s1 σ H1 _ I1 q1) fun u s2 ⟨x,H2,I2,rx,q2⟩=>thn (hi pins s2 σ H2 _ I2 q2) fun iv s3 ⟨y,H3,I3,ry,a,H4,ex,g,q3⟩=>?_) hs
 subst ex
 obtain rfl:u=Value.ref a:=rx
 exact d_setItem hu I3 g ry rv fun s4 I4=>⟨σ,H4,I4,q3⟩
end
theorem dk_empty {P:Program} {w:World} {H:Hp} (h:Heap) (hb:sysModules < h.objs.size):ObjOk P w H (h.push { cls:=.type "dict",data:=.dict #[] }) h.objs.size (.dK []) :=
 ⟨Nat.zero_le _,beq_eq_false_iff_ne.mpr (Ne.symm (Nat.ne_of_lt hb)),[],.nil,Heap.DictOf.new h⟩
section
variable {X:Cx} {pos:Pos}
end
def tPairs:List (TE × TE)->St->Hp->(List (V × V)->Hp->Prop)->Prop
 | [],_,H,Q=>Q [] H
 | (tk,tv)::r,σ,H,Q=>tk σ H fun x H1=>tv σ H1 fun y H2=>tPairs r σ H2 fun ps H3=>Q ((x,y)::ps) H3
abbrev VV:List (V × V)->List (Value × Value)->Prop:=Paired fun p q=>RelV p.1 q.1/\RelV p.2 q.2
def PPs (X:Cx) (pos:Pos) (keys:List (Option Expr)) (values:List Expr) (trs:List (TE × TE)):Prop :=
 ∀ (pins:List (Addr × Obj)) (s:Shared) (σ:St) (H:Hp) (Q:List (V × V)->Hp->Prop),Inv X pins σ H s->tPairs trs σ H Q ->
  wpAny (model X.prog X.w) X.A (evalPairs (pairTrees keys values X.env pos)) (fun vs s'=>∃ ps H',Inv X pins σ H' s'/\VV ps vs/\Q ps H') X.xe s
theorem pps_nil {X:Cx} {pos:Pos}:PPs X pos [] [] []:=fun pins s σ H Q I h=>pairTrees_nil_walk ⟨[],H,I,.nil,h⟩
theorem pps_cons {X:Cx} {pos:Pos} {k v:Expr} {ks:List (Option Expr)} {vs:List Expr} {tk tv:TE} {trs:List (TE × TE)} (hk:PE X k tk) (hv:PE X v tv) (hr:PPs X pos ks vs trs) :
  PPs X pos (some k::ks) (v::vs) ((tk,tv)::trs):=fun pins s σ H Q I h =>
 pairTrees_cons_walk (thn (hk pins s σ H _ I h) fun u s1 ⟨x,H1,I1,rx,q1⟩=>thn (hv pins s1 σ H1 _ I1 q1) fun w2 s2 ⟨y,H2,I2,ry,q2⟩ =>
  thn (hr pins s2 σ H2 _ I2 q2) fun ws s3 ⟨ps,H3,I3,rel,q3⟩=>⟨(x,y)::ps,H3,I3,.cons ⟨rx,ry⟩ rel,q3⟩)
def mergeK (kvs more:List (Key × V)):List (Key × V):=more.foldl (fun acc kv=>putK acc kv.1 kv.2) kvs
theorem KV.merge:∀ {more:List (Key × V)} {rs:List (Key × Value)} {kvs:List (Key × V)} {vs:List (Key × Value)},KV more rs->KV kvs vs->KV (mergeK kvs more) (merged vs rs):=by
 intro more rs kvs vs r
 unfold KV at r
 induction r generalizing kvs vs with
 | nil=>intro q;exact q
 | @cons p q ps qs h t ih =>
  intro r0
  have e:KV (putK kvs p.1 p.2) (stored vs q.1 q.2):=by
   have:=r0.put p.1 h.2
   rw [<- h.1];exact this
  exact ih e
theorem length_mergeK:∀ (more kvs:List (Key × V)),(mergeK kvs more).length<=kvs.length+more.length
 | [],kvs=>by show kvs.length<=kvs.length+0;omega
 | p::r,kvs=>by
  have h1:=length_mergeK r (putK kvs p.1 p.2)
  have h2:=length_putK kvs p.1 p.2
  show (mergeK (putK kvs p.1 p.2) r).length<=_
  rw [List.length_cons];omega
theorem carries_of {P:Program} {w:World}:∀ {kvs:List (Key × V)} {ws:List (Value × Value)},VV (kvs.map fun kv=>(kV kv.1,kv.2)) ws->∃ rs,Carries (mixKind P w) ws rs/\KV kvs rs
 | [],_,r=>by rw [List.map_nil] at r;cases r;exact ⟨[],True.intro,.nil⟩
 | p::kvs,_,r=>by
  rw [List.map_cons] at r
  cases r with
  | @cons a b as bs h t =>
   obtain ⟨rs,c,q⟩:=carries_of (P:=P) (w:=w) t
   obtain ⟨b1,b2⟩:=b
   exact ⟨(p.1,b2)::rs,⟨kV_is h.1,rfl,c⟩,.cons ⟨rfl,h.2⟩ q⟩
def tDisp (trs:List (TE × TE)):TE:=fun σ H Q=>∀ p,H p=none->tPairs trs σ (upd H p (.dK [])) fun ps H2=>H2 p=some (.dK [])/\∃ kvs:List (Key × V),ps=kvs.map (fun kv=>(kV kv.1,kv.2))/\kvs.length<=15/\Q (.ref p) (upd H2 p (.dK (mergeK [] kvs)))
theorem pe_disp {X:Cx} {pos:Pos} {keys:List (Option Expr)} {values:List Expr} {trs:List (TE × TE)} (h:PPs X pos keys values trs) (hall:keys.all (·.isSome)=true) (hl:keys.length=values.length) (h0:keys≠[])
  (h15:keys.length<=15):PE X (.Dict keys values pos) (tDisp trs):=by
 intro pins s σ H Q I q
 have hn:=I.hok.fresh (Nat.le_refl s.heap.objs.size)
 have I1:=I.laid (a:=s.heap.objs.size) (o:=.dK []) (h':=s.heap.push { cls:=.type "dict",data:=.dict #[] }) (t':=s.toks) (fun _ _ q=>Heap.get?_push_of_some _ q) (Nat.le_refl _) (dk_empty s.heap I.big)
 refine wpAny_Dict_walk (knd:=mixKind X.prog X.w) hall hl h0 h15 (thn (h pins _ σ _ _ I1 (q _ hn)) fun ws s2 ⟨ps,H2,I2,rel,e,kvs,ep,lk,q2⟩=>?_)
 subst ep
 obtain ⟨rs,c,rk⟩:=carries_of (P:=X.prog) (w:=X.w) rel
 obtain ⟨z,hd,vs0,r0,dd⟩:=dk_of I2.hok e
 cases r0
 refine ⟨rs,c,dd,fun h' dd' hs=>⟨.ref s.heap.objs.size,_,?_,rfl,q2⟩⟩
 have hz:(mergeK [] kvs).length<=sizeLine:=by
  have h1:=length_mergeK kvs []
  rw [List.length_nil] at h1
  rw [sizeLine_eq];omega
 have he:∃ q,h'.get? s.heap.objs.size=some q:=let ⟨q,_,_,hq,_⟩:=dd';⟨q,hq⟩
 exact d_write I2 (by rw [e];exact True.intro) hs he (dk_new hz hd (rk.merge .nil) dd')
section
variable {X:Cx} {pins:List (Addr × Obj)} {σ:St} {H:Hp} {s:Shared} {a:Addr} {y d:V} {u r:Value} {o:Option V} {A:Around} {E:Value->Shared->Prop}
end
section
variable {X:Cx} {o e f:Expr} {apos cpos:Pos} {td ty tx:TE}
end
section
variable {X:Cx} {pins:List (Addr × Obj)} {σ:St} {H:Hp} {s:Shared} {a:Addr} {kvs:List (Key × V)} {A:Around} {E:Value->Shared->Prop}
end
section
variable {X:Cx} {pins:List (Addr × Obj)} {σ:St} {H:Hp} {s:Shared} {a:Addr} {y:V} {u:Value} {A:Around} {E:Value->Shared->Prop}
end
section
variable {X:Cx}
end
section
variable {κ:Type} [DecidableEq κ]
theorem nd_snoc:∀ {l:List κ} {k:κ},l.Nodup->¬ k∈l->(l++[k]).Nodup
 | [],k,_,_=>by simp
 | a::r,k,h,hk=>by
  obtain ⟨h1,h2⟩:=List.nodup_cons.mp h
  show (a::(r++[k])).Nodup
  refine List.nodup_cons.mpr ⟨fun m=>?_,nd_snoc h2 fun m=>hk (List.mem_cons.mpr (Or.inr m))⟩
  rcases List.mem_append.mp m with q | q
  ·exact h1 q
  ·exact hk (List.mem_cons.mpr (Or.inl (List.mem_singleton.mp q).symm))
end
section
variable {M:Model} {A:Around} {E:Value->Shared->Prop} {s:Shared}
def clOf (env:Env):List (Str × NameKind)->List (Str × Addr)->List (Str × Addr)
 | [],acc=>acc
 | (n,k)::r,acc=>if (k == NameKind.free)=true then clOf env r ((n,(env.cells.lookup n).getD 0)::acc) else clOf env r acc
theorem clOf_loop {env:Env} (f:Str × NameKind->List (Str × Addr)->Sem (ForInStep (List (Str × Addr))))
  (hf:∀ n k cs,f (n,k) cs=if (k == NameKind.free)=true then (do let a <- cellOf env n;pure (.yield ((n,a)::cs))) else pure (.yield cs)) :
  ∀ (names:List (Str × NameKind)) (acc:List (Str × Addr)),(∀ p∈names,p.2=.free->∃ c,env.cells.lookup p.1=some c)->forIn names acc f=pure (clOf env names acc)
 | [],acc,_=>by rw [List.forIn_nil];rfl
 | (n,k)::r,acc,h=>by
  have hr:∀ p∈r,p.2=.free->∃ c,env.cells.lookup p.1=some c:=fun p hp=>h p (List.mem_cons_of_mem _ hp)
  rw [List.forIn_cons,hf,clOf]
  by_cases hk:(k == NameKind.free)=true
  ·obtain ⟨c,hc⟩:=h (n,k) List.mem_cons_self (by simpa using hk)
   have hc':env.cells.lookup n=some c:=hc
   rw [if_pos hk,if_pos hk]
   have e:cellOf env n=pure c:=by unfold cellOf;rw [hc']
   rw [e,hc']
   exact clOf_loop f hf r _ hr
  ·rw [if_neg hk,if_neg hk]
   exact clOf_loop f hf r _ hr
theorem closureFor_of {sc:Scope} {env:Env} (h:∀ p∈sc.names,p.2=.free->∃ c,env.cells.lookup p.1=some c):closureFor sc env=pure (clOf env sc.names []):=by
 unfold closureFor
 have e:=clOf_loop (env:=env) (fun (x:Str × NameKind) (r:List (Str × Addr))=>if (x.2 == NameKind.free)=true then (do let a <- cellOf env x.1;pure (ForInStep.yield ((x.1,a)::r))) else pure (ForInStep.yield r)) (fun _ _ _=>rfl) sc.names [] h
 exact (congrArg (fun m=>m >>= fun cs=>pure cs) e)
theorem clOf_mem {env:Env} {x:Str} {c:Addr}:∀ {names:List (Str × NameKind)} {acc:List (Str × Addr)},(x,c)∈clOf env names acc->(x,c)∈acc\/((x,NameKind.free)∈names/\c=(env.cells.lookup x).getD 0)
 | [],_,h=>.inl h
 | (n,k)::r,acc,h=>by
  unfold clOf at h
  split at h
  ·rename_i hk
   have hk':k=.free:=by simpa using hk
   rcases clOf_mem h with q | ⟨q,e⟩
   ·rcases List.mem_cons.mp q with q | q
    ·cases q;exact .inr ⟨by rw [hk'];exact List.mem_cons_self,rfl⟩
    ·exact .inl q
   ·exact .inr ⟨List.mem_cons_of_mem _ q,e⟩
  ·rcases clOf_mem h with q | ⟨q,e⟩
   ·exact .inl q
   ·exact .inr ⟨List.mem_cons_of_mem _ q,e⟩
theorem lookup_mem_some {β:Type} {x:Str} {c:β}:∀ {l:List (Str × β)},(x,c)∈l->∃ c',l.lookup x=some c'
 | [],h=>nomatch h
 | (n,k)::r,h=>by
  cases hx:x == n with
  | true=>exact ⟨k,by simp [List.lookup_cons,hx]⟩
  | false =>
   rcases List.mem_cons.mp h with q | q
   ·cases q;simp at hx
   ·obtain ⟨c',e⟩:=lookup_mem_some q
    exact ⟨c',by simp [List.lookup_cons,hx,e]⟩
theorem clOf_has {env:Env} {x:Str}:∀ {names:List (Str × NameKind)} {acc:List (Str × Addr)},((x,NameKind.free)∈names\/∃ c,(x,c)∈acc)->∃ c,(x,c)∈clOf env names acc
 | [],acc,h=>by
  rcases h with h | ⟨c,h⟩
  ·exact nomatch h
  ·exact ⟨c,h⟩
 | (n,k)::r,acc,h=>by
  unfold clOf
  split
  ·rename_i hk
   apply clOf_has
   rcases h with h | ⟨c,h⟩
   ·rcases List.mem_cons.mp h with q | q
    ·cases q;exact .inr ⟨_,List.mem_cons_self⟩
    ·exact .inl q
   ·exact .inr ⟨c,List.mem_cons_of_mem _ h⟩
  ·rename_i hk
   apply clOf_has
   rcases h with h | ⟨c,h⟩
   ·rcases List.mem_cons.mp h with q | q
    ·cases q;simp at hk
    ·exact .inl q
   ·exact .inr ⟨c,h⟩
theorem cellsFrom_append:∀ (names:List (Str × NameKind)) (n:Nat) (acc:List (Str × Addr)),cellsFrom n names acc=cellsFrom n names []++acc
 | [],_,_=>rfl
 | (x,k)::r,n,acc=>by
  unfold cellsFrom
  split
  ·rw [cellsFrom_append r (n+1) ((x,n)::acc),cellsFrom_append r (n+1) [(x,n)]];simp
  ·exact cellsFrom_append r n acc
theorem cellsFrom_mem {x:Str} {c:Addr}:∀ {names:List (Str × NameKind)} {n:Nat} {acc:List (Str × Addr)},(x,c)∈cellsFrom n names acc->(x,c)∈acc\/(x,NameKind.cell)∈names
 | [],_,_,h=>.inl h
 | (m,k)::r,n,acc,h=>by
  unfold cellsFrom at h
  split at h
  ·rename_i hk
   have hk':k=.cell:=by simpa using hk
   rcases cellsFrom_mem h with q | q
   ·rcases List.mem_cons.mp q with q | q
    ·cases q;exact .inr (by rw [hk'];exact List.mem_cons_self)
    ·exact .inl q
   ·exact .inr (List.mem_cons_of_mem _ q)
  ·rcases cellsFrom_mem h with q | q
   ·exact .inl q
   ·exact .inr (List.mem_cons_of_mem _ q)
theorem cellsFrom_has {x:Str}:∀ {names:List (Str × NameKind)} {n:Nat} {acc:List (Str × Addr)},((x,NameKind.cell)∈names\/∃ c,(x,c)∈acc)->∃ c,(x,c)∈cellsFrom n names acc
 | [],n,acc,h=>by
  rcases h with h | ⟨c,h⟩
  ·exact nomatch h
  ·exact ⟨c,h⟩
 | (m,k)::r,n,acc,h=>by
  unfold cellsFrom
  split
  ·apply cellsFrom_has
   rcases h with h | ⟨c,h⟩
   ·rcases List.mem_cons.mp h with q | q
    ·cases q;exact .inr ⟨_,List.mem_cons_self⟩
    ·exact .inl q
   ·exact .inr ⟨c,List.mem_cons_of_mem _ h⟩
  ·rename_i hk
   apply cellsFrom_has
   rcases h with h | ⟨c,h⟩
   ·rcases List.mem_cons.mp h with q | q
    ·cases q;simp at hk
    ·exact .inl q
   ·exact .inr ⟨c,h⟩
theorem lookup_app {β:Type} {x:Str}:∀ (l1 l2:List (Str × β)),(l1++l2).lookup x=(l1.lookup x).or (l2.lookup x)
 | [],_=>by simp
 | (n,k)::r,l2=>by
  cases hx:x == n with
  | true=>simp [List.lookup_cons,hx]
  | false=>simp [List.lookup_cons,hx,lookup_app r l2]
theorem newEnv_comp {scope:Scope} {globals:Addr} {cl:List (Str × Addr)} {qual:Str} {env:Env} {Q:Env->Shared->Prop}
  (hQ:Q { scope,locals:=s.heap.objs.size,globals,cells:=cellsFrom (s.heap.objs.size+1) scope.names cl,qual,func:=none,code:=env.code,frame:=env.frame,builtins:=env.builtins }
   { s with heap:=pushCells (s.heap.push { cls:=.type "dict",data:=.dict #[] }) scope.names }) :
  wpAny M A (newFunctionEnv scope globals cl [] qual none .none (some env)) Q E s:=by
 have z:(s.heap.push { cls:=.type "dict",data:=.dict #[] }).objs.size=s.heap.objs.size+1:=Heap.size_push ..
 show wpAny M A (alloc { cls:=.type "dict",data:=.dict #[] } >>= _) Q E s
 apply wpAny_bind;apply wpAny_alloc;apply wpAny_bind
 refine wpAny_layCells _ (fun _ k _=>by by_cases y:k=NameKind.cell<;>simp [y]) _ _ _ _ ?_
 dsimp only
 rw [List.forIn_nil,z]
 exact wpAny_bind (wpAny_pure (wpAny_pure hQ))
theorem lookup_relabel {env:Env} {x:Str}:∀ (names:List (Str × NameKind)),
  (names.map fun (n,k)=>if (k == NameKind.free && env.scope.kind == .function && env.kindOf n == some .cell) then (n,NameKind.cell) else (n,k)).lookup x =
   (names.lookup x).map fun k=>if (k == NameKind.free && env.scope.kind == .function && env.kindOf x == some .cell)=true then NameKind.cell else k
 | []=>by simp
 | (n,k)::r=>by
  have ih:=lookup_relabel (env:=env) (x:=x) r
  cases hx:x == n with
  | true =>
   have e:x=n:=by simpa using hx
   subst e
   rw [List.map_cons]
   dsimp only
   by_cases hc:(k == NameKind.free && env.scope.kind == .function && env.kindOf x == some .cell)=true
   ·rw [if_pos hc,List.lookup_cons,List.lookup_cons,hx];dsimp only [Option.map_some];rw [if_pos hc]
   ·rw [if_neg hc,List.lookup_cons,List.lookup_cons,hx];dsimp only [Option.map_some];rw [if_neg hc]
  | false =>
   rw [List.map_cons]
   dsimp only
   by_cases hc:(k == NameKind.free && env.scope.kind == .function && env.kindOf n == some .cell)=true
   ·rw [if_pos hc,List.lookup_cons,List.lookup_cons,hx];exact ih
   ·rw [if_neg hc,List.lookup_cons,List.lookup_cons,hx];exact ih
end
def cxC (X:Cx) (own:List Str) (fr:List Nat) (scope:Scope) (s2:Shared) (H2:Hp) (fp:List Addr):Cx where
 prog:=X.prog
 w:=X.w
 K:=X.K
 mg:=X.mg
 base:=X.base
 A:=X.A
 N:=own++fr.map (fun i=>X.N.getD i Str.empty)
 s₀:=s2
 H₀:=H2
 env:={ scope:=relabel scope X.env,locals:=s2.heap.objs.size+1,globals:=X.env.globals,cells:=cellsFrom (s2.heap.objs.size+2) scope.names (clOf X.env scope.names []),qual:=X.env.qual,func:=none,code:=X.env.code,frame:=X.env.frame,builtins:=X.env.builtins }
 outer:=X.stack
 stack:=X.stack
 ex:=fp
 fn:=fun x=>scope.names.lookup x == some .cell
 calm:=X.calm
 pn:=[]
 xe:=fun _ _=>False
def cSt (own:List Str) (fr:List Nat) (σ:St):St:=List.replicate own.length none++fr.map fun i=>(σ[i]?).join
def compOk (osc:List (Str × NameKind)) (N:List Str) (own:List Str) (fr:List Nat) (sc:Scope):Bool :=
 decide (sc.kind=.function) && decide ((sc.names.map (·.1)).Nodup) &&
 sc.names.all (fun y=>!(y.2 == .free) || (osc.lookup y.1 == some .cell || osc.lookup y.1 == some .free)) &&
 fr.all (fun i=>decide (i < N.length) && (sc.names.lookup (N.getD i Str.empty) == some .free))
structure CompSc (X:Cx) (own:List Str) (fr:List Nat) (sc:Scope):Prop where
 kind:sc.kind=.function
 nd:(sc.names.map (·.1)).Nodup
 fre:∀ y∈sc.names,y.2=.free->X.env.scope.names.lookup y.1=some .cell\/X.env.scope.names.lookup y.1=some .free
 frl:∀ i∈fr,i < X.N.length
 frv:∀ i∈fr,sc.names.lookup (X.N.getD i Str.empty)=some .free
theorem compSc {X:Cx} {own:List Str} {fr:List Nat} {sc:Scope} {osc:List (Str × NameKind)} {N:List Str} (h1:X.env.scope.names=osc) (h2:X.N=N) (h:compOk osc N own fr sc=true):CompSc X own fr sc:=by
 unfold compOk at h
 simp only [Bool.and_eq_true,decide_eq_true_eq,List.all_eq_true] at h
 obtain ⟨⟨⟨h3,h4⟩,h5⟩,h6⟩:=h
 refine ⟨h3,h4,fun y hy hf=>?_,fun i hi=>?_,fun i hi=>?_⟩
 ·have:=h5 y hy
  rw [h1]
  simpa [hf] using this
 ·rw [h2];exact (h6 i hi).1
 ·rw [h2];simpa using (h6 i hi).2
theorem lookup_of_mem_nd {x:Str} {k:NameKind}:∀ {l:List (Str × NameKind)},(l.map (·.1)).Nodup->(x,k)∈l->l.lookup x=some k
 | [],_,h=>nomatch h
 | (n,q)::r,nd,h=>by
  rcases List.mem_cons.mp h with e | e
  ·cases e;simp [List.lookup_cons]
  ·have nd':=List.nodup_cons.mp nd
   have hne:(x == n)=false:=by
    have:x≠n:=fun z=>nd'.1 (by rw [<- z];exact List.mem_map.mpr ⟨_,e,rfl⟩)
    simpa using this
   rw [List.lookup_cons,hne]
   exact lookup_of_mem_nd nd'.2 e
section
variable {X:Cx} {pins:List (Addr × Obj)} {σ:St} {H:Hp} {s:Shared} {own:List Str} {fr:List Nat} {sc:Scope} {fp:List Addr}
abbrev hC (s:Shared) (sc:Scope) (h1:Heap):Heap:=pushCells (h1.push { cls:=.type "dict",data:=.dict #[] }) sc.names
theorem inv_comp (I : Inv X pins σ H s) (S : CompSc X own fr sc) (hfp : ∀ b ∈ fp, FpOk X pins H b) {h1 : Heap} (hz : h1.objs.size = s.heap.objs.size + 1) (hk : ∀ b o, s.heap.get? b = some o → h1.get? b = some o) (hfl : ∀ b ∈ fp, @LT.lt Nat _ b s.heap.objs.size) :
    Inv (cxC X own fr sc s H fp) [] (cSt own fr σ) H { s with heap := hC s sc h1 } := by
  have kk : ∀ b o, s.heap.get? b = some o → (hC s sc h1).get? b = some o := fun b o e => pushCells_keeps _ _ b o (Heap.get?_push_of_some _ (hk b o e))
  have nsC : (hC s sc h1).Ns (s.heap.objs.size + 1) (fun _ => none) := by
    have q := (Heap.Ns.new h1 (.type "dict")).keeps (pushCells_keeps sc.names _)
    rw [hz] at q
    exact q
  have ok := cellsFrom_ok sc.names (h1.push { cls := .type "dict", data := .dict #[] }) (s.heap.objs.size + 2) [] ⟨fun _ _ hm => (nomatch hm), List.Pairwise.nil⟩ (by rw [Heap.size_push, hz]; exact Nat.le_refl _)
  rw [Heap.size_push, hz] at ok
  have fcell : ∀ y ∈ sc.names, y.2 = .free → ∃ c, X.env.cells.lookup y.1 = some c := fun y hy hf => I.ok.has y.1 (by
    rcases S.fre y hy hf with q | q
    · exact .inl q
    · exact .inr q)
  have old : ∀ x c, (clOf X.env sc.names []).lookup x = some c → X.env.cells.lookup x = some c ∧ (x, NameKind.free) ∈ sc.names := fun x c e => by
    rcases clOf_mem (PySem.mem_of_lookup e) with q | ⟨q, e2⟩
    · exact nomatch q
    · obtain ⟨c', e3⟩ := fcell _ q rfl
      have e3' : X.env.cells.lookup x = some c' := e3
      rw [e3'] at e2
      have : c = c' := e2
      subst this
      exact ⟨e3', q⟩
  have cs : ∀ x c, (cxC X own fr sc s H fp).env.cells.lookup x = some c → ((cellsFrom (s.heap.objs.size + 2) sc.names []).lookup x = some c ∧ @LE.le Nat _ (s.heap.objs.size + 2) c) ∨ (X.env.cells.lookup x = some c ∧ (x, NameKind.free) ∈ sc.names ∧ @LT.lt Nat _ c s.heap.objs.size) := fun x c e => by
    have e' : (cellsFrom (s.heap.objs.size + 2) sc.names (clOf X.env sc.names [])).lookup x = some c := e
    rw [cellsFrom_append, lookup_app] at e'
    cases q : (cellsFrom (s.heap.objs.size + 2) sc.names []).lookup x with
    | some c' =>
      rw [q] at e'
      have : c' = c := by simpa using e'
      subst this
      exact .inl ⟨rfl, (ok.empty x c' (PySem.mem_of_lookup q)).2⟩
    | none =>
      rw [q] at e'
      obtain ⟨e1, e2⟩ := old x c (by simpa using e')
      obtain ⟨v, hv⟩ := I.cell x c e1
      exact .inr ⟨e1, e2, hv.lt⟩
  have okY : (cxC X own fr sc s H fp).Ok := by
    refine ⟨I.ok.mod, S.kind, I.ok.glob, I.ok.blt, Nat.le_succ _, fun x y c h1 h2 => ?_, fun x hx => ?_, fun x c hf e => ?_, I.ok.hd, I.ok.frames, .inl rfl, fun b hb => ⟨?_, fun x c e => ?_⟩, fun b o e => I.bs b o e, Nat.le_trans I.ok.bsz I.sz, fun b o e hb => ?_, fun b hb z => ?_, I.stack, I.stkFree⟩
    · rcases cs x c h1 with ⟨q1, g1⟩ | ⟨q1, _, g1⟩
      · rcases cs y c h2 with ⟨q2, g2⟩ | ⟨q2, _, g2⟩
        · exact name_of_addr ok.apart (PySem.mem_of_lookup q1) (PySem.mem_of_lookup q2)
        · omega
      · rcases cs y c h2 with ⟨q2, g2⟩ | ⟨q2, _, g2⟩
        · omega
        · exact I.ok.inj x y c q1 q2
    · -- a cell or free name of the block has its cell
      have hx' : (relabel sc X.env).names.lookup x = some .cell ∨ (relabel sc X.env).names.lookup x = some .free := hx
      have hl : sc.names.lookup x = some .cell ∨ sc.names.lookup x = some .free := by
        unfold relabel at hx'
        rw [lookup_relabel] at hx'
        cases q : sc.names.lookup x with
        | none => rw [q] at hx'; simp at hx'
        | some k =>
          rw [q] at hx'
          cases k <;> simp at hx' ⊢
      have hm : ∃ c, (x, c) ∈ cellsFrom (s.heap.objs.size + 2) sc.names (clOf X.env sc.names []) := by
        rcases hl with hl | hl
        · exact cellsFrom_has (.inl (PySem.mem_of_lookup hl))
        · exact cellsFrom_has (.inr (clOf_has (.inl (PySem.mem_of_lookup hl))))
      obtain ⟨c, hm⟩ := hm
      exact lookup_mem_some hm
    · have hf' : sc.names.lookup x = some .cell := by simpa using (show (sc.names.lookup x == some .cell) = true from hf)
      show @LE.le Nat _ s.heap.objs.size c
      rcases cs x c e with ⟨_, g⟩ | ⟨_, q, _⟩
      · omega
      · rw [lookup_of_mem_nd S.nd q] at hf'; cases hf'
    · have := hfl b hb
      show @Ne Nat b (s.heap.objs.size + 1)
      omega
    · intro z
      subst z
      rcases cs x c e with ⟨_, g⟩ | ⟨q, _, _⟩
      · have := hfl c hb; omega
      · exact (hfp c hb).2.2.2.2.1 x c q rfl
    · rcases (hfp b hb).2.2.2.1 with z | z
      · exact I.ok.noex b o e z
      · have z1 : @LT.lt Nat _ b X.base.objs.size := Heap.lt_size e
        have z2 : X.base.objs.size ≤ X.s₀.heap.objs.size := I.ok.bsz
        have z3 : @LE.le Nat _ X.s₀.heap.objs.size b := z
        omega
    · rcases List.mem_cons.mp (I.stkSub b z) with e | e
      · exact (hfp b hb).2.1 e
      · exact (hfp b hb).2.2.1 e
  refine ⟨okY, rfl, I.bare, Un.kept kk, ⟨_, nsC, fun i x v h1 h2 h3 => ?_⟩, fun x c e => ?_, I.hok.fresh (Nat.le_succ _), fun x c e => ?_, fun p hp => absurd (show p ∈ ([] : List (Addr × Obj)) from hp) (by simp), I.hok.kept kk, ?_⟩
  · -- an outer name that is read
    have hi : own.length ≤ i := by
      by_cases hi : i < own.length
      · exfalso
        unfold cSt at h2
        rw [List.getElem?_append_left (by simpa using hi), List.getElem?_replicate] at h2
        split at h2 <;> cases h2
      · omega
    have h1' : (own ++ fr.map (fun i => X.N.getD i Str.empty))[i]? = some x := h1
    rw [List.getElem?_append_right hi, List.getElem?_map] at h1'
    unfold cSt at h2
    rw [List.getElem?_append_right (by simpa using hi), List.getElem?_map, List.length_replicate] at h2
    cases e : fr[i - own.length]? with
    | none => rw [e] at h1'; cases h1'
    | some k =>
      rw [e] at h1' h2
      have hkm : k ∈ fr := List.mem_of_getElem? e
      have ex : X.N.getD k Str.empty = x := by simpa using h1'
      have ev : (σ[k]?).join = some v := by simpa using h2
      have hkl := S.frl k hkm
      have eN : X.N[k]? = some x := by rw [← ex]; simp [List.getD, hkl]
      have eσ : σ[k]? = some (some v) := by
        cases q : σ[k]? with
        | none => rw [q] at ev; cases ev
        | some o => rw [q] at ev; cases o with
          | none => cases ev
          | some v' => have : v' = v := by simpa using ev
                       subst this; rfl
      have hfr := S.frv k hkm
      rw [ex] at hfr
      have hmem : (x, NameKind.free) ∈ sc.names := PySem.mem_of_lookup hfr
      have hkd := S.fre _ hmem rfl
      have hkd' : X.env.scope.names.lookup x = some .cell ∨ X.env.scope.names.lookup x = some .free := hkd
      obtain ⟨m, hn, hl⟩ := I.loc
      obtain ⟨u, r, l⟩ := hl k x v eN eσ (hkd'.elim (fun z => .inr (.inl z)) fun z => .inr (.inr z))
      refine ⟨u, r, ?_⟩
      rcases l with ⟨z, _⟩ | ⟨_, c, hc, hcell⟩
      · exfalso
        have z' : X.env.scope.names.lookup x = some .local := z
        rcases hkd' with q | q <;> (rw [q] at z'; cases z')
      · refine .inr ⟨?_, c, ?_, hcell.keeps kk⟩
        · show (relabel sc X.env).names.lookup x = some .cell ∨ (relabel sc X.env).names.lookup x = some .free
          unfold relabel
          rw [lookup_relabel, hfr]
          simp only [Option.map_some]
          split
          · exact .inl rfl
          · exact .inr rfl
        · show (cellsFrom (s.heap.objs.size + 2) sc.names (clOf X.env sc.names [])).lookup x = some c
          rw [cellsFrom_append, lookup_app]
          have h0 : (cellsFrom (s.heap.objs.size + 2) sc.names []).lookup x = none := by
            cases q : (cellsFrom (s.heap.objs.size + 2) sc.names []).lookup x with
            | none => rfl
            | some c' =>
              exfalso
              rcases cellsFrom_mem (PySem.mem_of_lookup q) with z | z
              · exact nomatch z
              · rw [lookup_of_mem_nd S.nd z] at hfr; cases hfr
          rw [h0]
          obtain ⟨c', hm'⟩ := clOf_has (env := X.env) (acc := []) (.inl hmem)
          obtain ⟨c2, e2⟩ := lookup_mem_some hm'
          obtain ⟨e3, _⟩ := old x c2 e2
          rw [hc] at e3
          rw [e2]
          simpa using e3.symm
  · rcases cs x c e with ⟨q, _⟩ | ⟨q, _, _⟩
    · exact ⟨_, (ok.empty x c (PySem.mem_of_lookup q)).1⟩
    · obtain ⟨v, hv⟩ := I.cell x c q
      exact ⟨v, hv.keeps kk⟩
  · rcases cs x c e with ⟨_, g⟩ | ⟨q, _, _⟩
    · exact I.hok.fresh (by omega)
    · exact I.freeC x c q
  · unfold cSt
    show _ = (own ++ fr.map (fun i => X.N.getD i Str.empty)).length
    simp
theorem inv_back {own:List Str} {fr:List Nat} {sc:Scope} {fp:List Addr} {H1:Hp} {s1:Shared} {σ1:St} {pins1:List (Addr × Obj)} {h':Heap} {o:HO} {D:Addr}
  (I:Inv X pins σ H s) (hfp:∀ b∈fp,FpOk X pins H b) (I1:Inv (cxC X own fr sc s H fp) pins1 σ1 H1 s1) (hD:@LE.le Nat _ s.heap.objs.size D) (hDn:H1 D=none) (hDC:D≠s.heap.objs.size+1)
  (hs:Heap.SameBut (s.heap.objs.size+1) s1.heap h') (hO:ObjOk X.prog X.w (upd H1 D o) h' D o) (tk:Nat):Inv X pins σ (upd H1 D o) { s1 with heap:=h',toks:=tk }:=by
 have u:=I1.base
 have hCn:H1 (s.heap.objs.size+1)=none:=I1.free
 have hDo:∀ b ob,s.heap.get? b=some ob->b≠D:=fun b ob e z=>by
  have:=Heap.lt_size e
  have z':@Eq Nat b D:=z
  have q:@LT.lt Nat _ b s.heap.objs.size:=this
  omega
 have hCo:∀ b ob,s.heap.get? b=some ob->b≠s.heap.objs.size+1:=fun b ob e z=>by
  have q:@LT.lt Nat _ b s.heap.objs.size:=Heap.lt_size e
  have z':@Eq Nat b (s.heap.objs.size+1):=z
  omega
 have hDs:H D=none:=I.hok.fresh hD
 have cut:∀ b ob,s.heap.get? b=some ob->∀ oc,s1.heap.get? b=some oc->h'.get? b=some oc:=fun b ob e oc q=>(hs.2 b (hCo b ob e)).trans q
 refine Inv.call' (ch:=fp) I (s':={ s1 with heap:=h',toks:=tk }) I1.os ?_ ?_ I1.bare fun b hb=>⟨(hfp b hb).2.2.2.1,(hfp b hb).2.1,(hfp b hb).2.2.2.2.1,(hfp b hb).2.2.2.2.2⟩
 ·refine ⟨fun b ob e n hb hx=>cut b ob e _ (u.keep b ob e n hb hx),fun b ob e n hb hx=>?_,fun b ob e n hx=>?_,fun b ob e hx=>?_,fun b xs e=>?_,fun b ob xs e=>?_,fun b ps e=>?_⟩
  ·obtain ⟨sl,q⟩:=u.slot b ob e n hb hx
   exact ⟨sl,cut b ob e _ q⟩
  ·rw [upd_ne (hDo b ob e)];exact u.free b ob e n hx
  ·obtain ⟨o',q⟩:=u.there b ob e hx
   exact ⟨o',cut b ob e _ q⟩
  ·rw [upd_ne (ne_of_none e hDs)];exact u.tups b xs e
  ·rw [upd_ne (ne_of_none e hDs)];exact u.frzs b ob xs e
  ·rw [upd_ne (ne_of_none e hDs)];exact u.tbls b ps e
 ·intro b ob e
  by_cases hb:b=D
  ·subst hb;rw [upd_same] at e;cases e;exact hO
  ·rw [upd_ne hb] at e
   refine (I1.hok b ob e).stay (fun c q hc g=>?_) (fun c q=>by rw [upd_ne (ne_of_none q hDn)];exact q) fun c xs q=>by rw [upd_ne (ne_of_none q hDn)];exact q
   refine (hs.2 c ?_).trans g
   rcases hc with z | z
   ·rw [z];exact ne_of_none e hCn
   ·exact ne_of_none z hCn
end
abbrev Nev:Value->Shared->Prop:=fun _ _=>False
def oneTest (env:Env) (c:Expr) (b:Bool):Sem (ForInStep Bool) :=
 if b=true then (isTrue c env (eval c env) >>= fun b'=>pure (.yield b')) else pure (.yield b)
def allTests (env:Env) (cs:List Expr):Sem Bool:=forIn cs true (oneTest env)
structure Blk where
 add:Expr
 tgt:Expr
 src:Expr
 cs:List Expr
 sc:Scope
 pos:Pos
namespace Blk
variable (B:Blk)
abbrev expr:Expr:=.ListComp B.add [⟨B.tgt,B.src,B.cs,0⟩] B.sc B.pos
section
variable (prog:Program) (w:World) (A:Around) (env:Env) (it acc:Value)
abbrev Tame {α:Type} (e:Sem α) (Q:α->Shared->Prop) (s:Shared):Prop:=wpAny (model prog w) A e Q Nev s
def Lays (J:Shared->Prop):Bool->Shared->Prop
 | false,s=>J s
 | true,s=>Tame prog w A (eval B.add env) (fun x=>Tame prog w A (call (.builtin "list.append") [acc,x]) fun _=>J) s
def Takes (J:Shared->Prop) (v:Value):Shared->Prop :=
 Tame prog w A (letOwnedTupleGo B.tgt it v) fun _=>Tame prog w A (assign B.tgt env v) fun _=>Tame prog w A (allTests env B.cs) (B.Lays prog w A env acc J)
def Next (D J:Shared->Prop):Option Value->Shared->Prop
 | none=>D
 | some v=>B.Takes prog w A env it acc J v
end
theorem loops {B:Blk} {prog:Program} {w:World} {A:Around} {env:Env} {it acc:Value} {R:Result->Shared->Prop} (G:Nat->Shared->Prop)
  (turn:∀ k t,G k t->Tame prog w A (pyNext it) (B.Next prog w A env it acc (R (.ok .next)) fun u=>∃ j,j < k/\G j u) t)
  {k:Nat} {t:Shared} (g:G k t):codeAny (model prog w) A (.compLoop B.expr 0 it acc env) R t:=by
 have one:∀ k t,G k t->Tame prog w A (compTurn B.expr 0 it acc env) (fun x t'=>match x with | .done r=>R (.ok r) t' | .again c=>c=.compLoop B.expr 0 it acc env/\∃ j,j < k/\G j t') t:=by
  intro k t g
  rw [show B.expr=.ListComp B.add [⟨B.tgt,B.src,B.cs,0⟩] B.sc B.pos from rfl,compTurn_list]
  apply wpAny_bind;apply wpAny_standAt;apply wpAny_bind
  refine thn (turn k t g) fun x t1 h1=>?_
  match x,h1 with
  | none,h1=>exact wpAny_pure h1
  | some v,h1 =>
   apply wpAny_bind;refine thn h1 fun _ t2 h2=>?_
   apply wpAny_bind;refine thn h2 fun _ t3 h3=>?_
   apply wpAny_bind;refine thn h3 fun b t4 h4=>?_
   match b,h4 with
   | false,h4=>exact wpAny_pure ⟨rfl,h4⟩
   | true,h4 =>
    apply wpAny_bind;apply wpAny_bind
    refine thn h4 fun y t5 h5=>?_
    apply wpAny_bind
    refine thn h5 fun _ t6 h6=>?_
    exact wpAny_pure (wpAny_pure ⟨rfl,h6⟩)
 exact codeAny_loop rfl G (fun k t g=>wpAny_noted (wpAny_mono (one k t g) (fun _ _ q=>q) fun _ _ f=>f.elim)) k g
end Blk
def PIfs (X:Cx) (ifs:List Expr) (t:TT):Prop :=
 ∀ (pins:List (Addr × Obj)) (s:Shared) (σ:St) (H:Hp) (Q:Bool->Hp->Prop),Inv X pins σ H s->t σ H Q ->
  wpAny (model X.prog X.w) X.A (allTests X.env ifs) (TP X pins σ Q) X.xe s
def tYes:TT:=fun _ H Q=>Q true H
theorem pifs_nil {X:Cx}:PIfs X [] tYes:=fun _ _ _ H _ I h=>wpAny_tests_nil ⟨H,I,h⟩
theorem pifs_one {X:Cx} {c:Expr} {t:TT} (h:PT X c t):PIfs X [c] t:=fun pins s σ H Q I q=>wpAny_tests_one (h pins s σ H Q I q)
def GK (n:Nat) (g:TG):Prop:=∀ v σ H Q,g v σ H Q->g v σ H fun σ' H'=>Q σ' H'/\σ'.length=σ.length/\∀ j,n<=j->σ'[j]?=σ[j]?
def GKs (n:Nat) (g:TGs):Prop:=∀ vs σ H Q,g vs σ H Q->g vs σ H fun σ' H'=>Q σ' H'/\σ'.length=σ.length/\∀ j,n<=j->σ'[j]?=σ[j]?
theorem gk_name {n i:Nat} (h:i < n):GK n (gName i):=fun v σ H Q q=>⟨q,by simp,fun j hj=>by rw [List.getElem?_set_ne (by omega)]⟩
theorem gks_nil {n:Nat}:GKs n gNil:=fun vs σ H Q q=>⟨q.1,q.2,rfl,fun _ _=>rfl⟩
theorem gks_cons {n:Nat} {t:TG} {u:TGs} (m:∀ v σ H Q Q',(∀ σ' H',Q σ' H'->Q' σ' H')->t v σ H Q->t v σ H Q') (mu:∀ v σ H Q Q',(∀ σ' H',Q σ' H'->Q' σ' H')->u v σ H Q->u v σ H Q') (h1:GK n t) (h2:GKs n u):GKs n (gCons t u):=fun vs σ H Q ⟨v,r,e,q⟩ =>
 ⟨v,r,e,m _ _ _ _ _ (fun σ' H' ⟨q',l1,k1⟩=>mu _ _ _ _ _ (fun σ2 H2 ⟨q2,l2,k2⟩=>⟨q2,l2.trans l1,fun j hj=>(k2 j hj).trans (k1 j hj)⟩) (h2 _ _ _ _ q')) (h1 _ _ _ _ q)⟩
theorem gk_tup {K:PySem.W.Frag} {n k:Nat} {t:TGs} (h:GKs n t):GK n (gTup K k t):=fun v σ H Q ⟨a,xs,e,sq,l,q⟩=>⟨a,xs,e,sq,l,h _ _ _ _ q⟩
theorem gn_mono {i:Nat}:∀ v σ H Q Q',(∀ σ' H',Q σ' H'->Q' σ' H')->gName i v σ H Q->gName i v σ H Q':=fun _ _ _ _ _ m q=>m _ _ q
theorem gnil_mono:∀ v σ H Q Q',(∀ σ' H',Q σ' H'->Q' σ' H')->gNil v σ H Q->gNil v σ H Q':=fun _ _ _ _ _ m q=>⟨q.1,m _ _ q.2⟩
theorem gcons_mono {t:TG} {u:TGs} (m:∀ v σ H Q Q',(∀ σ' H',Q σ' H'->Q' σ' H')->t v σ H Q->t v σ H Q') (mu:∀ v σ H Q Q',(∀ σ' H',Q σ' H'->Q' σ' H')->u v σ H Q->u v σ H Q'):∀ v σ H Q Q',(∀ σ' H',Q σ' H'->Q' σ' H')->gCons t u v σ H Q->gCons t u v σ H Q' :=
 fun _ _ _ _ _ mq ⟨v,r,e,q⟩=>⟨v,r,e,m _ _ _ _ _ (fun _ _ q'=>mu _ _ _ _ _ mq q') q⟩
theorem gk_two {K:PySem.W.Frag} {n k i j:Nat} (h1:i < n) (h2:j < n):GK n (gTup K k (gCons (gName i) (gCons (gName j) gNil))) :=
 gk_tup (gks_cons gn_mono (gcons_mono gn_mono gnil_mono) (gk_name h1) (gks_cons gn_mono gnil_mono (gk_name h2) gks_nil))
def lcLoop (own : List Str) (fr : List Nat) (g : TG) (tt : TT) (te : TE) (σ : St) (Q : VK) (J : It) (H1 : Hp) : Prop :=
  ∃ W : Nat → Nat → List V → Hp → Prop, (∃ m, W 0 m [] H1) ∧ ∀ i m ys H2, W i m ys H2 → ys.length ≤ sizeLine ∧
    ((J.stop i H2 ∧ ∀ D, H2 D = none → Q (.ref D) (upd H2 D (.lst ys))) ∨
     (J.go i H2 ∧ ∀ x H3, J.yld i H2 x H3 → g x (cSt own fr σ) H3 fun σ4 H4 => tt σ4 H4 fun b H5 => if b = true then te σ4 H5 fun y H6 => ∃ m', m' < m ∧ W (i + 1) m' (ys ++ [y]) H6 else ∃ m', m' < m ∧ W (i + 1) m' ys H5))
def tLC (own:List Str) (fr:List Nat) (wi:TI) (g:TG) (tt:TT) (te:TE):TE:=fun σ H Q=>wi σ H (lcLoop own fr g tt te σ Q)
section
variable {X:Cx} {own:List Str} {fr:List Nat} {sc:Scope} {tg iter elt:Expr} {ifs:List Expr} {pos:Pos} {wi:TI} {g:TG} {tt:TT} {te:TE}
theorem lc_core {pins:List (Addr × Obj)} {σ:St} {H2:Hp} {s2:Shared} {Q:VK} {it:Addr} {fp:List Addr} {tn:Nat->Heap->Prop} {J:It} {RR:Value->Addr->Result->Shared->Prop} {E:Value->Shared->Prop} (hc:X.calm=true) (S:CompSc X own fr sc) (gk:GK own.length g)
  (hg:∀ s H fp,PG (cxC X own fr sc s H fp) tg g) (ht:∀ s H fp,PIfs (cxC X own fr sc s H fp) ifs tt) (he:∀ s H fp,PE (cxC X own fr sc s H fp) elt te)
  (I2:Inv X pins σ H2 s2) (T:Turn X.prog X.w X.K tg J fp it tn) (st2:tn 0 s2.heap) (f2:∀ b∈fp,FpOk X pins H2 b) (L:lcLoop own fr g tt te σ Q J H2)
  (hRR:∀ D C s',(∃ m,s'.heap.Ns C m)->@LE.le Nat _ s2.heap.objs.size C->(∃ H',H' C=none/\Q (.ref D) H'/\∀ h' tk,Heap.SameBut C s'.heap h'->Inv X pins σ H' { s' with heap:=h',toks:=tk })->RR (.ref D) C (.ok .next) s') :
  wpAny (model X.prog X.w) X.A (newList []) (fun acc s₃=>wpAny (model X.prog X.w) X.A (newFunctionEnv sc X.env.globals (clOf X.env sc.names []) [] X.env.qual none .none (some X.env)) (fun cenv s₄ =>
   codeAny (model X.prog X.w) X.A (.compStart (.ListComp elt [⟨tg,iter,ifs,0⟩] sc pos) 0 (.ref it) acc { cenv with scope:=relabel sc X.env }) (RR acc cenv.locals) s₄) E s₃) E s2:=by
 obtain ⟨W,⟨m0,w0⟩,turn⟩:=L
 refine wpAny_newObj_type (newEnv_comp ?_)
 dsimp only
 generalize hh1:s2.heap.push { cls:=.type "list",dict:=none,data:=.seq ([]:List Value).toArray }=h1
 have hz:h1.objs.size=s2.heap.objs.size+1:=by rw [<- hh1,Heap.size_push]
 have hk1:∀ b o,s2.heap.get? b=some o->h1.get? b=some o:=fun b o e=>by rw [<- hh1];exact Heap.get?_push_of_some _ e
 have hD1:h1.get? s2.heap.objs.size=some { cls:=.type "list",data:=.seq ([]:List Value).toArray }:=by rw [<- hh1];exact Heap.get?_push_size _ rfl
 have hfl:∀ b∈fp,@LT.lt Nat _ b s2.heap.objs.size:=fun b hb=>by
  obtain ⟨o,e,_⟩:=T.obj _ _ st2 b hb
  exact Heap.lt_size e
 have I3:=inv_comp I2 S f2 hz hk1 hfl
 rw [hz]
 generalize hY:cxC X own fr sc s2 H2 fp=Y at I3
 have hD3:(hC s2 sc h1).get? s2.heap.objs.size=some { cls:=.type "list",data:=.seq ([]:List Value).toArray }:=pushCells_keeps _ _ _ _ (Heap.get?_push_of_some _ hD1)
 have st3:tn 0 (hC s2 sc h1):=T.keep _ _ _ st2 fun b _ o e=>pushCells_keeps _ _ _ _ (Heap.get?_push_of_some _ (hk1 b o e))
 have eP:Y.prog=X.prog:=by rw [<- hY];rfl
 have eW:Y.w=X.w:=by rw [<- hY];rfl
 have eK:Y.K=X.K:=by rw [<- hY];rfl
 have eA:Y.A=X.A:=by rw [<- hY];rfl
 have eX:Y.xe=Nev:=by rw [<- hY];rfl
 have ecm:Y.calm=true:=by rw [<- hY];exact hc
 have eEnv:({ scope:=relabel sc X.env,locals:=s2.heap.objs.size+1,globals:=X.env.globals,cells:=cellsFrom (s2.heap.objs.size+1+1) sc.names (clOf X.env sc.names []),qual:=X.env.qual,func:=none,code:=X.env.code,frame:=X.env.frame,builtins:=X.env.builtins }:Env)=Y.env:=by rw [<- hY];rfl
 have eL:Y.env.locals=s2.heap.objs.size+1:=by rw [<- hY];rfl
 rw [eEnv]
 have hg':PG Y tg g:=hY ▸ hg s2 H2 fp
 have ht':PIfs Y ifs tt:=hY ▸ ht s2 H2 fp
 have he':PE Y elt te:=hY ▸ he s2 H2 fp
 have dfp:s2.heap.objs.size ∉ fp:=fun z=>Nat.lt_irrefl _ (hfl _ z)
 have dC:s2.heap.objs.size≠s2.heap.objs.size+1:=Nat.ne_of_lt (Nat.lt_succ_self _)
 have cellN:∀ x c,Y.env.cells.lookup x=some c->c≠s2.heap.objs.size:=fun x c e z=>by
  obtain ⟨v,o,q,d⟩:=I3.cell x c e
  rw [z] at q
  have q':=hD3.symm.trans q
  cases q'
  cases d
 have hDfs:s2.heap.objs.size ∉ Y.fs:=by
  rw [<- hY]
  intro z
  rcases List.mem_cons.mp (I2.stkSub _ z) with e | e
  ·exact Nat.lt_irrefl _ (by have:=I2.lt;rw [<- e] at this;exact this)
  ·exact I2.nofs (Nat.le_refl _) e
 have hD0:@LE.le Nat _ Y.s₀.heap.objs.size s2.heap.objs.size:=by rw [<- hY];exact Nat.le_refl _
 have fpY:∀ {H':Hp} {pp:List (Addr × Obj)},(∀ b∈fp,H' b=none)->(∀ p∈pp,p.1 ∉ fp)->∀ b∈fp,FpOk Y pp H' b:=fun {H' pp} hn hp b hb=>by
  refine ⟨hn b hb,?_,?_,?_,?_,fun p hq z=>?_⟩
  ·have:=hfl b hb;rw [eL];intro z;have z':@Eq Nat b (s2.heap.objs.size+1):=z;omega
  ·rw [<- hY]
   intro z
   rcases List.mem_cons.mp (I2.stkSub _ z) with e | e
   ·exact (f2 b hb).2.1 e
   ·exact (f2 b hb).2.2.1 e
  ·exact .inl (by rw [<- hY];exact hb)
  ·exact (I3.ok.exf b (by rw [<- hY];exact hb)).2
  ·rcases List.mem_append.mp hq with q | q
   ·have:p∈([]:List (Addr × Obj)):=by rw [<- hY] at q;exact q
    exact nomatch this
   ·exact hp p q (z ▸ hb)
 have pinD:∀ {H':Hp} {s':Shared} {σ':St} {ob:Obj},Inv Y [] σ' H' s'->H' s2.heap.objs.size=none->s'.heap.get? s2.heap.objs.size=some ob->(∀ v,ob.data≠.cell v)->Inv Y [(s2.heap.objs.size,ob)] σ' H' s':=fun {H' s' σ' ob} J0 hn e d =>
  J0.pins_of fun p hp=>by
   have:p=(s2.heap.objs.size,ob):=by simpa using hp
   subst this
   exact ⟨e,hn,by rw [eL];exact dC,hDfs,d⟩
 have fpp:∀ {ob:Obj} (p:Addr × Obj),p∈[(s2.heap.objs.size,ob)]->p.1 ∉ fp:=fun {ob} p hp=>by
  have:p=(s2.heap.objs.size,ob):=by simpa using hp
  subst this;exact dfp
 have loop:codeAny (model X.prog X.w) X.A (.compLoop (.ListComp elt [⟨tg,iter,ifs,0⟩] sc pos) 0 (.ref it) (.ref s2.heap.objs.size) Y.env) (RR (.ref s2.heap.objs.size) (s2.heap.objs.size+1)) { s2 with heap:=hC s2 sc h1 }:=by
  refine Blk.loops (B:=⟨elt,tg,iter,ifs,sc,pos⟩) (fun n s'=>∃ i ys us k H',W i n ys H'/\Inv Y [] (cSt own fr σ) H' s'/\tn i s'.heap/\(∀ b∈fp,H' b=none)/\H' s2.heap.objs.size=none/\s'.heap.get? s2.heap.objs.size=some { cls:=.type "list",data:=.seq (List.toArray us) k }/\Vals ys us) ?_ (k:=m0)
   ⟨0,[],[],_,H2,w0,I3,st3,fun b hb=>(f2 b hb).1,I2.hok.fresh (Nat.le_refl _),hD3,.nil⟩
  rintro n s' ⟨i,ys,us,k,H',w',J0,st',fr',hDn,hDo,rv⟩
  obtain ⟨hyl,cases'⟩:=turn i n ys H' w'
  have J1:=pinD J0 hDn hDo (fun v z=>nomatch z)
  rcases cases' with ⟨stop,fin⟩ | ⟨go,step⟩
  ·have d0:=T.done Y eP eW eK ecm i _ s' _ H' Nev J1 (fpY fr' fpp) st' stop
   rw [eA] at d0
   refine wpAny_mono d0 (fun r s4 ⟨hr,J4⟩=>?_) fun _ _ z=>z
   subst hr
   have pD:=(J4.pin (s2.heap.objs.size,_) (List.mem_append_right _ List.mem_cons_self)).1
   refine hRR _ _ s4 ?_ (Nat.le_succ _) ⟨upd H' s2.heap.objs.size (.lst ys),?_,fin _ hDn,fun h' tk hs=>?_⟩
   ·obtain ⟨m,hn,_⟩:=J4.loc
    rw [eL] at hn
    exact ⟨m,hn⟩
   ·rw [upd_ne (Ne.symm dC),<- eL];exact J4.free
   ·subst hY
    have hO:ObjOk X.prog X.w (upd H' s2.heap.objs.size (.lst ys)) h' s2.heap.objs.size (.lst ys):=⟨hyl,us,k,rv,(hs.2 _ dC).trans pD⟩
    exact inv_back I2 f2 J4 (Nat.le_refl _) hDn dC hs hO tk
  ·have d0:=T.item Y eP eW eK ecm i _ s' _ H' Nev J1 (fpY fr' fpp) st' go
   rw [eA] at d0
   refine wpAny_mono d0 (fun r s4 ⟨u,hr,h4⟩=>?_) fun _ _ z=>z
   subst hr
   refine wpAny_mono h4 (fun _ s5 ⟨x,H5,J5,r5,y5,st5,fr5⟩=>?_) fun _ _ z=>z
   have J5':=J5.pinned (fpY fr5 fpp) (T.obj _ _ st5)
   have s1:=hg' _ s5 _ H5 x u _ J5' r5 (gk _ _ _ _ (step x H5 y5))
   rw [eP,eW,eA,eX] at s1
   refine wpAny_mono s1 (fun _ s6 ⟨σ6,H6,J6,q6,kp6⟩=>?_) fun _ _ z=>z
   have s2':=ht' _ s6 σ6 H6 _ J6 q6
   rw [eP,eW,eA,eX] at s2'
   refine wpAny_mono s2' (fun ok s7 ⟨H7,J7,q7⟩=>?_) fun _ _ z=>z
   have low:∀ {H8:Hp} {s8:Shared},Inv Y ([(s2.heap.objs.size,({ cls:=.type "list",data:=.seq (List.toArray us) k }:Obj))]++pinsAt fp s5.heap) σ6 H8 s8 ->
     Inv Y (pinsAt fp s5.heap) σ6 H8 s8/\H8 s2.heap.objs.size=none/\s8.heap.get? s2.heap.objs.size=some { cls:=.type "list",data:=.seq (List.toArray us) k }/\(∀ b∈fp,H8 b=none)/\tn (i+1) s8.heap:=fun {H8 s8} J8=>by
    have p8:=J8.pin (s2.heap.objs.size,_) (List.mem_append_right _ (List.mem_append_left _ List.mem_cons_self))
    refine ⟨J8.pins_of fun p hp=>J8.pin p (List.mem_append_right _ (List.mem_append_right _ hp)),p8.2.1,p8.1,fun b hb=>?_,T.keep _ _ _ st5 fun b hb o e=>(J8.pin (b,o) (List.mem_append_right _ (List.mem_append_right _ (mem_pinsAt hb e)))).1⟩
    obtain ⟨o,e,d⟩:=T.obj _ _ st5 b hb
    exact (J8.pin (b,o) (List.mem_append_right _ (List.mem_append_right _ (mem_pinsAt hb e)))).2.1
   have weak:∀ {H8:Hp} {s8:Shared} {pp:List (Addr × Obj)},Inv Y pp σ6 H8 s8->Inv Y [] (cSt own fr σ) H8 s8:=fun {H8 s8 pp} J8=>(J8.weak kp6.1.symm (fun j v e=>by
    by_cases hj:j < own.length
    ·exfalso
     unfold cSt at e
     rw [List.getElem?_append_left (by simpa using hj),List.getElem?_replicate] at e
     split at e<;>cases e
    ·rw [kp6.2 j (Nat.not_lt.mp hj)];exact e)).pins_of fun p hp=>nomatch hp
   cases ok with
   | false =>
    obtain ⟨m',hm,w7⟩:=(show ∃ m',m' < n/\W (i+1) m' ys H7 by simpa using q7)
    obtain ⟨_,l1,l2,l3,l4⟩:=low J7
    exact ⟨m',hm,i+1,ys,us,k,H7,w7,weak J7,l4,l3,l1,l2,rv⟩
   | true =>
    have q7':te σ6 H7 fun y H6=>∃ m',m' < n/\W (i+1) m' (ys++[y]) H6:=by simpa using q7
    have s3:=he' _ s7 σ6 H7 _ J7 q7'
    rw [eP,eW,eA,eX] at s3
    show wpAny _ _ _ _ _ _
    refine wpAny_mono s3 (fun xv s8 ⟨y,H8,J8,r8,m',hm,w8⟩=>?_) fun _ _ z=>z
    obtain ⟨J8a,l1,l2,l3,l4⟩:=low J8
    refine append_at (hsz:=by rw [List.size_toArray,<- rv.length];exact hyl) l2 fun h' hs' hD'=>?_
    have J9:Inv Y [] (cSt own fr σ) H8 { s8 with heap:=h' }:=by
     refine (weak J8a).turned (t':=s8.toks) (it:=s2.heap.objs.size) (fun b o hb e=>(hs'.2 b hb).trans e) l1 (by rw [eL];exact dC) (.inr hD0) cellN fun p hp=>?_
     have:p∈([]:List (Addr × Obj)):=by rw [<- hY] at hp;exact hp
     exact nomatch this
    refine ⟨m',hm,i+1,ys++[y],us++[xv],k+1,H8,w8,J9,?_,l3,l1,?_,rv.append (.cons r8 .nil)⟩
    ·exact T.keep _ _ _ l4 fun b hb o e=>(hs'.2 b (fun z=>dfp (z ▸ hb))).trans e
    ·rw [hD'];simp
 exact codeAny_compStart_list loop (T.self X.A 0 _ _ _ st3 loop)
theorem pe_lc (own:List Str) (fr:List Nat) (hc:X.calm=true) (S:CompSc X own fr sc) (gk:GK own.length g) (hi:PI X tg iter wi)
  (hg:∀ s H fp,PG (cxC X own fr sc s H fp) tg g) (ht:∀ s H fp,PIfs (cxC X own fr sc s H fp) ifs tt) (he:∀ s H fp,PE (cxC X own fr sc s H fp) elt te)
  (hs:∀ x,foldedSetIterable iter X.env x=pure x:=by intro _;rfl):PE X (.ListComp elt [⟨tg,iter,ifs,0⟩] sc pos) (tLC own fr wi g tt te):=by
 intro pins s σ H Q I h
 rw [eval_ListComp]
 have hclos:closureFor sc X.env=pure (clOf X.env sc.names []):=closureFor_of fun y hy hf=>I.ok.has y.1 (by
  rcases S.fre y hy hf with q | q
  ·exact .inl q
  ·exact .inr q)
 refine wpAny_comprehension_free (use:=none) rfl hs hclos S.kind (fun y hy hl=>lookup_of_mem_nd S.nd (by rw [<- hl];exact hy)) ?_
 refine thn (hi pins s σ H _ I h) fun v s1 h1=>thn h1 fun itv s2 h2=>?_
 obtain ⟨it,fp,tn,J,H2,e,I2,T,st2,f2,L⟩:=h2
 subst e
 exact lc_core hc S gk hg ht he I2 T st2 f2 L fun D C s' ⟨m,hn⟩ _ ⟨H',_,q,hi⟩=>⟨m,hn,fun h' hs'=>⟨.ref D,H',hi h' s'.toks hs',rfl,q⟩⟩
end
theorem stored_use {X:Cx} {pins:List (Addr × Obj)} {σ:St} {H2:Hp} {s2 s':Shared} {i:Nat} {x:Str} {pos':Pos} {D:Addr} {C:Addr} {R:St->Hp->Prop} {E:Value->Shared->Prop} (I2:Inv X pins σ H2 s2) (hN:X.N.Nodup) (hi:X.N[i]?=some x) (hx:X.env.scope.names.lookup x=some .local)
  (ns:∃ m,s'.heap.Ns C m) (le:@LE.le Nat _ s2.heap.objs.size C) (h:∃ H',H' C=none/\R (σ.set i (some (.ref D))) H'/\∀ h' tk,Heap.SameBut C s'.heap h'->Inv X pins σ H' { s' with heap:=h',toks:=tk }) :
  wpAny (model X.prog X.w) X.A (assign (.Name x pos') X.env (.ref D)) (fun _ s''=>∃ m,s''.heap.Ns C m/\∀ h',Heap.SameBut C s''.heap h'->∃ σ1 H1,Inv X pins σ1 H1 { s'' with heap:=h' }/\R σ1 H1) E s':=by
 obtain ⟨H',hC,q,hv⟩:=h
 have I':Inv X pins σ H' s':=hv s'.heap s'.toks (Heap.SameBut.refl _ _)
 have lt:∀ {b:Addr} {o:Obj},s2.heap.get? b=some o->b≠C:=fun {b o} e z=>by
  have l1:@LT.lt Nat _ b s2.heap.objs.size:=Heap.lt_size e
  have z':@Eq Nat b C:=z
  omega
 have hLC:X.env.locals≠C:=by
  obtain ⟨m,⟨o,_,_,e,_⟩,_⟩:=I2.loc
  exact lt e
 have hcell:∀ y c,X.env.cells.lookup y=some c->c≠C:=fun y c e=>by
  obtain ⟨v,o,e1,_⟩:=I2.cell y c e
  exact lt e1
 refine wpAny_assign_Name (store_ok2 I' hN hi (.inl hx) (show RelV (.ref D) (.ref D) from rfl) (fun s3 I3 ⟨a,hs,ha⟩=>?_) (.inr hx))
 have aC:a≠C:=by
  rcases ha with e | e
  ·rw [e];exact hLC
  ·exact hcell _ _ e
 obtain ⟨m,hn⟩:=ns
 refine ⟨m,hn.sameBut hs (Ne.symm aC),fun h' hs'=>⟨_,H',?_,q⟩⟩
 refine I3.turned (t':=s3.toks) (it:=C) (fun b o hb e=>(hs'.2 b hb).trans e) hC (Ne.symm hLC) (.inr ?_) hcell fun p hp=>?_
 ·have:=I2.sz
  exact Nat.le_trans this le
 ·exact lt (I2.pin p hp).1
theorem ps_setL {X:Cx} {sc:Scope} {tg iter elt:Expr} {ifs:List Expr} {pos spos pos':Pos} {wi:TI} {g:TG} {tt:TT} {te:TE} {i:Nat} {x:Str} (own:List Str) (fr:List Nat) (hN:X.N.Nodup) (hix:X.N[i]?=some x) (hx:X.env.scope.names.lookup x=some .local) (hc:X.calm=true) (S:CompSc X own fr sc) (gk:GK own.length g) (hi:PI X tg iter wi)
  (hg:∀ s H fp,PG (cxC X own fr sc s H fp) tg g) (ht:∀ s H fp,PIfs (cxC X own fr sc s H fp) ifs tt) (he:∀ s H fp,PE (cxC X own fr sc s H fp) elt te)
  (hsw:swapsWith (.ListComp elt [⟨tg,iter,ifs,0⟩] sc pos) (some (.Name x pos')) spos.line X.env=pure true:=by rfl)
  (hs:∀ x,foldedSetIterable iter X.env x=pure x:=by intro _;rfl):PS X (.Assign [.Name x pos'] (.ListComp elt [⟨tg,iter,ifs,0⟩] sc pos) spos) (tAsg (tLC own fr wi g tt te) (gName i)):=by
 intro pins s σ H D I h
 rw [exec_Assign_Name_used _ _ _ _ hsw]
 apply wpAny_bind;apply wpAny_standAt;apply wpAny_bind
 show wpAny _ _ (comprehension (.ListComp elt [⟨tg,iter,ifs,0⟩] sc pos) sc X.env _ (newList []) false (eval iter X.env) (some (assign (.Name x pos') X.env)) >>= _) _ _ s
 apply wpAny_bind
 have hclos:closureFor sc X.env=pure (clOf X.env sc.names []):=closureFor_of fun y hy hf=>I.ok.has y.1 (by
  rcases S.fre y hy hf with q | q
  ·exact .inl q
  ·exact .inr q)
 refine wpAny_mono (wpAny_comprehension_free (use:=some (assign (.Name x pos') X.env)) (Q:=fun _ s'=>SP X pins D .next s') rfl hs hclos S.kind (fun y hy hl=>lookup_of_mem_nd S.nd (by rw [<- hl];exact hy)) ?_) (fun _ s' q=>wpAny_pure (wpAny_pure q)) fun _ _ z=>z
 refine thn (hi pins s σ H _ I h) fun v s1 h1=>thn h1 fun itv s2 h2=>?_
 obtain ⟨it,fp,tn,J,H2,e,I2,T,st2,f2,L⟩:=h2
 subst e
 exact lc_core hc S gk hg ht he I2 T st2 f2 L fun D0 C s' ns le h=>stored_use (R:=D.nx) I2 hN hix hx ns le h
def Its (x:Str):It:=⟨fun i _=>i < x.cps.size,fun i H v H'=>H'=H/\∃ c,x.cps[i]?=some c/\v=.str ⟨#[c]⟩,fun i _=>i=x.cps.size⟩
theorem go_str {M:Model} {A:Around} {E:Value->Shared->Prop} {s:Shared} {tg:Expr} {it:Addr} {x:Str} {t:Tok} {Q:Unit->Shared->Prop} (hQ:Q () s):wpAny M A (letOwnedTupleGo tg (.ref it) (.str x t)) Q E s:=by
 unfold letOwnedTupleGo
 cases tg<;>exact wpAny_pure hQ
theorem turn_str {P:Program} {w:World} {K:PySem.W.Frag} {tg:Expr} {it:Addr} {x:Str} {t:Tok} {ty:String} (W:∀ A:Around,A.handled=none->Walks P w A it [it] [it] x.cps.size (SignAt x) (fun i h=>h.IsStrIter it ty x t i))
  (hself:∀ (A:Around) (i:Nat) (s:Shared) (Q:Value->Shared->Prop) (E:Value->Shared->Prop),s.heap.IsStrIter it ty x t i->Q (.ref it) s->wpAny (model P w) A (pyIter (.ref it)) Q E s) :
  Turn P w K tg (Its x) [it] it (fun i h=>h.IsStrIter it ty x t i) where
 mem:=by simp
 obj:=fun i h st b hb=>by
  have e:b=it:=by simpa using hb
  subst e
  obtain ⟨o,e,c,d⟩:=st
  exact ⟨o,e,fun v z=>by rw [d] at z;cases z⟩
 keep:=fun i h h' st k=>by
  obtain ⟨o,e,r⟩:=st
  exact ⟨o,k it (by simp) o e,r⟩
 item:=by
  intro X hP hw hK hc i pins s σ H E I hf st hg
  subst hP hw hK
  obtain ⟨f0,f1,f2,f3,f4,f5⟩:=hf it (by simp)
  refine (W X.A (I.ok.hd hc)).item i s _ _ hg st fun v h' tk hv st' kk=>?_
  obtain ⟨c,u,hx,rfl⟩:=hv
  have I1:Inv X pins σ H { s with heap:=h',toks:=tk }:=I.turned (fun b o hb e=>kk b o (by simpa using hb) e) f0 f1 f3 f4 f5
  exact ⟨_,rfl,go_str ⟨.str ⟨#[c]⟩,H,I1,⟨u,rfl⟩,⟨rfl,c,hx,rfl⟩,st',fun b hb=>(hf b hb).1⟩⟩
 done:=by
  intro X hP hw hK hc i pins s σ H E I hf st hg
  subst hP hw hK
  obtain ⟨f0,f1,f2,f3,f4,f5⟩:=hf it (by simp)
  have hg':i=x.cps.size:=hg
  subst hg'
  exact (W X.A (I.ok.hd hc)).done s _ _ st fun h' tk kk=>⟨rfl,I.turned (fun b o hb e=>kk b o (by simpa using hb) e) f0 f1 f3 f4 f5⟩
 self:=hself
section
variable {X:Cx} {tg:Expr}
def iStr (tl:TE):TI:=fun σ H R=>tl σ H fun x H1=>∃ z,x=.str z/\R (Its z) H1
theorem pi_str {l:Expr} {tl:TE} (hl:PE X l tl):PI X tg l (iStr tl):=by
 intro pins s σ H R I h
 refine thn (hl pins s σ H _ I h) fun v s1 ⟨x,H1,I1,r1,q1⟩=>?_
 obtain ⟨z,rfl,q⟩:=q1
 obtain ⟨t,rfl⟩:=r1
 have fin:∀ ty:String,(∀ A:Around,A.handled=none->Walks X.prog X.w A s1.heap.objs.size [s1.heap.objs.size] [s1.heap.objs.size] z.cps.size (SignAt z) (fun i h=>h.IsStrIter s1.heap.objs.size ty z t i)) ->
   (∀ (A:Around) (i:Nat) (s:Shared) (Q:Value->Shared->Prop) (E:Value->Shared->Prop),s.heap.IsStrIter s1.heap.objs.size ty z t i->Q (.ref s1.heap.objs.size) s->wpAny (model X.prog X.w) A (pyIter (.ref s1.heap.objs.size)) Q E s) ->
   PIE X pins σ tg R (.ref s1.heap.objs.size) { s1 with heap:=s1.heap.push { cls:=.type ty,data:=.fields #[.str z t,.int 0 0] } }:=fun ty W hself=>by
  refine ⟨s1.heap.objs.size,[s1.heap.objs.size],_,_,H1,rfl,I1.kept (t':=s1.toks) fun b o e=>Heap.get?_push_of_some _ e,turn_str W hself,⟨_,Heap.get?_push_size _ rfl,rfl,rfl⟩,fun b hb=>?_,q⟩
  have e:b=s1.heap.objs.size:=by simpa using hb
  subst e
  exact I1.fpOk (Nat.le_refl _) (I1.hok.fresh (Nat.le_refl _))
 cases ha:z.cps.all (· < 128)
 ·exact wpAny_pyIter_wide ha (fin _ (fun A hA=>Walks.strWide hA _ z t) fun A i s Q E st q=>wpAny_pyIter_striter_wide st q)
 ·exact wpAny_pyIter_ascii ha (fin _ (fun A hA=>Walks.strAscii hA _ z t) fun A i s Q E st q=>wpAny_pyIter_striter_ascii st q)
theorem vals_bl_get:∀ {bs:List Bool} {us:List Value} {i:Nat} {u:Value},Vals (bs.map V.bl) us->us[i]?=some u->∃ b,bs[i]?=some b/\u=.bool b
 | [],_,i,u,.nil,e=>by simp at e
 | b::bs,_,0,u,.cons r _,e=>by simp at e;subst e;exact ⟨b,rfl,r⟩
 | b::bs,_,i+1,u,.cons _ t,e=>by
  obtain ⟨b',h1,h2⟩:=vals_bl_get (i:=i) (u:=u) t (by simpa using e)
  exact ⟨b',by simpa using h1,h2⟩
theorem range_all (bs:List Bool):((List.range bs.length).all fun i=>bs.getD i false)=bs.all id:=by
 induction bs with
 | nil=>rfl
 | cons b bs ih =>
  rw [List.length_cons,List.range_succ_eq_map,List.all_cons,List.all_map,List.all_cons]
  have e:((fun i=>(b::bs).getD i false) ∘ Nat.succ)=fun i=>bs.getD i false:=by funext i;simp
  rw [e,ih];simp
theorem call_all (hc:X.calm=true):CallR X (.builtin "all") (fun xs H Q=>∃ (p:Addr) (bs:List Bool),xs=[.ref p]/\SqL X.K H p (bs.map V.bl)/\Q (.bl (bs.all id)) H):=by
 intro pins s σ H xs us Q I r h
 obtain ⟨p,bs,rfl,hq,q⟩:=h
 obtain ⟨u,rfl,rx⟩:=vals1 r
 cases rx
 obtain ⟨its,rv,pl,hz⟩:=I.list hq
 have hlt:p < s.heap.objs.size:=by obtain ⟨o,n,e,_⟩:=pl;exact Heap.lt_size e
 have hlen:its.length=bs.length:=by rw [<- rv.length,List.length_map]
 refine call_all_walk (wpAny_pyIter_list pl.isList ?_)
 refine ⟨s.heap.objs.size,_,_,its.toArray.size,_,_,fun i=>bs.getD i false,rfl,Walks.list (A:=X.A.in1) (I.ok.hd hc) s.heap.objs.size p (Nat.ne_of_lt hlt) its.toArray,⟨⟨_,Heap.get?_push_size _ rfl,rfl,rfl⟩,pl.isList.push _⟩,fun i v s' Q' E' hP hQ=>?_,fun h' tk hk=>?_⟩
 ·obtain ⟨b,h1,rfl⟩:=vals_bl_get rv (by simpa using hP)
  refine wpAny_truthy_bool ?_
  have e:bs.getD i false=b:=by rw [List.getD,h1];rfl
  rw [<- e];exact hQ
 ·rw [List.size_toArray,hlen,range_all]
  refine ⟨.bl _,H,?_,rfl,q⟩
  have J:Inv X pins σ H { s with heap:=h',toks:=tk }:=I.kept fun b o e=>hk b o (fun z=>absurd (Heap.lt_size e) (by rw [List.mem_singleton.mp z];exact Nat.lt_irrefl _)) (Heap.get?_push_of_some _ e)
  exact J
theorem call_isinst {T:String}:CallR X (.builtin "isinstance") (fun xs H Q=>∃ x t b,xs=[x,.ty T]/\TyOf X.K H x t/\PySem.W.kitOne X.K t (.type T)=some b/\Q (.bl b) H):=by
 intro pins s σ H xs us Q I r h
 obtain ⟨x,t,b,rfl,ty,e,q⟩:=h
 obtain ⟨u,v,rfl,ru,rv⟩:=vals2 r
 cases rv
 exact isinst_ok I ru ty e fun tk=>⟨.bl b,H,I.tok _,rfl,q⟩
theorem strs_of:∀ {ys:List Str} {us:List Value},Vals (ys.map V.str) us->StrsAre us ys
 | [],_,.nil=>.nil
 | y::ys,_,.cons r t=>by obtain ⟨k,rfl⟩:=(show ∃ k,_=Value.str y k from r);exact .cons y k (strs_of t)
theorem mt_join:MtR X "str.join" (fun x vs H Q=>∃ (sep:Str) (p:Addr) (ys:List Str),x=.str sep/\vs=[.ref p]/\SqL X.K H p (ys.map V.str)/\(ys.map (·.length)).sum+ys.length * sep.length<=16777216/\Q (.str (Txt.join sep ys)) H):=by
 intro pins s σ H x xs v us Q I rx r h
 obtain ⟨sep,p,ys,rfl,rfl,hq,hl,q⟩:=h
 obtain ⟨u,rfl,ru⟩:=vals1 r
 cases ru
 obtain ⟨t,rfl⟩:=rx
 obtain ⟨its,rv,pl,hz⟩:=I.list hq
 exact join_list pl.isList (by simpa using strs_of rv) hl fun t' k=>⟨.str _,H,I.tok _,⟨t',rfl⟩,q⟩
theorem op_le_str:OpR X (compareOp .LtE) (fun x y H Q=>∃ i j,x=.str i/\y=.str j/\Q (.bl (!decide (j.cps.toList < i.cps.toList))) H):=by
 intro pins s σ H x y v u Q I rx ry h
 obtain ⟨i,j,rfl,rfl,q⟩:=h
 obtain ⟨t,rfl⟩:=rx
 obtain ⟨t',rfl⟩:=ry
 exact PySem.P.le_str ⟨.bl _,H,I,rfl,by simpa using q⟩
theorem vals_of_get:∀ {xs:List V} {us:List Value},xs.length=us.length->(∀ (j:Nat) (u:Value),us[j]?=some u->∃ x,xs[j]?=some x/\RelV x u)->Vals xs us
 | [],[],_,_=>.nil
 | [],_::_,h,_=>by simp at h
 | _::_,[],h,_=>by simp at h
 | x::xs,u::us,h,g=>by
  obtain ⟨x',e,r⟩:=g 0 u rfl
  have:x=x':=by simpa using e
  subst this
  exact .cons r (vals_of_get (by simpa using h) fun j w e=>by simpa using g (j+1) w (by simpa using e))
end
theorem lc_range {own:List Str} {fr:List Nat} {g:TG} {tt:TT} {te:TE} {σ:St} {Q:VK} {lo:Int} {n:Nat} {H:Hp} (Pv:Nat->List V->Hp->Prop) (h0:Pv 0 [] H) (hlen:∀ i ys H,i<=n->Pv i ys H->ys.length<=sizeLine)
  (hs:∀ i ys H (R:List V->Hp->Prop),i < n->Pv i ys H->(∀ ys' H',Pv (i+1) ys' H'->R ys' H')->g (.int (lo+i)) (cSt own fr σ) H fun σ4 H4=>tt σ4 H4 fun b H5=>if b=true then te σ4 H5 fun y H6=>R (ys++[y]) H6 else R ys H5)
  (hd:∀ ys H,Pv n ys H->∀ D,H D=none->Q (.ref D) (upd H D (.lst ys))):lcLoop own fr g tt te σ Q (Itr lo n) H:=by
 refine ⟨fun i m ys H=>m=n - i/\i<=n/\Pv i ys H,⟨n,rfl,Nat.zero_le _,h0⟩,?_⟩
 rintro i m ys H2 ⟨rfl,hi,p⟩
 refine ⟨hlen i ys H2 hi p,?_⟩
 by_cases h:i < n
 ·refine .inr ⟨h,fun x H3 hy=>?_⟩
  obtain ⟨rfl,rfl⟩:=hy
  exact hs i ys _ (fun ys' H'=>∃ m',m' < n - i/\(m'=n - (i+1)/\i+1<=n/\Pv (i+1) ys' H')) h p fun ys' H' q=>⟨n - (i+1),by omega,rfl,h,q⟩
 ·have e:i=n:=by omega
  subst e
  exact .inl ⟨Nat.le_refl _,hd ys H2 p⟩
theorem lc_list {K:PySem.W.Frag} {a:Addr} {xs:List V} {own:List Str} {fr:List Nat} {g:TG} {tt:TT} {te:TE} {σ:St} {Q:VK} {H:Hp} (Pv:Nat->List V->Hp->Prop) (h0:Pv 0 [] H) (hlen:∀ i ys H,i<=xs.length->Pv i ys H->ys.length<=sizeLine)
  (hl:∀ i ys H,i<=xs.length->Pv i ys H->SqL K H a xs)
  (hs:∀ i x ys H (R:List V->Hp->Prop),xs[i]?=some x->Pv i ys H->(∀ ys' H',Pv (i+1) ys' H'->R ys' H')->g x (cSt own fr σ) H fun σ4 H4=>tt σ4 H4 fun b H5=>if b=true then te σ4 H5 fun y H6=>R (ys++[y]) H6 else R ys H5)
  (hd:∀ ys H,Pv xs.length ys H->∀ D,H D=none->Q (.ref D) (upd H D (.lst ys))):lcLoop own fr g tt te σ Q (Itl K a) H:=by
 refine ⟨fun i m ys H=>m=xs.length - i/\i<=xs.length/\Pv i ys H,⟨xs.length,rfl,Nat.zero_le _,h0⟩,?_⟩
 rintro i m ys H2 ⟨rfl,hi,p⟩
 refine ⟨hlen i ys H2 hi p,?_⟩
 have q:=hl i ys H2 hi p
 by_cases h:i < xs.length
 ·refine .inr ⟨⟨xs,xs[i],q,by simp [h]⟩,fun x H3 hy=>?_⟩
  obtain ⟨rfl,hy⟩:=hy
  exact hs i x ys _ (fun ys' H'=>∃ m',m' < xs.length - i/\(m'=xs.length - (i+1)/\i+1<=xs.length/\Pv (i+1) ys' H')) (hy xs q) p fun ys' H' q=>⟨xs.length - (i+1),by omega,rfl,h,q⟩
 ·have e:i=xs.length:=by omega
  subst e
  exact .inl ⟨⟨xs,q,Nat.le_refl _⟩,hd ys H2 p⟩
theorem lc_tup {K:PySem.W.Frag} {a:Addr} {xs:List V} {own:List Str} {fr:List Nat} {g:TG} {tt:TT} {te:TE} {σ:St} {Q:VK} {H:Hp} (Pv:Nat->List V->Hp->Prop) (h0:Pv 0 [] H) (hlen:∀ i ys H,i<=xs.length->Pv i ys H->ys.length<=sizeLine)
  (hl:∀ i ys H,i<=xs.length->Pv i ys H->SqT K H a xs)
  (hs:∀ i x ys H (R:List V->Hp->Prop),xs[i]?=some x->Pv i ys H->(∀ ys' H',Pv (i+1) ys' H'->R ys' H')->g x (cSt own fr σ) H fun σ4 H4=>tt σ4 H4 fun b H5=>if b=true then te σ4 H5 fun y H6=>R (ys++[y]) H6 else R ys H5)
  (hd:∀ ys H,Pv xs.length ys H->∀ D,H D=none->Q (.ref D) (upd H D (.lst ys))):lcLoop own fr g tt te σ Q (Itt K a) H:=by
 refine ⟨fun i m ys H=>m=xs.length - i/\i<=xs.length/\Pv i ys H,⟨xs.length,rfl,Nat.zero_le _,h0⟩,?_⟩
 rintro i m ys H2 ⟨rfl,hi,p⟩
 refine ⟨hlen i ys H2 hi p,?_⟩
 have q:=hl i ys H2 hi p
 by_cases h:i < xs.length
 ·refine .inr ⟨⟨xs,xs[i],q,by simp [h]⟩,fun x H3 hy=>?_⟩
  obtain ⟨rfl,hy⟩:=hy
  exact hs i x ys _ (fun ys' H'=>∃ m',m' < xs.length - i/\(m'=xs.length - (i+1)/\i+1<=xs.length/\Pv (i+1) ys' H')) (hy xs q) p fun ys' H' q=>⟨xs.length - (i+1),by omega,rfl,h,q⟩
 ·have e:i=xs.length:=by omega
  subst e
  exact .inl ⟨⟨xs,q,Nat.le_refl _⟩,hd ys H2 p⟩
theorem ObjOk.there {P:Program} {w:World} {H:Hp} {h:Heap} {a:Addr} {o:HO} (x:ObjOk P w H h a o):∃ u,h.get? a=some u:=by
 cases o with
 | lst xs=>obtain ⟨_,_,_,_,e⟩:=x;exact ⟨_,e⟩
 | tup xs=>obtain ⟨_,_,_,o,e,_⟩:=x;exact ⟨_,e⟩
 | dK kvs=>obtain ⟨_,_,_,_,o,_,_,e,_⟩:=x;exact ⟨_,e⟩
 | dT kvs=>obtain ⟨_,_,_,_,o,_,_,e,_⟩:=x;exact ⟨_,e⟩
 | set S n=>obtain ⟨o,_,_,_,e,_⟩:=x;exact ⟨_,e⟩
 | ins C dx fs=>obtain ⟨_,_,_,e,_⟩:=x;exact ⟨_,e⟩
 | own y=>exact x
 | xd fs=>obtain ⟨_,⟨_,_,_,e,_⟩,_⟩:=x;exact ⟨_,e⟩
 | rng lo hi=>obtain ⟨_,_,_,e⟩:=x;exact ⟨_,e⟩
 | frz ob u=>obtain ⟨e,_⟩:=x;exact ⟨_,e⟩
 | tbl ps=>exact ⟨_,(show h.get? a=some _ from x)⟩
 | met f y=>exact ⟨_,(show h.get? a=some _ from x)⟩
 | ext φ=>obtain ⟨_,e,_⟩:=x;exact e
structure Fly (P:Program) (w:World) (outer:List Env) (H:Hp) (s:Shared) (H':Hp) (a:Addr) (cls:Value) (s':Shared):Prop where
 os:s'.os=s.os
 bare:AllBare s'.gens
 un:Un (frs outer) [] H H' s.heap s'.heap
 hok:HOk P w H' s'.heap
 an:H' a=none
 fly:∃ (B:Heap) (a0:Value),Heap.FlyingW B outer a cls a0 s'.heap/\∀ b o,s'.heap.get? b=some o->((∃ q,s.heap.get? b=some q)\/∃ u,H' b=some u)->b ∉ frs outer->B.get? b=some o
def CXO (P:Program) (w:World):CXT:=fun outer H s E e s'=>∃ a cls H',e=.ref a/\Fly P w outer H s H' a cls s'/\E cls none H'
theorem passN {P:Program} {w:World} {X:Cx}:Passes (CXO P w) X E0:=fun _ _ _ _ _ _ _ ⟨_,_,_,_,_,h⟩=>h.elim
section
variable {CX:CXT} {P:Program} {w:World} {K:PySem.W.Frag} {mg:Str->Option Value} {base:Heap} {N:List Str} {qual:Str} {scope:Scope} {f:Addr} {cdv:Value} {A:Around} {outer:List Env} {s s1 s2:Shared} {H H1 H2:Hp} {E:XK}
 {pins:List (Addr × Obj)} {σ:St} {a:Addr} {cls a0:Value} {B h':Heap}
theorem fly_out (I:Inv (cxOf CX P w K mg base N qual scope f cdv A outer s H E) pins σ H1 s1) (os:s2.os=s1.os) (bare:AllBare s2.gens)
  (un:Un (frs (envOfC qual scope s.heap.objs.size f cdv::outer)) [] H1 H2 s1.heap s2.heap) (hok:HOk P w H2 s2.heap) (an:H2 a=none)
  (hB:∀ b o,s2.heap.get? b=some o->((∃ q,s1.heap.get? b=some q)\/∃ u,H2 b=some u)->b ∉ frs (envOfC qual scope s.heap.objs.size f cdv::outer)->B.get? b=some o)
  (hfl:Heap.FlyingW B outer a cls a0 h') (hsl:∀ b∈frs outer,∀ o,s2.heap.get? b=some o->∃ sl,h'.get? b=some { o with slots:=sl }):Fly P w outer H s H2 a cls { s2 with heap:=h' }:=by
 have fr:frs (envOfC qual scope s.heap.objs.size f cdv::outer)=s.heap.objs.size::frs outer:=rfl
 have old:∀ b o,s.heap.get? b=some o->b≠s.heap.objs.size:=fun b o e=>Nat.ne_of_lt (Heap.lt_size e)
 have nin:∀ b,b≠s.heap.objs.size->b ∉ frs outer->b ∉ frs (envOfC qual scope s.heap.objs.size f cdv::outer):=fun b h1 h2 z=>by
  rw [fr] at z
  rcases List.mem_cons.mp z with z | z
  ·exact h1 z
  ·exact h2 z
 have u1:Un (frs outer) [] H H1 s.heap s1.heap:=I.base
 have hst:∀ b∈frs (envOfC qual scope s.heap.objs.size f cdv::outer),H2 b=none:=fun b hb=>by
  obtain ⟨_,o,e,_⟩:=I.stack.mem (show b∈(envOfC qual scope s.heap.objs.size f cdv::outer).filterMap (·.frame) from hb)
  exact un.free b o e (I.stkFree b hb) (by simp)
 have there2:∀ b o,s.heap.get? b=some o->∃ o',s2.heap.get? b=some o':=fun b o e=>by
  obtain ⟨o1,e1⟩:=u1.there b o e (by simp)
  exact un.there b o1 e1 (by simp)
 have inB:∀ b o,s.heap.get? b=some o->b ∉ frs outer->∀ o2,s2.heap.get? b=some o2->h'.get? b=some o2:=fun b o e hb o2 e2=>by
  obtain ⟨o1,e1⟩:=u1.there b o e (by simp)
  exact hfl.1 b o2 (hB b o2 e2 (.inl ⟨o1,e1⟩) (nin b (old b o e) hb))
 have trB:∀ b u,H2 b=some u->∀ o2,s2.heap.get? b=some o2->h'.get? b=some o2:=fun b u e o2 e2 =>
  hfl.1 b o2 (hB b o2 e2 (.inr ⟨u,e⟩) fun z=>by rw [hst b z] at e;cases e)
 refine ⟨os.trans I.os,bare,⟨fun b o e n hb hx=>?_,fun b o e n hb hx=>?_,fun b o e n hx=>?_,fun b o e hx=>?_,fun b xs e=>un.tups b xs (u1.tups b xs e),fun b o u e=>un.frzs b o u (u1.frzs b o u e),fun b ps e=>?_⟩,fun b u e=>?_,an,⟨B,a0,hfl,fun b o e hh hb=>?_⟩⟩
 ·exact inB b o e hb o (un.keep b o (u1.keep b o e n hb hx) (u1.free b o e n hx) (nin b (old b o e) hb) hx)
 ·obtain ⟨sl,e1⟩:=u1.slot b o e n hb hx
  obtain ⟨sl2,e2⟩:=un.any e1 (u1.free b o e n hx) hx
  obtain ⟨sl3,e3⟩:=hsl b hb _ e2
  exact ⟨sl3,e3⟩
 ·obtain ⟨o1,e1⟩:=u1.there b o e hx
  exact un.free b o1 e1 (u1.free b o e n hx) hx
 ·obtain ⟨o2,e2⟩:=there2 b o e
  by_cases hb:b∈frs outer
  ·obtain ⟨sl,e3⟩:=hsl b hb _ e2
   exact ⟨_,e3⟩
  ·exact ⟨o2,inB b o e hb o2 e2⟩
 ·obtain ⟨m1,e1⟩:=u1.tbls b ps e
  obtain ⟨m2,e2⟩:=un.tbls b _ e1
  exact ⟨m1++m2,by rw [e2,Array.append_assoc]⟩
 ·refine (hok b u e).stay (fun c v hc q=>?_) (fun _ q=>q) fun _ _ q=>q
  rcases hc with z | z
  ·subst z;exact trB c u e v q
  ·exact trB c _ z v q
 ·rcases hh with ⟨q,hq⟩ | ⟨u,hu⟩
  ·obtain ⟨o2,e2⟩:=there2 b q hq
   have e3:=inB b q hq hb o2 e2
   have e':h'.get? b=some o:=e
   rw [e3] at e';cases e'
   obtain ⟨o1,e1⟩:=u1.there b q hq (by simp)
   exact hB b _ e2 (.inl ⟨o1,e1⟩) (nin b (old b q hq) hb)
  ·obtain ⟨o2,e2⟩:=(hok b u hu).there
   have e3:=trB b u hu o2 e2
   have e':h'.get? b=some o:=e
   rw [e3] at e';cases e'
   exact hB b _ e2 (.inr ⟨u,hu⟩) fun z=>by rw [hst b z] at hu;cases hu
theorem own_cls {K:PySem.W.Frag} {h:Heap} {mg:Str->Option Value} {x:Str} {C:Addr} {bmB:List Value} {newId:String} (X:K.In h) (b:mg x=some (.ref C)) (q:PySem.W.excIn K C bmB newId=true):OwnCls x C bmB newId mg h:=by
 have no:∀ {P:Prop},false=true->P:=fun z=>absurd z Bool.false_ne_true
 unfold PySem.W.excIn at q
 split at q<;>first | exact no q | skip
 next dict data slots found =>
 split at q<;>first | exact no q | skip
 next first above w0 w1 w2 w3 made w5 order listed =>
 simp only [Bool.and_eq_true] at q
 obtain ⟨⟨⟨⟨⟨isC,isNew⟩,noDel⟩,tail⟩,ok⟩,noInit⟩:=q
 have eC:first=C:=beq_iff_eq.mp isC
 have eN:made=newId:=beq_iff_eq.mp isNew
 have eD:data.hasDel=false:=by simpa using noDel
 have eS:slots=#[w0,w1,w2,w3,some (.builtin made),w5]:=Array.toList_inj.mp (by rw [listed])
 cases data
 simp only at order eD
 subst eC eN order eD eS
 exact { bound:=b,obj:=⟨above,_,_,_,_,_,_,_,_,_,dict,w0,w1,w2,w3,w5,_,X _ _ found,.of_isNs (PySem.W.isNs_of_in X ok),PySem.W.nsMap_none_of_in X ok (by simpa using noInit),PySem.W.tail_of_in X tail⟩ }
def tRaise (C:Addr) (t:TA) (E:XK):TS:=fun D σ H=>t σ H fun vs H1=>vs.length<=sizeLine/\E (.ref C) none H1
theorem ps_raise {x:Str} {C:Addr} {bm:List Value} {Bn newId initId:String} {np cpos pos:Pos} {e₀:Expr} {rest:List Expr} {t:TA} (hx:Gl (cxOf (CXO P w) P w K mg base N qual scope f cdv A outer s H E) x) (b:mg x=some (.ref C)) (q:PySem.W.excIn K C bm newId=true) (FB:ExcBaseFacts Bn newId initId bm)
  (ha:PA (cxOf (CXO P w) P w K mg base N qual scope f cdv A outer s H E) (e₀::rest) t) (hd:(x == ("__debug__" : Str))=false:=by decide)
  (he:starEach (e₀::rest) (envOfC qual scope s.heap.objs.size f cdv)=(false,eval e₀ (envOfC qual scope s.heap.objs.size f cdv))::starEach rest (envOfC qual scope s.heap.objs.size f cdv):=by rfl)
  (hplain:(backTo cpos (starEach rest (envOfC qual scope s.heap.objs.size f cdv))).any (·.1)=false:=by rfl) :
  PS (cxOf (CXO P w) P w K mg base N qual scope f cdv A outer s H E) (.Raise (some (.Call (.Name x np) (e₀::rest) [] cpos)) none pos) (tRaise C t E):=by
 intro pins s0 σ H0 D I h
 obtain ⟨tl,Nn,nm,q',bs,hdct,sn,sub,ab,col,dd,k0,k1,k2,k3,k5,mN,hC,hN,hni,T⟩:=(own_cls I.mod.kin b q).obj
 refine wpAny_Raise_call_subT (C:=C) (nm:=nm) (q:=q') (N:=Nn) (bs:=bs) (bm:=tl) (hdct:=hdct) (sn:=sn) (sub:=sub) (ab:=ab) (col:=col) (dd:=dd) (k0:=k0) (k1:=k1) (k2:=k2) (k3:=k3) (k5:=k5)
  FB (mN:=mN) (T.hasType FB.hasBase) (I.ok.hd rfl) (by show (backTo cpos (starEach (e₀::rest) (envOfC qual scope s.heap.objs.size f cdv))).any _=false;rw [he];show (false || (backTo cpos (starEach rest (envOfC qual scope s.heap.objs.size f cdv))).any (·.1))=false;rw [hplain];rfl) hni (ld_glob I hx b ⟨rfl,?_⟩ hd)
 have hA:=ha cpos pins s0 σ H0 _ I h
 have he':starEach (e₀::rest) (cxOf (CXO P w) P w K mg base N qual scope f cdv A outer s H E).env=(false,eval e₀ (cxOf (CXO P w) P w K mg base N qual scope f cdv A outer s H E).env)::starEach rest (cxOf (CXO P w) P w K mg base N qual scope f cdv A outer s H E).env:=he
 rw [he'] at hA ⊢
 refine Calls.evalArgs_plain (wpAny_mono hA (fun us s2 ⟨vs,H2,I2,rv,hz,hE⟩=>⟨rfl,by rw [<- rv.length];exact hz,I2.bk _ _ hC,hN.keeps I2.bk,T.keeps I2.bk,fun h' e hx'=>?_⟩) fun _ _ y=>y)
 have hfr:(A.deeper (envOfC qual scope s.heap.objs.size f cdv)).frames=some (envOfC qual scope s.heap.objs.size f cdv::outer):=I2.ok.frames
 have hin:∀ env∈(envOfC qual scope s.heap.objs.size f cdv::outer),∀ b,env.frame=some b->b∈frs (envOfC qual scope s.heap.objs.size f cdv::outer):=fun env he b hb=>List.mem_filterMap.mpr ⟨env,he,hb⟩
 have noH:∀ b,s2.heap.get? b=none->H2 b=none:=fun b e=>by
  cases z:H2 b with
  | none=>rfl
  | some u=>obtain ⟨o,eo⟩:=(I2.hok b u z).there;rw [e] at eo;cases eo
 show wpAny _ _ (leaving _ _) _ _ _
 refine wpAny_leaves_madeW (base:=PySem.W.hideAll s2.heap (frs (envOfC qual scope s.heap.objs.size f cdv::outer))) (h:=s2.heap) hfr rfl (fun b o q=>PySem.W.of_hideAll _ q) (PySem.W.funFrames_hide I2.stack hin) hx' fun h'' t x1 x2 x3 x4=>⟨e,.ref C,H2,rfl,?_,hE⟩
 refine fly_out (s2:={ s2 with heap:=h' }) I2 rfl I2.bare (Un.kept hx'.keeps) (I2.hok.kept hx'.keeps) (noH e hx'.new) (fun b o eb hh hb=>?_) x1 fun b hb o eb=>x4 b o eb ?_
 ·have key:∀ o',s2.heap.get? b=some o'->(PySem.W.hideAll s2.heap (frs (envOfC qual scope s.heap.objs.size f cdv::outer))).get? b=some o:=fun o' e'=>by
   have e2:=hx'.keeps b o' e'
   have e3:h'.get? b=some o:=eb
   rw [e2] at e3;cases e3
   exact PySem.W.hideAll_get _ e' hb
  rcases hh with ⟨o',e'⟩ | ⟨u,hu⟩
  ·exact key o' e'
  ·obtain ⟨o',e'⟩:=(I2.hok b u hu).there
   exact key o' e'
 ·obtain ⟨_,o',e',d⟩:=I2.stack.mem (show b∈(envOfC qual scope s.heap.objs.size f cdv::outer).filterMap (·.frame) from List.mem_cons_of_mem _ hb)
  have e2:=hx'.keeps b o' e'
  have e3:h'.get? b=some o:=eb
  rw [e2] at e3;cases e3
  exact d
end
abbrev TX:=St->Hp->VK->XK->Prop
def tCallX (sp:Sp) (dvs:List V) (t:TA):TX:=fun σ H Q R=>t σ H fun vs H1=>sp (vs++dvs) H1 Q R
section
variable {X:Cx} {k:Nat} {f C:Addr} {fd:FuncData} {ps:List Str} {sp:Sp} {dvs:List V} {ds:List Value} {x m:Str} {p pos apos:Pos} {e o:Expr} {es:List Expr} {ta:TE} {t:TA}
theorem goes_ok {M:Model} {A:Around} {E:Value->Shared->Prop} {pins:List (Addr × Obj)} {σ:St} {H:Hp} {s:Shared} {i:Nat} {x:Str} {hpos:Pos} {Q:Unit->Shared->Prop} (I:Inv X pins σ H s) (hN:X.N.Nodup) (hi:X.N[i]?=some x) (hk:X.env.scope.names.lookup x=some .local)
  (h:∀ s',Inv X pins (σ.set i none) H s'->Q () s'):wpAny M A (do bindName X.env x .none;unbindBehindTheSuite X.env x hpos) Q E s:=by
 obtain ⟨m,hn,hl⟩:=id I.loc
 have hcls:(X.env.scope.kind == .class || (X.env.scope.kind == .module && X.env.locals != X.env.globals))=false:=by rw [I.ok.kind];rfl
 have hiσ:i < σ.length:=by rw [I.len];exact (List.getElem?_eq_some_iff.mp hi).1
 have cne:=I.cne
 refine wpAny_nameGoes_keeps hk hn hcls fun h' v hn' hs=>h _ ?_
 obtain ⟨oL,_,_,hoL,_⟩:=id hn
 have tracked:HOk X.prog X.w H h':=fun b ob e=>by
  refine (I.hok b ob e).stay (fun c w' hc q=>(hs.2 c ?_).trans q) (fun _ q=>q) fun _ _ q=>q
  rintro rfl
  have hfree:=I.free
  rcases hc with rfl | hc
  ·rw [hfree] at e;cases e
  ·rw [hfree] at hc;cases hc
 refine ⟨I.ok,I.os,I.bare,⟨fun b o e n hb hx=>?_,fun b o e n hb hx=>?_,I.base.free,fun b o e hx=>?_,I.base.tups,I.base.frzs,I.base.tbls⟩,⟨_,hn',fun j y v' e1 e2 e3=>?_⟩,fun y c e=>?_,I.free,I.freeC,fun p hp=>?_,tracked,by simpa using I.len⟩
 ·exact (hs.2 b (Nat.ne_of_lt (Nat.lt_of_lt_of_le (Heap.lt_size e) I.ok.above))).trans (I.base.keep b o e n hb hx)
 ·obtain ⟨sl,e1⟩:=I.base.slot b o e n hb hx
  exact ⟨sl,(hs.2 b (Nat.ne_of_lt (Nat.lt_of_lt_of_le (Heap.lt_size e) I.ok.above))).trans e1⟩
 ·obtain ⟨o',e1⟩:=I.base.there b o e hx
  exact ⟨o',(hs.2 b (Nat.ne_of_lt (Nat.lt_of_lt_of_le (Heap.lt_size e) I.ok.above))).trans e1⟩
 ·by_cases hj:j=i
  ·subst hj
   rw [List.getElem?_set_self hiσ] at e2
   cases e2
  ·rw [List.getElem?_set_ne (Ne.symm hj)] at e2
   obtain ⟨u',r',q⟩:=hl j y v' e1 e2 e3
   refine ⟨u',r',?_⟩
   rcases q with ⟨k,e⟩ | ⟨k,c,e,z⟩
   ·refine .inl ⟨k,?_⟩
    have:y≠x:=fun e=>hj (nodup_ix hN e1 (e ▸ hi))
    simp [this,e]
   ·exact .inr ⟨k,c,e,z.sameBut hs (cne y c e)⟩
 ·obtain ⟨w',z⟩:=I.cell y c e
  exact ⟨w',z.sameBut hs (cne y c e)⟩
 ·obtain ⟨e,n,ne,nf,d⟩:=I.pin p hp
  exact ⟨(hs.2 p.1 ne).trans e,n,ne,nf,d⟩
end
def excO (a:Addr) (cls:Value):HO:=.ext fun h=>∃ o vs,h.get? a=some o/\o.cls=cls/\o.data=.fields vs
section
variable {X:Cx} {pins:List (Addr × Obj)} {σ:St} {H1 H2:Hp} {s1 s2:Shared} {a:Addr} {cls a0:Value} {B h':Heap}
abbrev Cx.catch (X:Cx) (a:Addr):Cx:={ X with A:=X.A.mark (some (.ref a)),calm:=false }
theorem Cx.Ok.catch {X:Cx} (ok:X.Ok) (a:Addr):(X.catch a).Ok :=
 ⟨ok.mod,ok.kind,ok.glob,ok.blt,ok.above,ok.inj,ok.has,ok.cab,fun z=>Bool.noConfusion (show false=true from z),ok.frames,ok.stk,ok.exf,ok.bs,ok.bsz,ok.noex,ok.exfs,ok.funs,ok.frf⟩
theorem Inv.catch {H:Hp} {s:Shared} (I:Inv X pins σ H s) (a:Addr):Inv (X.catch a) pins σ H s:=⟨I.ok.catch a,I.os,I.bare,I.base,I.loc,I.cell,I.free,I.freeC,I.pin,I.hok,I.len⟩
theorem Inv.uncatch {H:Hp} {s:Shared} (ok:X.Ok) (I:Inv ((X.catch a).nox) pins σ H s):Inv X pins σ H s:=⟨ok,I.os,I.bare,I.base,I.loc,I.cell,I.free,I.freeC,I.pin,I.hok,I.len⟩
theorem fly_in (I:Inv X pins σ H1 s1) (fl:Fly X.prog X.w X.stack H1 s1 H2 a cls s2) (hB:∀ b o,s2.heap.get? b=some o->((∃ q,s1.heap.get? b=some q)\/∃ u,H2 b=some u)->b ∉ frs X.stack->B.get? b=some o)
  (hfl:Heap.FlyingW B X.stack a cls a0 h') (hsl:∀ b∈frs X.stack,∀ o,s2.heap.get? b=some o->∃ sl,h'.get? b=some { o with slots:=sl }) :
  Inv X pins σ H2 { s2 with heap:=h' }/\Inv X pins σ (upd H2 a (excO a cls)) { s2 with heap:=h' }:=by
 have un:=fl.un
 have hst:∀ b∈frs X.stack,H2 b=none:=fun b hb=>by
  obtain ⟨_,o,e,_⟩:=I.stack.mem (show b∈X.stack.filterMap (·.frame) from hb)
  exact un.free b o e (I.stkFree b hb) (by simp)
 have inB:∀ b o,s1.heap.get? b=some o->b ∉ frs X.stack->∀ o2,s2.heap.get? b=some o2->h'.get? b=some o2:=fun b o e hb o2 e2=>hfl.1 b o2 (hB b o2 e2 (.inl ⟨o,e⟩) hb)
 have trB:∀ b u,H2 b=some u->∀ o2,s2.heap.get? b=some o2->h'.get? b=some o2:=fun b u e o2 e2=>hfl.1 b o2 (hB b o2 e2 (.inr ⟨u,e⟩) fun z=>by rw [hst b z] at e;cases e)
 have un':Un (frs X.stack) [] H1 H2 s1.heap h':=by
  refine ⟨fun b o e n hb hx=>inB b o e hb o (un.keep b o e n hb hx),fun b o e n hb hx=>?_,un.free,fun b o e hx=>?_,un.tups,un.frzs,un.tbls⟩
  ·obtain ⟨sl2,e2⟩:=un.any e n hx
   obtain ⟨sl3,e3⟩:=hsl b hb _ e2
   exact ⟨sl3,e3⟩
  ·obtain ⟨o2,e2⟩:=un.there b o e hx
   by_cases hb:b∈frs X.stack
   ·obtain ⟨sl,e3⟩:=hsl b hb _ e2
    exact ⟨_,e3⟩
   ·exact ⟨o2,inB b o e hb o2 e2⟩
 have hok':HOk X.prog X.w H2 h':=fun b u e=>by
  refine (fl.hok b u e).stay (fun c v hc q=>?_) (fun _ q=>q) fun _ _ q=>q
  rcases hc with z | z
  ·subst z;exact trB c u e v q
  ·exact trB c _ z v q
 obtain ⟨oe,vs,he,hc,hd,_⟩:=hfl.first
 have anew:s1.heap.get? a=none:=by
  cases q:s1.heap.get? a with
  | none=>rfl
  | some o =>
   exfalso
   by_cases hb:a∈frs X.stack
   ·obtain ⟨_,o',e',d⟩:=hfl.2.2.1.mem (show a∈X.stack.filterMap (·.frame) from hb)
    rw [he] at e';cases e'
    exact d vs hd
   ·obtain ⟨o2,e2⟩:=un.there a o q (by simp)
    have:=hB a o2 e2 (.inl ⟨o,q⟩) hb
    rw [hfl.2.1] at this;cases this
 have aH1:H1 a=none:=by
  cases z:H1 a with
  | none=>rfl
  | some u=>obtain ⟨o,eo⟩:=(I.hok a u z).there;rw [anew] at eo;cases eo
 refine ⟨I.call' (ch:=[]) (s':={ s2 with heap:=h' }) fl.os un' hok' fl.bare (fun b z=>nomatch z),I.call' (ch:=[]) (s':={ s2 with heap:=h' }) fl.os ?_ ?_ fl.bare (fun b z=>nomatch z)⟩
 ·have na:∀ b o,s1.heap.get? b=some o->b≠a:=fun b o e z=>by rw [z,anew] at e;cases e
  refine ⟨un'.keep,un'.slot,fun b o e n hx=>by rw [upd_ne (na b o e)];exact un'.free b o e n hx,un'.there,fun b xs e=>?_,fun b o u e=>?_,fun b ps e=>?_⟩
  ·rw [upd_ne (ne_of_none e aH1)];exact un.tups b xs e
  ·rw [upd_ne (ne_of_none e aH1)];exact un.frzs b o u e
  ·rw [upd_ne (ne_of_none e aH1)];exact un.tbls b ps e
 ·intro b u e
  by_cases hb:b=a
  ·subst hb
   rw [upd_same] at e;cases e
   refine ⟨⟨oe,vs,he,hc,hd⟩,⟨oe,he⟩,fun g1 g2 ⟨o,vs',q1,q2,q3⟩ k=>⟨o,vs',k o q1,q2,q3⟩⟩
  ·rw [upd_ne hb] at e
   refine (hok' b u e).stay (fun c v _ q=>q) (fun c q=>by rw [upd_ne (ne_of_none q fl.an)];exact q) fun c xs q=>by rw [upd_ne (ne_of_none q fl.an)];exact q
end
section
variable {X:Cx} {e:Expr} {tx:TX} {ts:TS} {x n:Str} {c:Value} {i:Nat} {b₀:Stmt} {suite:List Stmt} {pos pos' np hpos:Pos}
end
section
variable {prog:Program} {w:World} {A:Around} {E:Value->Shared->Prop} {h:Heap} {g:Array GenState} {d:Drawn} {t:Nat} {os:OsState} {K:PySem.W.Frag} {a C:Addr} {o:Obj} {vs:Array Value}
theorem owner_class:(".".intercalate ("object.__class__".cutAt '.').dropLast)="object" := by decide +kernel
theorem exc_class_get {R:Result->Shared->Prop} (X:K.In h) (hx:h.get? a=some o) (hc:o.cls=.ref C) (m1:PySem.W.mroIn K C (.type "object")=some true) (hq:R (.ok (.ret (.ref C))) ⟨h,g,d,t,os⟩) :
  codeAny (model prog w) A (.call (.builtin "getset_descriptor.__get__") ⟨[.builtin "object.__class__",.ref a,.ref C],[]⟩) R ⟨h,g,d,t,os⟩:=by
 have hT5:(⟨h,g,d,t,os⟩:Shared).TypeIs (.builtin "object.__class__") "getset_descriptor" := F.typeOf_object_class
 have L1:=PySem.W.looks_mroIn (M:=model prog w) X m1
 rw [<- owner_class] at L1
 refine codeAny_call_builtin F.slot_gs_get.plain F.entry_gs_get (F.slot_gs_get.check _ _ _ _ _ _ _ _ hT5 (F.args_gs_get _ _ _) ?_)
 repeat (any_goals (first | assumption | (with_reducible refine wpAny_loadPart_at hx ?_;rw [hc]) | with_reducible refine L1.at ?_ | wp_step))
 refine ⟨Code.quiet_builtin _ (by decide +kernel),codeAny_builtin F.entry_object_class ?_⟩
 repeat (any_goals (first | assumption | (with_reducible refine wpAny_loadPart_at hx ?_;rw [hc]) | wp_step))
theorem exc_class_entry {tk:Tok} {Q:PySem.Fin->Shared->Prop} (X:K.In h) (hx:h.get? a=some o) (hc:o.cls=.ref C) (m1:PySem.W.mroIn K C (.type "object")=some true) (g3:PySem.W.findIn K (.ref C) "__class__" = some (some (.builtin "object.__class__")))
  (hq:Q (.done (.ret (.ref C))) ⟨h,g,d,t,os⟩):wpAny (model prog w) A (Builtin.«object.__getattribute__» ⟨[.ref a,.str "__class__" tk],[]⟩) Q E ⟨h,g,d,t,os⟩:=by
 have hT5:(⟨h,g,d,t,os⟩:Shared).TypeIs (.builtin "object.__class__") "getset_descriptor" := F.typeOf_object_class
 have L3:=PySem.W.looks_findIn (M:=model prog w) X g3
 have f5:=F.typeOf_object_class
 have f6:=F.slot_gs_get.lookup
 have f7:=F.slot_gs_set.lookup
 repeat (any_goals (first | assumption | (with_reducible refine wpAny_loadPart_at hx ?_;rw [hc]) | with_reducible refine L3.at ?_ | wp_step))
 refine exc_class_get X hx hc m1 ?_
 repeat (any_goals (first | assumption | wp_step))
theorem exc_check {M:Model} {nameV:Value} {Q:Unit->Shared->Prop} (X:K.In h) (hx:h.get? a=some o) (hc:o.cls=.ref C) (m2:PySem.W.mroIn K C (.type "BaseException")=some true) (hq:Q () ⟨h,g,d,t,os⟩) :
  wpAny M A (checkBuiltinCall "BaseException.__getattribute__" ⟨[.ref a,nameV],[]⟩) Q E ⟨h,g,d,t,os⟩:=by
 have hk:builtinKind "BaseException.__getattribute__" = some .slot:=by decide +kernel
 have hsplit:splitId "BaseException.__getattribute__" = some ("BaseException","__getattribute__"):=by decide +kernel
 have L2:=PySem.W.looks_mroIn (M:=M) X m2
 have ha:=F.args_bexc_ga (.ref a) nameV
 simp only [checkBuiltinCall,hk,hsplit]
 refine wpAny_bind ?_
 ·unfold isInstance
  repeat (first | (with_reducible refine wpAny_loadPart_at hx ?_;rw [hc]) | with_reducible refine L2.at ?_ | wp_step)
  exact hq
theorem exc_class_call {tk:Tok} {R:Result->Shared->Prop} (X:K.In h) (hx:h.get? a=some o) (hc:o.cls=.ref C) (m1:PySem.W.mroIn K C (.type "object")=some true) (m2:PySem.W.mroIn K C (.type "BaseException")=some true)
  (g3:W.findIn K (.ref C) "__class__" = some (some (.builtin "object.__class__"))) (hq:R (.ok (.ret (.ref C))) ⟨h,g,d,t,os⟩) :
  codeAny (model prog w) A (.call (.builtin "BaseException.__getattribute__") ⟨[.ref a,.str "__class__" tk],[]⟩) R ⟨h,g,d,t,os⟩ :=
 codeAny_call_builtin F.attr_ValueError.ga.plain F.entry_bexc_ga (exc_check X hx hc m2 (exc_class_entry X hx hc m1 g3 hq))
theorem exc_class_by {tk:Tok} {Q:Value->Shared->Prop} (X:K.In h) (hx:h.get? a=some o) (hc:o.cls=.ref C) (m1:PySem.W.mroIn K C (.type "object")=some true) (m2:PySem.W.mroIn K C (.type "BaseException")=some true)
  (g1:W.findIn K (.ref C) "__getattribute__" = some (some (.builtin "BaseException.__getattribute__"))) (g2:W.findIn K (.ref C) "__getattr__" = some none) (g3:W.findIn K (.ref C) "__class__" = some (some (.builtin "object.__class__")))
  (hq:Q (.ref C) ⟨h,g,d,t,os⟩):wpAny (model prog w) A (getAttrBy (.ref a) (.str "__class__" tk) false) Q E ⟨h,g,d,t,os⟩:=by
 have f3:=F.attr_ValueError.ga.bind (.ref a)
 have L1:=PySem.W.looks_findIn (M:=model prog w) X g1
 have L2:=PySem.W.looks_findIn (M:=model prog w) X g2
 have hx2:(Value.builtin "BaseException.__getattribute__" == Value.builtin "object.__getattribute__")=false:=by decide +kernel
 have hx1:(onTheHeap (Value.ref C) && Value.builtin "BaseException.__getattribute__" == Value.builtin "object.__getattribute__")=false:=by rw [hx2];rfl
 repeat (any_goals (first | assumption | (with_reducible refine wpAny_loadPart_at hx ?_;rw [hc]) | with_reducible refine L1.at ?_ | with_reducible refine L2.at ?_ | wp_step))
 refine exc_class_call X hx hc m1 m2 g3 ?_
 repeat (any_goals (first | assumption | wp_step))
end
structure ExcCl (K:PySem.W.Frag) (C:Addr):Prop where
 cl:(PySem.W.clsIn K C).isSome=true
 m1:PySem.W.mroIn K C (.type "object")=some true
 m2:PySem.W.mroIn K C (.type "BaseException")=some true
 g1:PySem.W.findIn K (.ref C) "__getattribute__" = some (some (.builtin "BaseException.__getattribute__"))
 g2:PySem.W.findIn K (.ref C) "__getattr__" = some none
 g3:PySem.W.findIn K (.ref C) "__class__" = some (some (.builtin "object.__class__"))
theorem kitx_exc {K:PySem.W.Frag} {a C:Addr} (x:ExcCl K C):PySem.W.KitX K (.ref a) (.ref C) (fun h=>∃ o vs,h.get? a=some o/\o.cls=.ref C/\o.data=.fields vs) where
 ty:=fun M h _ ⟨o,vs,ho,hc,_⟩=>by
  have L:=(PySem.W.Looks.ld (M:=M) (part:=none) ho)
  have e:PySem.W.Looks M h (typeOf (.ref a)) o.cls:=(PySem.W.Looks.ld ho).andThen .now
  rw [hc] at e
  exact e
 it:=fun _ _ X _=>by
  obtain ⟨cdD,hcD⟩:=Option.isSome_iff_exists.mp x.cl
  unfold PySem.W.clsIn at hcD
  split at hcD
  ·rename_i c' d' cd' sl' ho
   intro A' Q' E' s' k q
   unfold isType loadHead
   exact wpAny_bind (wpAny_loadPart (k _ _ (X _ _ ho)) (wpAny_pure q))
  ·cases hcD
 ne:=fun h tp dd its n sl X htp=>by
  obtain ⟨cdD,hcD⟩:=Option.isSome_iff_exists.mp x.cl
  refine Bool.eq_false_iff.mpr fun q=>?_
  have e:C=tp:=Value.ref.inj (beq_iff_eq.mp q)
  subst e
  unfold PySem.W.clsIn at hcD
  split at hcD
  ·rename_i c' d' cd' sl' ho
   have z:=(X _ _ ho).symm.trans htp
   cases z
  ·cases hcD
 ca:=fun {prog w A E Q s} X ⟨o,vs,ho,hc,hd⟩ k=>by
  obtain ⟨h,g,d,t,os⟩:=s
  unfold getAttr? getAttrBy?
  refine wpAny_bind (wpAny_mkText (wpAny_bind (wpAny_attempt ?_)))
  exact exc_class_by X ho hc x.m1 x.m2 x.g1 x.g2 x.g3 (wpAny_pure k)
section
variable {X:Cx}
end
def addS (σ:List Str) (z:Str):List Str:=if z∈σ then σ else z::σ
def dist (zs:List Str):List Str:=zs.foldl addS []
theorem mem_addS {σ:List Str} {z k:Str}:k∈addS σ z ↔ k∈σ\/k=z:=by
 unfold addS
 split
 ·exact ⟨.inl,fun h=>h.elim id fun e=>by rw [e];assumption⟩
 ·rw [List.mem_cons];exact or_comm
theorem len_addS (σ:List Str) (z:Str):(addS σ z).length=if z∈σ then σ.length else σ.length+1:=by
 unfold addS;split<;>simp
theorem dist_snoc (zs:List Str) (z:Str):dist (zs++[z])=addS (dist zs) z:=by simp [dist,List.foldl_append]
theorem fold_le:∀ (zs σ:List Str),(zs.foldl addS σ).length<=σ.length+zs.length
 | [],σ=>by simp
 | z::zs,σ=>by
  have h:=fold_le zs (addS σ z)
  rw [len_addS] at h
  simp only [List.foldl_cons,List.length_cons]
  split at h<;>omega
theorem dist_le (zs:List Str):(dist zs).length<=zs.length:=by
 have h:=fold_le zs []
 rw [List.length_nil,Nat.zero_add] at h
 exact h
theorem fold_nd:∀ (zs σ:List Str),zs.Nodup->(∀ z∈zs,z ∉ σ)->(zs.foldl addS σ).length=σ.length+zs.length
 | [],σ,_,_=>by simp
 | z::zs,σ,nd,h=>by
  rw [List.nodup_cons] at nd
  simp only [List.foldl_cons,List.length_cons]
  rw [fold_nd zs (addS σ z) nd.2 fun y hy q=>?_,len_addS,if_neg (h z List.mem_cons_self)]
  ·omega
  ·rcases mem_addS.mp q with q | q
   ·exact h y (List.mem_cons_of_mem _ hy) q
   ·exact nd.1 (q ▸ hy)
theorem dist_nd {zs:List Str} (nd:zs.Nodup):(dist zs).length=zs.length:=by
 have h:=fold_nd zs [] nd fun _ _ h=>nomatch h
 rw [List.length_nil,Nat.zero_add] at h
 exact h
theorem strs_at:∀ {its:List Value} {zs:List Str} {i:Nat} {v:Value},StrsAre its zs->its[i]?=some v->∃ z t,zs[i]?=some z/\v=.str z t:=by
 intro its zs i v h
 induction h generalizing i with
 | nil=>intro e;simp at e
 | cons z t _ ih =>
  intro e
  cases i with
  | zero=>simp at e;exact ⟨z,t,rfl,e.symm⟩
  | succ i=>exact ih (by simpa using e)
theorem strs_len:∀ {its:List Value} {zs:List Str},StrsAre its zs->its.length=zs.length:=by
 intro its zs h
 induction h with
 | nil=>rfl
 | cons z t _ ih=>simp [ih]
theorem of_strs:∀ {its:List Value} {zs:List Str},StrsAre its zs->Vals (zs.map V.str) its:=by
 intro its zs h
 induction h with
 | nil=>exact .nil
 | cons z t _ ih=>exact .cons ⟨t,rfl⟩ ih
section
variable {prog:Program} {w:World} {A:Around} {I S:Addr} {fp wr:List Addr} {G:Array GenState->Array GenState->Prop} {P:Nat->Value->Prop} {St:Nat->Shared->Prop} {zs:List Str} {R:Result->Shared->Prop}
abbrev TxtSet (prog:Program) (w:World) (h:Heap) (S:Addr) (zs:List Str):Prop:=h.SetOf (strKind prog w) S (fun k=>decide (k∈dist zs)) (dist zs).length
theorem TxtSet.keep {h h':Heap} (x:TxtSet prog w h S zs) (k:∀ o,h.get? S=some o->h'.get? S=some o):TxtSet prog w h' S zs:=by
 obtain ⟨o,es,ep,t,ho,r⟩:=x
 exact ⟨o,es,ep,t,k o ho,r⟩
theorem TxtSet.more {h:Heap} {z:Str} (x:h.SetOf (strKind prog w) S (fun k=>decide (k∈dist zs) || decide (k=z)) (if decide (z∈dist zs)=true then (dist zs).length else (dist zs).length+1)):TxtSet prog w h S (zs++[z]):=by
 have e1:(fun k=>decide (k∈dist (zs++[z])))=fun k=>decide (k∈dist zs) || decide (k=z):=by
  funext k;rw [dist_snoc,Bool.eq_iff_iff];simp [mem_addS]
 have e2:(dist (zs++[z])).length=if decide (z∈dist zs)=true then (dist zs).length else (dist zs).length+1:=by
  rw [dist_snoc,len_addS];simp
 unfold TxtSet
 rw [e1,e2];exact x
theorem texts_in (W:WalksS prog w A.in1 I fp wr G zs.length P St) (off:S ∉ fp) (hz:∀ i v,P i v->∃ z t,zs[i]?=some z/\v=.str z t) (small:zs.length+1 < scanBound) :
  ∀ (left i:Nat) (s:Shared),i+left=zs.length->St i s->TxtSet prog w s.heap S (zs.take i) ->
   (∀ s',Moved (S::wr) G s s'->TxtSet prog w s'.heap S zs->R (.ok (.ret .none)) s')->codeAny (model prog w) A (.builtin "set.update.loop" ⟨[.ref S,.ref I],[]⟩) R s
 | 0,i,s,hi,st,x,k=>by
  have e:zs.take i=zs:=List.take_of_length_le (by omega)
  rw [show i=zs.length by omega] at st
  refine codeAny_builtin F.entry_set_update_loop ?_
  rw [Around.under_plainId F.plain_set_update_loop _]
  apply wpAny_bind
  refine W.done s _ _ st fun s' m=>?_
  exact wpAny_pure (k s' (m.mono fun b hb=>List.mem_cons_of_mem _ hb) (by rw [e] at x;exact x.keep fun o ho=>m.heap S o (fun hs=>off (W.sub _ hs)) ho))
 | left+1,i,s,hi,st,x,k=>by
  refine codeAny_builtin F.entry_set_update_loop ?_
  rw [Around.under_plainId F.plain_set_update_loop _]
  apply wpAny_bind
  refine W.item i s _ _ (by omega) st fun v s1 p st1 m=>?_
  obtain ⟨z,t,ez,rfl⟩:=hz i v p
  have x1:=x.keep fun o ho=>m.heap S o (fun hs=>off (W.sub _ hs)) ho
  have et:zs.take (i+1)=zs.take i++[z]:=by rw [List.take_add_one,ez];rfl
  have yes:(strKind prog w).is z (.str z t)=true:=by show Value.isStrOf z (.str z t)=true;simp [Value.isStrOf]
  show wpAny _ A.in1 (holding [Value.str z t] (setAdd S (.str z t)) >>= _) _ _ s1
  apply wpAny_bind;apply wpAny_holding
  show wpAny _ A.in1 (holding _ _) _ _ _
  apply wpAny_holding;apply wpAny_bind
  refine (strKind prog w).pyHash yes ?_
  have few:=dist_le (zs.take i)
  rw [List.length_take] at few
  refine wpAny_setAddHashed_of (knd:=strKind prog w) (s:={ s1 with toks:=s1.toks+1 }) yes rfl x1 (by omega) fun h2 sb x2=>?_
  refine wpAny_pure ⟨plainId_quiet F.plain_set_update_loop _,texts_in W off hz small left (i+1) _ (by omega) ?_ (by rw [et];exact TxtSet.more x2) fun s3 m3 x3=>?_⟩
  ·exact W.frame _ s1 _ _ st1 (Nat.le_succ _) fun b hb o e=>(sb.2 b fun z'=>off (z' ▸ hb)).trans e
  ·refine k s3 (Moved.trans W.gtrans ((m.mono fun b hb=>List.mem_cons_of_mem _ hb).then_heap (Nat.le_succ _) fun b o hb e=>?_) m3) x3
   exact (sb.2 b fun z'=>hb (by rw [z'];exact List.mem_cons_self)).trans e
end
section
variable {prog:Program} {w:World} {A:Around} {E:Value->Shared->Prop} {s:Shared}
theorem made_by {T newId initId:String} {args:List Value} {Q:Value->Shared->Prop} (ft:TypeCalled T newId initId) (hc:checkTypeCall T ⟨args,[]⟩=pure ())
  (h:codeAny (model prog w) A.in1 (.call (.builtin newId) ⟨.type T::args,[]⟩) (wants (fun x t=>t.TypeIs x T/\codeAny (model prog w) A.in1 (.call (.builtin initId) ⟨x::args,[]⟩) (wants (fun r t'=>r=.none/\Q x t') E) t) E) s) :
  wpAny (model prog w) A (call (.type T) args) Q E s:=by
 have q1:=ft.made
 have q2:=ft.sub
 have q3:=ft.notType
 have q4:=ft.canCreate
 have q5:=ft.init.lookup
 obtain ⟨_,_,q6⟩:=ft.mro
 apply wpAny_call;apply codeAny_of_tree
 show wpAny _ _ (callAny (.type T) _) _ _ _
 apply wpAny_pure
 refine ⟨Code.quiet_builtin _ (by decide +kernel),codeAny_builtin PySem.F.entry_type_call ?_⟩
 rw [Around.under_plain (weight_type_call_type T args []) rfl]
 repeat (any_goals (first | wp_step | assumption))
 apply codeAny_mono h
 rintro (e | f) t k
 ·exact k
 cases f<;>first | exact k.elim | skip
 rename_i x
 have q7:=ft.init.bind x
 obtain ⟨ty,k⟩:=k
 repeat (any_goals (first | wp_step | assumption))
 apply codeAny_mono k
 rintro (e | f) t' k'
 ·exact k'
 cases f<;>first | exact k'.elim | skip
 obtain ⟨z,k'⟩:=k'
 cases z
 repeat (any_goals (first | wp_step | assumption))
theorem set_texts {l:Addr} {its:List Value} {zs:List Str} {Q:Value->Shared->Prop} (hh:A.handled=none) (hl:s.heap.IsList l its.toArray) (hz:StrsAre its zs) (small:zs.length+1 < scanBound)
  (h:∀ (h':Heap) (tk:Nat),TxtSet prog w h' s.heap.objs.size zs->(∀ b o,s.heap.get? b=some o->h'.get? b=some o)->Q (.ref s.heap.objs.size) { s with heap:=h',toks:=tk }) :
  wpAny (model prog w) A (call (.type "set") [.ref l]) Q E s:=by
 refine made_by PySem.F.called_set (PySem.F.typeCall_set_1 _) (code_set_new_1 (.ref l) fun led=>?_)
 generalize hh1:s.heap.push { cls:=.type "set",dict:=none,data:=.set #[] 0 (.fresh 0 0 led) }=h1
 have kp:∀ b o,s.heap.get? b=some o->h1.get? b=some o:=fun b o e=>by rw [<- hh1];exact Heap.get?_push_of_some _ e
 have sz:h1.objs.size=s.heap.objs.size+1:=by rw [<- hh1];exact Heap.size_push ..
 have new:h1.get? s.heap.objs.size=some { cls:=.type "set",dict:=none,data:=.set #[] 0 (.fresh 0 0 led) }:=by rw [<- hh1];exact Heap.get?_push_size _ rfl
 have ty:({ s with heap:=h1 }:Shared).TypeIs (.ref s.heap.objs.size) "set" := ⟨_,new,rfl⟩
 refine ⟨ty,codeAny_call_builtin PySem.F.called_set.init.plain PySem.F.entry_set_init (check_set_init_1 ty ?_)⟩
 have el:its.length=zs.length:=strs_len hz
 obtain ⟨⟨c,d,dt,sl⟩,ho,rfl,n,rfl⟩:=hl
 have ho1:=kp _ _ ho
 have lt:@LT.lt Nat _ l s.heap.objs.size:=Heap.lt_size ho
 have il:h1.IsList l its.toArray:=⟨_,ho1,rfl,n,rfl⟩
 have n1:=PySem.F.sub_list_set
 have n2:=PySem.F.sub_list_frozenset
 have n3:(Value.type "list" == Value.type "dict")=false:=by decide
 unfold Builtin.«set.__init__» noKeywords Builtin.Frozenset.updateFrom
 generalize pi:pyIter=it
 wp_walk
 subst pi
 apply wpAny_pyIter_list il
 apply wpAny_bind;apply wpAny_runValue
 have W:=(Walks.list (prog:=prog) (w:=w) (A:=A.in1.in1.in1) (by simpa using hh) h1.objs.size l (by rw [sz];exact Nat.ne_of_lt (Nat.lt_succ_of_lt lt)) its.toArray).toS
 have e0:its.toArray.size=zs.length:=by rw [List.size_toArray];exact el
 rw [e0] at W
 refine texts_in (zs:=zs) W ?_ (fun i v p=>?_) small zs.length 0 _ (Nat.zero_add _) ⟨⟨_,Heap.get?_push_size _ rfl,rfl,rfl⟩,il.push _⟩ ?_ fun t m x=>?_
 ·rw [sz]
  intro q
  rcases List.mem_cons.mp q with q | q
  ·exact absurd q (Nat.ne_of_lt (Nat.lt_succ_self _))
  ·exact absurd (List.mem_singleton.mp q) (Nat.ne_of_gt lt)
 ·have p':its[i]?=some v:=by simpa using p
  exact strs_at hz p'
 ·exact (setObjOf_fresh (knd:=strKind prog w) led).setOf (Heap.get?_push_of_some _ new) (by decide)
 ·obtain ⟨h2,g2,d2,t2,o2⟩:=t
  cases (show g2=s.gens from m.gens)
  cases (show d2=s.drawn from m.drawn)
  cases (show o2=s.os from m.os)
  apply wpAny_pure
  refine wpAny_pure ⟨rfl,h h2 t2 x fun b o e=>m.heap b o ?_ (Heap.get?_push_of_some _ (kp b o e))⟩
  have lb:@LT.lt Nat _ b s.heap.objs.size:=Heap.lt_size e
  rw [sz]
  intro q
  rcases List.mem_cons.mp q with q | q
  ·exact absurd q (Nat.ne_of_lt lb)
  ·exact absurd (List.mem_singleton.mp q) (Nat.ne_of_lt (Nat.lt_succ_of_lt lb))
end
def leS (a b:Str):Bool:=decide (a.cps.toList<=b.cps.toList)
theorem leS_iff {a b:Str}:leS a b=true ↔ a.cps.toList<=b.cps.toList:=by simp [leS]
theorem leS_trans {a b c:Str} (h:leS a b=true) (k:leS b c=true):leS a c=true:=leS_iff.mpr (List.le_trans (leS_iff.mp h) (leS_iff.mp k))
theorem leS_anti {a b:Str} (h:leS a b=true) (k:leS b a=true):a=b:=by
 have e:=List.le_antisymm (leS_iff.mp h) (leS_iff.mp k)
 cases a;cases b
 simp only [Str.mk.injEq]
 exact Array.toList_inj.mp e
theorem leS_total (a b:Str):(leS a b || leS b a)=true:=by
 rcases List.le_total a.cps.toList b.cps.toList with h | h
 ·simp [leS_iff.mpr h]
 ·simp [leS_iff.mpr h]
def srt (zs:List Str):List Str:=zs.mergeSort leS
theorem srt_perm (zs:List Str):(srt zs).Perm zs:=List.mergeSort_perm _ _
theorem srt_pw (zs:List Str):(srt zs).Pairwise fun a b=>leS a b=true:=List.pairwise_mergeSort (le:=leS) (fun _ _ _ h k=>leS_trans h k) leS_total zs
theorem rising_pw:∀ (l:List Str) (p:Str),risingS p l=true->(p::l).Pairwise fun a b=>leS a b=true
 | [],p,_=>by simp
 | x::r,p,h=>by
  have h':(!ltCps x.cps.toList p.cps.toList && risingS x r)=true:=h
  rw [Bool.and_eq_true] at h'
  have ih:=rising_pw r x h'.2
  have px:leS p x=true:=by
   have:=h'.1
   rw [ltCps_eq] at this
   refine leS_iff.mpr ?_
   intro q
   rw [decide_eq_true q] at this
   cases this
  refine List.pairwise_cons.mpr ⟨fun y hy=>?_,ih⟩
  rcases List.mem_cons.mp hy with rfl | hy
  ·exact px
  ·exact leS_trans px ((List.pairwise_cons.mp ih).1 y hy)
theorem sorted_pw:∀ (l:List Str),sortedS l=true->l.Pairwise fun a b=>leS a b=true
 | [],_=>.nil
 | x::r,h=>rising_pw r x h
theorem pw_uniq:∀ {l m:List Str},l.Perm m->(l.Pairwise fun a b=>leS a b=true)->(m.Pairwise fun a b=>leS a b=true)->l=m
 | [],m,p,_,_=>(List.nil_perm.mp p).symm
 | x::l,[],p,_,_=>absurd p (by simp)
 | x::l,y::m,p,a,b=>by
  have a':=List.pairwise_cons.mp a
  have b':=List.pairwise_cons.mp b
  have e:x=y:=by
   rcases List.mem_cons.mp (p.mem_iff.mp List.mem_cons_self) with q | q
   ·exact q
   rcases List.mem_cons.mp (p.mem_iff.mpr List.mem_cons_self) with q' | q'
   ·exact q'.symm
   ·exact leS_anti (a'.1 y q') (b'.1 x q)
  subst e
  rw [pw_uniq ((List.perm_cons _).mp p) a'.2 b'.2]
theorem srt_of {zs ss:List Str} (p:ss.Perm zs) (h:ss.Pairwise fun a b=>leS a b=true):ss=srt zs:=pw_uniq (p.trans (srt_perm zs).symm) h (srt_pw zs)
theorem srt_len (zs:List Str):(srt zs).length=zs.length:=(srt_perm zs).length_eq
section
variable {X:Cx}
theorem call_sorted_txt:CallR X (.builtin "sorted") (fun xs H Q=>∃ (p:Addr) (zs:List Str),xs=[.ref p]/\SqL X.K H p (zs.map V.str)/\zs.length < 64/\∀ l,H l=none->Q (.ref l) (upd H l (.lst ((srt zs).map V.str)))):=by
 intro pins s σ H xs us Q I r h
 obtain ⟨p,zs,rfl,hq,few,q⟩:=h
 obtain ⟨u,rfl,rx⟩:=vals1 r
 cases rx
 obtain ⟨its,rv,pl,hz⟩:=I.list hq
 have el:=strs_len (strs_of rv)
 refine sorted_strs pl.isList (strs_of rv) (by omega) fun out ss a1 a2 a3=>?_
 have e:=srt_of a2 (sorted_pw ss a3)
 subst e
 obtain ⟨n,hn⟩:=sortedAll_at s.heap its out
 have lb:((srt zs).map V.str).length<=sizeLine:=by
  rw [List.length_map,srt_len]
  exact Nat.le_trans (Nat.le_of_lt few) (by decide)
 refine ⟨.ref (s.heap.objs.size+1),_,I.laid (t':=s.toks) (o:=.lst ((srt zs).map V.str)) (fun b o e=>sortedAll_old e) (Nat.le_succ _) ?_,rfl,q _ (I.hok.fresh (Nat.le_succ _))⟩
 exact ⟨lb,out.toList,n,of_strs a1,by rw [hn]⟩
end
def Al (K:PySem.W.Frag) (H:Hp):Nat->V->V->Prop
 | 0,x,y=>flatV x=true/\x=y
 | n+1,x,y=>(flatV x=true/\x=y)\/∃ p q xs ys,x=.ref p/\y=.ref q/\((SqL K H p xs/\SqL K H q ys)\/(SqT K H p xs/\SqT K H q ys))/\xs.length=ys.length/\∀ (i:Nat) a b,xs[i]?=some a->ys[i]?=some b->Al K H n a b
def AlS (K:PySem.W.Frag) (H:Hp) (n:Nat) (x y:V):Prop :=
 ∃ p q xs ys,x=.ref p/\y=.ref q/\((SqL K H p xs/\SqL K H q ys)\/(SqT K H p xs/\SqT K H q ys))/\xs.length=ys.length/\∀ (i:Nat) a b,xs[i]?=some a->ys[i]?=some b->Al K H n a b
theorem eqV_self {x:V} (h:flatV x=true):eqV x x=true:=by
 cases x<;>first | (exact absurd h Bool.false_ne_true) | simp [eqV]
theorem all_range (n:Nat):(List.range n).all (fun _=>true)=true:=by simp
section
variable {X:Cx} {pins:List (Addr × Obj)} {σ:St} {H:Hp} {s:Shared}
theorem al_at (I:Inv X pins σ H s):∀ (n:Nat) (x y:V) (u v:Value) (A:Around),Al X.K H n x y->RelV x u->RelV y v->A.units+n < cLine->SeqAt.EqAt A s u v true:=by
 intro n
 induction n with
 | zero =>
  rintro x y u v A ⟨f,rfl⟩ ru rv _
  have h:=eqAt_V (A:=A) (s:=s) ru rv f f
  rw [eqV_self f] at h
  exact h
 | succ n ih =>
  rintro x y u v A h ru rv hu
  rcases h with ⟨f,rfl⟩ | ⟨p,q,xs,ys,rfl,rfl,h,el,k⟩
  ·have h:=eqAt_V (A:=A) (s:=s) ru rv f f
   rw [eqV_self f] at h
   exact h
  ·cases ru
   cases rv
   by_cases hpq:p=q
   ·subst hpq;exact SeqAt.EqAt.same _
   refine SeqAt.EqAt.of_refs hpq ?_
   have low:A.in1.units+n < cLine:=by rw [units_in1];omega
   have item:∀ {is js:List Value},Vals xs is->Vals ys js->∀ j (h1:j < is.toArray.size) (h2:j < js.toArray.size),SeqAt.EqAt A.in1 s is.toArray[j] js.toArray[j] true:=fun {is js} ri rj j h1 h2=>by
    have b1:j < xs.length:=by rw [ri.length];simpa using h1
    have b2:j < ys.length:=by rw [rj.length];simpa using h2
    obtain ⟨u',e1,r1⟩:=ri.get (List.getElem?_eq_getElem b1)
    obtain ⟨v',e2,r2⟩:=rj.get (List.getElem?_eq_getElem b2)
    have c1:is.toArray[j]=u':=by
     rw [List.getElem_toArray]
     have:=List.getElem?_eq_getElem (l:=is) (i:=j) (by simpa using h1)
     rw [this] at e1;exact Option.some.inj e1
    have c2:js.toArray[j]=v':=by
     rw [List.getElem_toArray]
     have:=List.getElem?_eq_getElem (l:=js) (i:=j) (by simpa using h2)
     rw [this] at e2;exact Option.some.inj e2
    rw [c1,c2]
    exact ih _ _ _ _ _ (k j _ _ (List.getElem?_eq_getElem b1) (List.getElem?_eq_getElem b2)) r1 r2 low
   rcases h with ⟨hp,hq⟩ | ⟨hp,hq⟩
   ·obtain ⟨is,ri,pi,_⟩:=I.list hp
    obtain ⟨js,rj,pj,_⟩:=I.list hq
    have z:=SeqAt.RcAt.lists (A:=A) (e:=fun _=>true) pi.isList pj.isList (by simp only [List.size_toArray];rw [<- ri.length,<- rj.length];exact el) (by omega) (item ri rj)
    rw [all_range] at z
    exact z
   ·obtain ⟨is,ri,pi,_⟩:=I.tuple hp
    obtain ⟨js,rj,pj,_⟩:=I.tuple hq
    have z:=SeqAt.RcAt.tuples (A:=A) (e:=fun _=>true) pi pj (by omega) (item ri rj)
    have e:(is.toArray.size == js.toArray.size)=true:=by simp only [List.size_toArray,beq_iff_eq];rw [<- ri.length,<- rj.length];exact el
    rw [all_range,e] at z
    exact z
theorem als_items (I:Inv X pins σ H s) {n:Nat} {xs ys:List V} {A:Around} (low:A.in1.units+n < cLine) (k:∀ (i:Nat) a b,xs[i]?=some a->ys[i]?=some b->Al X.K H n a b) {is js:List Value} (ri:Vals xs is) (rj:Vals ys js) :
  ∀ j (h1:j < is.toArray.size) (h2:j < js.toArray.size),SeqAt.EqAt A.in1 s is.toArray[j] js.toArray[j] true:=fun j h1 h2=>by
 have b1:j < xs.length:=by rw [ri.length];simpa using h1
 have b2:j < ys.length:=by rw [rj.length];simpa using h2
 obtain ⟨u',e1,r1⟩:=ri.get (List.getElem?_eq_getElem b1)
 obtain ⟨v',e2,r2⟩:=rj.get (List.getElem?_eq_getElem b2)
 have c1:is.toArray[j]=u':=by
  rw [List.getElem_toArray]
  have:=List.getElem?_eq_getElem (l:=is) (i:=j) (by simpa using h1)
  rw [this] at e1;exact Option.some.inj e1
 have c2:js.toArray[j]=v':=by
  rw [List.getElem_toArray]
  have:=List.getElem?_eq_getElem (l:=js) (i:=j) (by simpa using h2)
  rw [this] at e2;exact Option.some.inj e2
 rw [c1,c2]
 exact al_at I n _ _ _ _ _ (k j _ _ (List.getElem?_eq_getElem b1) (List.getElem?_eq_getElem b2)) r1 r2 low
end
section
variable {X:Cx}
theorem op_eq_al (n:Nat) (hu:X.A.units+n+1 < cLine):OpR X (compareOp .Eq) (fun x y H Q=>AlS X.K H n x y/\Q (.bl true) H):=by
 intro pins s σ H x y v u Q I rx ry h
 obtain ⟨⟨p,q,xs,ys,rfl,rfl,h,el,k⟩,fin⟩:=h
 cases rx
 cases ry
 have low:X.A.in1.units+n < cLine:=by rw [units_in1];omega
 rcases h with ⟨hp,hq⟩ | ⟨hp,hq⟩
 ·obtain ⟨is,ri,pi,_⟩:=I.list hp
  obtain ⟨js,rj,pj,_⟩:=I.list hq
  refine SeqAt.eq_listAt (e:=fun _=>true) pi.isList pj.isList (by simp only [List.size_toArray];rw [<- ri.length,<- rj.length];exact el) (by omega) (als_items I low k ri rj) ?_
  exact fin_bl I fin (all_range _).symm
 ·obtain ⟨is,ri,pi,_⟩:=I.tuple hp
  obtain ⟨js,rj,pj,_⟩:=I.tuple hq
  refine SeqAt.eq_tupleAt (e:=fun _=>true) pi pj (by omega) (als_items I low k ri rj) ?_
  have e:(is.toArray.size == js.toArray.size)=true:=by simp only [List.size_toArray,beq_iff_eq];rw [<- ri.length,<- rj.length];exact el
  refine fin_bl I fin ?_
  rw [all_range,e];rfl
theorem op_ne_al (n:Nat) (hu:X.A.units+n+1 < cLine):OpR X (compareOp .NotEq) (fun x y H Q=>AlS X.K H n x y/\Q (.bl false) H):=by
 intro pins s σ H x y v u Q I rx ry h
 obtain ⟨⟨p,q,xs,ys,rfl,rfl,h,el,k⟩,fin⟩:=h
 cases rx
 cases ry
 have low:X.A.in1.units+n < cLine:=by rw [units_in1];omega
 rcases h with ⟨hp,hq⟩ | ⟨hp,hq⟩
 ·obtain ⟨is,ri,pi,_⟩:=I.list hp
  obtain ⟨js,rj,pj,_⟩:=I.list hq
  refine PySem.EqBoolInt.of_rcne (SeqAt.RcNeAt.lists (e:=fun _=>true) pi.isList pj.isList (by simp only [List.size_toArray];rw [<- ri.length,<- rj.length];exact el) (by omega) (als_items I low k ri rj)) ?_
  refine fin_bl I fin ?_
  rw [all_range];rfl
 ·obtain ⟨is,ri,pi,_⟩:=I.tuple hp
  obtain ⟨js,rj,pj,_⟩:=I.tuple hq
  refine PySem.EqBoolInt.of_rcne (SeqAt.RcNeAt.tuples (e:=fun _=>true) pi pj (by omega) (als_items I low k ri rj)) ?_
  have e:(is.toArray.size == js.toArray.size)=true:=by simp only [List.size_toArray,beq_iff_eq];rw [<- ri.length,<- rj.length];exact el
  refine fin_bl I fin ?_
  rw [all_range,e];rfl
def tLenSet (K:PySem.W.Frag) (te:TE):TE:=fun σ H Q=>te σ H fun x H1=>∃ (p:Addr) (zs:List Str),x=.ref p/\SqL K H1 p (zs.map V.str)/\zs.length+1 < scanBound/\Q (.int (dist zs).length) H1
theorem pe_lenset {e:Expr} {te:TE} {xl xs:Str} {p1 p2 pos1 pos2:Pos} (hc:X.calm=true) (he:PE X e te) (gl:Gl X xl) (ml:X.mg xl=none) (vl:bootBuiltins xl=some (.builtin "len")) (gs:Gl X xs) (ms:X.mg xs=none) (vs:bootBuiltins xs=some (.type "set"))
  (hn1:xl≠"__name__" := by decide) (hd1:(xl == ("__debug__" : Str))=false:=by decide) (hn2:xs≠"__name__" := by decide) (hd2:(xs == ("__debug__" : Str))=false:=by decide)
  (hs:starEach [e] X.env=[(false,eval e X.env)]:=by rfl):PE X (.Call (.Name xl p1) [.Call (.Name xs p2) [e] [] pos2] [] pos1) (tLenSet X.K te):=by
 intro pins s σ H Q I h
 refine wpAny_Call_Name_kw (ld_blt I gl ml vl ?_ hn1 hd1)
 refine PyProof.Rows.callWith_builtin1 ?_ rfl rfl
 show wpAny _ _ (spliced [(false,eval (.Call (.Name xs p2) [e] [] pos2) X.env)]) _ _ s
 refine Calls.spliced_cons ?_
 refine wpAny_Call_Name_kw (ld_blt I gs ms vs ?_ hn2 hd2)
 refine PyProof.Rows.callWith_type1 (thn (pa_cons he pa_nil hs pos2 pins s σ H (fun vs H1=>∃ x,vs=[x]/\∃ (p:Addr) (zs:List Str),x=.ref p/\SqL X.K H1 p (zs.map V.str)/\zs.length+1 < scanBound/\Q (.int (dist zs).length) H1) I ?_) fun us s1 h1=>?_) hs rfl
 ·have mono:=h
  refine ?_
  show te σ H _
  exact (show te σ H (fun x H1=>∃ x',[x]=[x']/\∃ (p:Addr) (zs:List Str),x'=.ref p/\SqL X.K H1 p (zs.map V.str)/\zs.length+1 < scanBound/\Q (.int (dist zs).length) H1) from by
   have e:(fun (x:V) (H1:Hp)=>∃ x',[x]=[x']/\∃ (p:Addr) (zs:List Str),x'=.ref p/\SqL X.K H1 p (zs.map V.str)/\zs.length+1 < scanBound/\Q (.int (dist zs).length) H1)=fun x H1=>∃ (p:Addr) (zs:List Str),x=.ref p/\SqL X.K H1 p (zs.map V.str)/\zs.length+1 < scanBound/\Q (.int (dist zs).length) H1:=by
    funext x H1
    refine propext ⟨fun ⟨x',e,r⟩=>?_,fun r=>⟨x,rfl,r⟩⟩
    cases e
    exact r
   rw [e]
   exact h)
 ·obtain ⟨vs',H1,I1,r1,x,rfl,p,zs,rfl,hq,small,q⟩:=h1
  obtain ⟨u,rfl,ru⟩:=vals1 r1
  cases ru
  obtain ⟨its,rv,pl,_⟩:=I1.list hq
  refine set_texts (I1.ok.hd hc) pl.isList (strs_of rv) small fun h' tk T kp=>?_
  refine Calls.spliced_nil ?_
  obtain ⟨o,es,ep,t,ho,hex,hd,_,_,hb,hf,hN⟩:=T
  have I2:Inv X pins σ H1 { s1 with heap:=h',toks:=tk }:=I1.kept (t':=tk) kp
  have fit:(es.size:Int) < 2 ^ 63:=by
   have:es.size < scanBound:=hb
   have z:scanBound<=4096:=by decide
   have:(es.size:Int) < 4096:=by omega
   exact Int.lt_of_lt_of_le this (by decide)
  rw [<- hN] at q
  exact call_len_set ho hex hd hf fit ⟨.int es.size,H1,I2.tok _,⟨_,rfl⟩,q⟩
theorem call_divmod':CallR X (.builtin "divmod") (fun xs H Q=>∃ i j,xs=[.int i,.int j]/\0 < j/\j < 2 ^ 64/\∀ p,H p=none->Q (.ref p) (upd H p (.tup [.int (i / j),.int (i % j)]))):=by
 intro pins s σ H xs us Q I r h
 obtain ⟨i,j,rfl,h1,h2,q⟩:=h
 obtain ⟨u,w',rfl,⟨t,rfl⟩,⟨t',rfl⟩⟩:=vals2 r
 have small:j.natAbs.log2 < 9000:=by
  have a:j.natAbs < 2 ^ 64:=by omega
  have b:j.natAbs≠0:=by omega
  have c:=(Nat.log2_lt b).mpr a
  omega
 refine divmod_int (by omega) ?_ (.inl (PyProof.noPylong_of_log2 small))
 rw [Int.fdiv_eq_ediv_of_nonneg i (by omega),Int.fmod_eq_emod_of_nonneg i (by omega)]
 refine ⟨.ref s.heap.objs.size,_,I.laid (o:=.tup [.int (i / j),.int (i % j)]) (fun b o e=>Heap.get?_push_of_some _ e) (Nat.le_refl _) ⟨?_,[.int (i / j) s.toks,.int (i % j) (s.toks+1)],.cons ⟨_,rfl⟩ (.cons ⟨_,rfl⟩ .nil),⟨_,Heap.get?_push_size s.heap rfl,rfl,0,rfl⟩⟩,rfl,q _ I.fresh⟩
 show 2<=sizeLine
 decide
end
theorem Fun.okO {P:Program} {w:World} {K:PySem.W.Frag} {mg:Str->Option Value} {base:Heap} {x qual:Str} {st:Stmt} {f:Addr} {fd:FuncData} {N ps:List Str} {k:Nat} {sp:Sp} (F:Fun K x qual st f fd) (S:FnScope N ps (defScope st)) (len:∀ vs H Q E,sp vs H Q E->vs.length=ps.length)
  (hbody:∀ (cdv:Value) (A:Around) (outer:List Env) (s:Shared) (H:Hp) (vs:List V) (Q:VK) (E:XK),Room k (A.deeper (envOfC qual (defScope st) s.heap.objs.size f cdv))->sp vs H Q E ->
   ∃ t,PSs (cxOf (CXO P w) P w K mg base N qual (defScope st) f cdv A outer s H E) (defBody st) t/\t { nx:=fun _ H'=>Q .non H',rt:=Q } (start N vs) H):FnOk P w K mg base (CXO P w) (k+1) f fd ps sp:=by
 obtain ⟨oc,od,kV,doc,pm,an,cdv,ct,osl,rfl,lk,hcd⟩:=F.ex
 exact fn_of lk hcd S len (hbody cdv)
end L2
namespace K41
open PySem PySem.Spec PyProof.Rows L2
def top (i:Nat):Stmt:=PySem.Challenge.pw_cutmeet_k41_meeters_known.main.body.getD i (.Pass ⟨0,0,0,0⟩)
abbrev sWhole:Stmt:=top 9
abbrev sName:Stmt:=top 10
abbrev sChkP:Stmt:=top 14
abbrev sAmong:Stmt:=top 15
abbrev sTie:Stmt:=top 16
abbrev sChkT:Stmt:=top 17
abbrev sInit:Stmt:=inClass (top 18) 0
abbrev sPlaces:Stmt:=inClass (top 18) 1
abbrev sMany:Stmt:=inClass (top 18) 2
abbrev sTieM:Stmt:=inClass (top 18) 3
abbrev sTies:Stmt:=inClass (top 18) 4
abbrev sLaw:Stmt:=top 48
structure Df (K:PySem.W.Frag) (mg:Str->Option Value) (x:Str) (st:Stmt) (ps:List Str) (f:Addr) (fd:FuncData):Prop where
 fn:Fun K x x st f fd
 mgf:mg x=some (.ref f)
 b:Binds K fd ps []
def But (p:Addr) (H H':Hp):Prop:=∀ b o,H b=some o->b≠p->H' b=some o
def Row (H:Hp) (p:Addr):Prop:=∃ a b:Int,H p=some (.lst [.int a,.int b])
def spDraw:Sp:=fun vs H Q _=>∃ (p:Addr) (m:Int),vs=[.ref p,.int m]/\Row H p/\0 < m/\m < 2 ^ 64/\∀ (d:Int) (H':Hp),0<=d->d < m->Row H' p->But p H H'->Q (.int d) H'
structure Glb (mg:Str->Option Value):Prop where
 divmod:mg "divmod" = none
 len:mg "len" = none
 all:mg "all" = none
 isinst:mg "isinstance" = none
 str:mg "str" = none
 range:mg "range" = none
 max:mg "max" = none
 min:mg "min" = none
 bool:mg "bool" = none
 list:mg "list" = none
 int:mg "int" = none
 tuple:mg "tuple" = none
 set:mg "set" = none
 sorted:mg "sorted" = none
 longest:∃ t,mg "LONGEST" = some (.int 8 t)
 places:∃ t,mg "MOST_PLACES" = some (.int 12 t)
 ties:∃ t,mg "MOST_TIES" = some (.int 30 t)
section
variable {P:Program} {w:World} {K:PySem.W.Frag} {mg:Str->Option Value} {base:Heap}
def lo (c:Nat):Bool:=!decide ((⟨#[c]⟩:Str).cps.toList < ("a" : Str).cps.toList)
def hi (c:Nat):Bool:=!decide (("z" : Str).cps.toList < (⟨#[c]⟩:Str).cps.toList)
def nm (z:Str):Bool:=(decide (1<=z.length) && decide (z.length<=8)) && (z.cps.toList.map fun c=>lo c && hi c).all id
theorem signs_loop {K:PySem.W.Frag} {z:Str} {H:Hp} {Q:VK} {te:TE} {σ:L2.St} {x:Str} (hz:z.cps.size<=sizeLine) (f:Nat->Bool)
  (he:∀ (c:Nat) (H:Hp) (Q:VK),Q (.bl (f c)) H->te [some (V.str ⟨#[c]⟩)] H Q) (k:∀ D,H D=none->Q (.ref D) (upd H D (.lst ((z.cps.toList.map f).map V.bl)))) :
  lcLoop [x] [] (gName 0) tYes te σ Q (Its z) H:=by
 refine ⟨fun i m ys H2=>H2=H/\i<=z.cps.size/\m=z.cps.size - i/\ys=((z.cps.toList.take i).map f).map V.bl,⟨z.cps.size,rfl,Nat.zero_le _,rfl,rfl⟩,?_⟩
 rintro i m ys H2 ⟨rfl,hi,rfl,rfl⟩
 refine ⟨by simp;omega,?_⟩
 by_cases h:i < z.cps.size
 ·refine .inr ⟨h,fun x H3 hy=>?_⟩
  obtain ⟨rfl,c,hc,rfl⟩:=hy
  simp only [tYes,gName,if_true]
  refine he c _ _ ⟨z.cps.size - (i+1),by omega,rfl,h,rfl,?_⟩
  have e:(z.cps.toList.take (i+1))=z.cps.toList.take i++[c]:=by
   rw [List.take_add_one]
   have:z.cps.toList[i]?=some c:=by simpa using hc
   rw [this];rfl
  rw [e];simp
 ·have e:i=z.cps.size:=by omega
  subst e
  refine .inl ⟨rfl,fun D hD=>?_⟩
  have q:=k D hD
  rw [List.take_of_length_le (by simp)]
  exact q
def spName:Sp:=fun vs H Q _=>(∃ z:Str,vs=[.str z]/\z.length<=1000/\∀ H',Same H H'->Q (.bl (nm z)) H')\/∃ x t,vs=[x]/\TyOf K H x t/\PySem.W.kitOne K t (.type "str")=some false/\Q (.bl false) H
theorem scN:FnScope ["thing"] ["thing"] (defScope sName):=⟨rfl,rfl,rfl,by decide +kernel,rfl,by decide +kernel,by decide +kernel⟩
theorem ok_name {f:Addr} {fd:FuncData} (F:Fun K "is_name" "is_name" sName f fd) (T:Glb mg):FnOk P w K mg base CX0 1 f fd ["thing"] (spName (K:=K)):=by
 refine F.ok scN (fun vs H Q E h=>?_) (fun cdv A outer s H vs Q E hr h=>?_)
 ·rcases h with ⟨z,rfl,_⟩ | ⟨x,t,rfl,_⟩<;>rfl
 ·obtain ⟨t8,h8⟩:=T.longest
  refine ⟨_,pss_cons (ps_if (PW.pt (pw_or (pt_not (pt_val (pe_callB (call_isinst (T:="str")) (by rfl) T.isinst boot_isinstance (pa_cons (pv 0) (pa_cons (pe_bltn (v:=.ty "str") rfl T.str PyProof.Rows.boot_str rfl) pa_nil))) (fun _=>rfl)))
    (pw_or1 (pt_not (pt_chain op_le op_le pe_int (pe_callB call_len_str (by rfl) T.len PySem.boot_len (pa_cons (pv 0) pa_nil)) (pe_glob (v:=.int 8) rfl h8 ⟨_,rfl⟩)))))) (pss_one (ps_ret pe_bl)) pss_nil)
   (pss_one (ps_ret (pe_callB (call_all rfl) (by rfl) T.all boot_all (pa_cons (pe_lc ["sign"] [] rfl (compSc (osc:=(defScope sName).names) (N:=["thing"]) rfl rfl (by decide +kernel)) (gk_name (by decide)) (pi_str (pv 0)) (fun _ _ _=>pg_name (i:=0) (show (["sign"]:List Str).Nodup by decide +kernel) rfl (Or.inl rfl)) (fun _ _ _=>pifs_nil)
    (fun _ _ _=>pe_chain op_le_str op_le_str pe_str (pv 0) pe_str)) pa_nil)))),?_⟩
  rcases h with ⟨z,rfl,hz,k⟩ | ⟨x,t,rfl,ty,ki,k⟩
  ·have hzs:z.length<=sizeLine:=Nat.le_trans hz (by decide)
   refine ⟨_,rfl,_,_,true,rfl,.str z,rfl,_,rfl,?_⟩
   refine iteF ?_
   refine ⟨_,rfl,z,rfl,hzs,_,_,rfl,rfl,_,rfl,?_⟩
   refine ite2 (fun h1=>?_) (fun h1=>?_)
   ·refine ⟨_,_,rfl,rfl,_,rfl,?_⟩
    refine ite2 (fun h2=>?_) (fun h2=>?_)
    ·have e:nm z=false:=by
      have:¬ z.length<=8:=by simp at h2;omega
      simp [nm,this]
     exact e ▸ k H (Same.refl _)
    ·have e:nm z=(z.cps.toList.map fun c=>lo c && hi c).all id:=by
      have a1:1<=z.length:=by simp at h1;omega
      have a2:z.length<=8:=by simp at h2;omega
      unfold nm
      rw [decide_eq_true a1,decide_eq_true a2];rfl
     refine ⟨_,rfl,z,rfl,signs_loop (K:=K) hzs (fun c=>lo c && hi c) (fun c H Q q=>?_) (fun D hD=>⟨D,_,rfl,SqL.of upd_same,?_⟩)⟩
     ·refine ⟨_,rfl,_,_,rfl,rfl,_,rfl,?_⟩
      have q':Q (.bl (lo c && hi c)) H:=q
      refine ite2 (fun h=>?_) (fun h=>?_)
      ·refine ⟨_,_,rfl,rfl,?_⟩
       have e1:lo c=true:=h
       rw [e1,Bool.true_and] at q'
       exact q'
      ·have e1:lo c=false:=by simpa using (show ¬ lo c=true from h)
       rw [e1,Bool.false_and] at q'
       exact q'
     ·exact e ▸ k _ fun c o q=>by rw [upd_ne (ne_of_none q hD)];exact q
   ·refine ⟨_,rfl,?_⟩
    have e:nm z=false:=by
     have:¬ 1<=z.length:=by simp at h1;omega
     simp [nm,this]
    exact iteT (e ▸ k H (Same.refl _))
  ·refine ⟨_,rfl,_,_,false,rfl,ty,ki,_,rfl,?_⟩
   exact iteT k
theorem But.refl (p:Addr) (H:Hp):But p H H:=fun _ _ h _=>h
theorem But.trans {p:Addr} {H H1 H2:Hp} (a:But p H H1) (b:But p H1 H2):But p H H2:=fun c o h n=>b c o (a c o h n) n
theorem But.laid {p q:Addr} {H H1:Hp} {o:HO} (a:But p H H1) (hq:H1 q=none) (hp:Row H1 p):But p H (upd H1 q o)/\Row (upd H1 q o) p:=by
 obtain ⟨x,y,hp⟩:=hp
 exact ⟨fun c u h n=>by rw [upd_ne (ne_of_none (a c u h n) hq)];exact a c u h n,x,y,by rw [upd_ne (ne_of_none hp hq)];exact hp⟩
theorem lit_ix {z:Str} {d:Int} (h0:0<=d) (h1:d < (z.length:Int)):∃ c,atI z.cps.toList d=some c:=by
 obtain ⟨n,rfl⟩:=Int.eq_ofNat_of_zero_le h0
 have hn:n < z.cps.toList.length:=by
  have:n < z.length:=by omega
  rw [Array.length_toList];exact this
 exact ⟨z.cps.toList[n],atI_nat (by simp [hn])⟩
theorem same_upd {H:Hp} {a:Addr} {o:HO} (h:H a=none):Same H (upd H a o):=fun b u e=>by rw [upd_ne (ne_of_none e h)];exact e
def spWhole:Sp:=fun vs H Q _=>∃ x t b1 b2,vs=[x]/\TyOf K H x t/\PySem.W.kitOne K t (.type "int")=some b1/\PySem.W.kitOne K t (.type "bool")=some b2/\Q (.bl (b1 && !b2)) H
theorem scWh:FnScope ["thing"] ["thing"] (defScope sWhole):=⟨rfl,rfl,rfl,by decide +kernel,rfl,by decide +kernel,by decide +kernel⟩
theorem ok_whole {f:Addr} {fd:FuncData} (F:Fun K "is_whole" "is_whole" sWhole f fd) (T:Glb mg):FnOk P w K mg base CX0 1 f fd ["thing"] (spWhole (K:=K)):=by
 refine F.ok scWh (fun vs H Q E h=>?_) (fun cdv A outer s H vs Q E hr h=>?_)
 ·obtain ⟨x,t,b1,b2,rfl,_⟩:=h
  rfl
 ·obtain ⟨x,t,b1,b2,rfl,ty,e1,e2,k⟩:=h
  refine ⟨_,pss_one (ps_ret (pe_and (pe_callB (call_isinst (T:="int")) (by rfl) T.isinst boot_isinstance (pa_cons (pv 0) (pa_cons (pe_bltn (v:=.ty "int") rfl T.int PyProof.Rows.boot_int rfl) pa_nil)))
   (pe_one (pe_not (pe_callB (call_isinst (T:="bool")) (by rfl) T.isinst boot_isinstance (pa_cons (pv 0) (pa_cons (pe_bltn (v:=.ty "bool") rfl T.bool PyProof.Rows.boot_bool rfl) pa_nil))))))),?_⟩
  refine ⟨_,rfl,x,t,b1,rfl,ty,e1,_,rfl,?_⟩
  cases b1
  ·exact iteF k
  ·exact iteT ⟨_,rfl,x,t,b2,rfl,ty,e2,_,rfl,k⟩
structure GoodP (ns:List Str):Prop where
 one:1<=ns.length
 few:ns.length<=12
 nms:∀ z∈ns,nm z=true
 nd:ns.Nodup
theorem nm_len {z:Str} (h:nm z=true):z.length<=8:=by
 unfold nm at h
 simp only [Bool.and_eq_true,decide_eq_true_eq] at h
 exact h.1.2
def spChkP:Sp:=fun vs H Q _=>∃ (a:Addr) (ns:List Str),vs=[.ref a]/\H a=some (.lst (ns.map V.str))/\GoodP ns/\∀ H',Same H H'->Q .non H'
theorem scCP:FnScope ["places"] ["places"] (defScope sChkP):=⟨rfl,rfl,rfl,by decide +kernel,rfl,by decide +kernel,by decide +kernel⟩
theorem ok_chkP {f fN:Addr} {fd fdN:FuncData} (F:Fun K "check_places" "check_places" sChkP f fd) (DN:Df K mg "is_name" sName ["thing"] fN fdN) (T:Glb mg):FnOk P w K mg base CX0 2 f fd ["places"] spChkP:=by
 have GN:FnOk P w K mg base CX0 1 fN fdN ["thing"] (spName (K:=K)):=ok_name DN.fn T
 refine F.ok scCP (fun vs H Q E h=>?_) (fun cdv A outer s H vs Q E hr h=>?_)
 ·obtain ⟨a,ns,rfl,_⟩:=h
  rfl
 ·obtain ⟨a,ns,rfl,ha,g,k⟩:=h
  obtain ⟨t12,h12⟩:=T.places
  refine ⟨_,pss_cons (ps_if (PW.pt (pw_or (pt_not (pt_val (pe_callB (call_isinst (T:="list")) (by rfl) T.isinst boot_isinstance (pa_cons (pv 0) (pa_cons (pe_bltn (v:=.ty "list") rfl T.list PyProof.Rows.boot_list rfl) pa_nil))) (fun _=>rfl)))
    (pw_or1 (pt_not (pt_chain op_le op_le pe_int (pe_callB call_len_seq (by rfl) T.len PySem.boot_len (pa_cons (pv 0) pa_nil)) (pe_glob (v:=.int 12) rfl h12 ⟨_,rfl⟩)))))) (pss_one ps_never) pss_nil)
   (pss_cons (ps_if (pt_not (pt_val (pe_callB (call_all rfl) (by rfl) T.all boot_all (pa_cons (pe_lc ["place"] [] rfl (compSc (osc:=(defScope sChkP).names) (N:=["places"]) rfl rfl (by decide +kernel)) (gk_name (by decide)) (pi_list (pv 0)) (fun _ _ _=>pg_name (i:=0) (show (["place"]:List Str).Nodup by decide +kernel) rfl (Or.inl rfl)) (fun _ _ _=>pifs_nil)
     (fun _ _ _=>pe_call GN hr rfl DN.mgf DN.fn.kp DN.b .nil pass0 (pa_cons (pv 0) pa_nil))) pa_nil)) (fun _=>rfl))) (pss_one ps_never) pss_nil)
   (pss_one (ps_if (pt_cmpR op_lt (pe_lenset rfl (pv 0) rfl T.len PySem.boot_len rfl T.set PyProof.Rows.boot_set) (pe_callB call_len_seq (by rfl) T.len PySem.boot_len (pa_cons (pv 0) pa_nil)) (nomark _)) (pss_one ps_never) pss_nil))),?_⟩
  refine ⟨_,rfl,_,_,true,rfl,.lst ha,rfl,_,rfl,?_⟩
  refine iteF ?_
  have le:(ns.map V.str).length=ns.length:=List.length_map ..
  refine ⟨_,rfl,a,_,rfl,.inl (SqL.of ha),_,_,rfl,rfl,_,rfl,?_⟩
  rw [le]
  have g1:=g.one
  have g2:=g.few
  refine ite2 (fun _=>?_) (fun z=>absurd z (by simp;omega))
  refine ⟨_,_,rfl,rfl,_,rfl,?_⟩
  refine ite2 (fun z=>absurd z (by simp;omega)) (fun _=>?_)
  refine ⟨_,rfl,a,rfl,⟨_,SqL.of ha⟩,lc_list (K:=K) (xs:=ns.map V.str) (fun i ys H2=>Same H H2/\ys=List.replicate i (V.bl true)) ⟨Same.refl _,rfl⟩ ?_ ?_ ?_ ?_⟩
  ·rintro i ys H2 hi ⟨_,rfl⟩
   rw [List.length_replicate]
   rw [le] at hi
   exact Nat.le_trans hi (Nat.le_trans g.few (by decide))
  ·rintro i ys H2 _ ⟨s2,_⟩
   exact SqL.of (s2 _ _ ha)
  ·rintro i x ys H2 R hx ⟨s2,rfl⟩ kR
   rw [List.getElem?_map] at hx
   obtain ⟨z,ez,rfl⟩:=Option.map_eq_some_iff.mp hx
   have gz:=g.nms z (List.mem_of_getElem? ez)
   simp only [tYes,gName,if_true]
   refine ⟨_,rfl,.inl ⟨z,rfl,Nat.le_trans (nm_len gz) (by decide),fun H3 s3=>?_⟩⟩
   rw [gz]
   exact kR _ _ ⟨s2.trans s3,by rw [List.replicate_succ']⟩
  ·rintro ys H2 ⟨s2,rfl⟩ D hD
   rw [le]
   have e:List.replicate ns.length (V.bl true)=(List.replicate ns.length true).map V.bl:=by simp
   refine ⟨D,List.replicate ns.length true,rfl,(by rw [e];exact SqL.of upd_same),_,rfl,?_⟩
   have e2:(List.replicate ns.length true).all id=true:=by simp
   rw [e2]
   refine iteF ?_
   have s3:Same H (upd H2 D (.lst (List.replicate ns.length (V.bl true)))):=s2.trans (same_upd hD)
   refine ⟨_,rfl,a,ns,rfl,SqL.of (s3 _ _ ha),(by have:=g.few;show ns.length+1 < scanBound;exact Nat.lt_of_le_of_lt (Nat.succ_le_succ this) (by decide)),_,rfl,a,_,rfl,.inl (SqL.of (s3 _ _ ha)),_,_,rfl,rfl,_,rfl,?_⟩
   rw [dist_nd g.nd,le]
   refine ite2 (fun z=>absurd z (by simp)) (fun _=>?_)
   exact k _ s3
end
theorem inV_str (z:Str) (ns:List Str):inV (.str z) (ns.map V.str)=decide (z∈ns):=by
 unfold inV
 rw [List.any_map,Bool.eq_iff_iff,decide_eq_true_iff]
 simp only [List.any_eq_true,Function.comp,eqV,beq_iff_eq]
 exact ⟨fun ⟨y,h,e⟩=>e ▸ h,fun h=>⟨z,h,rfl⟩⟩
theorem flat_strs (ns:List Str):(ns.map V.str).all flatV=true:=by
 rw [List.all_map,List.all_eq_true]
 intro _ _
 rfl
section
variable {P:Program} {w:World} {K:PySem.W.Frag} {mg:Str->Option Value} {base:Heap}
def spAmong:Sp:=fun vs H Q _=>(∃ (a:Addr) (ns:List Str) (z:Str),vs=[.ref a,.str z]/\SqL K H a (ns.map V.str)/\Q (.bl (decide (z∈ns))) H)\/∃ (a:Addr) (x:V) (t:Value),vs=[.ref a,x]/\TyOf K H x t/\PySem.W.kitOne K t (.type "str")=some false/\Q (.bl false) H
theorem scAm:FnScope ["places","thing"] ["places","thing"] (defScope sAmong):=⟨rfl,rfl,rfl,by decide +kernel,rfl,by decide +kernel,by decide +kernel⟩
theorem ok_among {f:Addr} {fd:FuncData} (F:Fun K "is_among" "is_among" sAmong f fd) (T:Glb mg):FnOk P w K mg base CX0 1 f fd ["places","thing"] (spAmong (K:=K)):=by
 refine F.ok scAm (fun vs H Q E h=>?_) (fun cdv A outer s H vs Q E hr h=>?_)
 ·rcases h with ⟨a,ns,z,rfl,_⟩ | ⟨a,x,t,rfl,_⟩<;>rfl
 ·refine ⟨_,pss_one (ps_ret (pe_and (pe_callB (call_isinst (T:="str")) (by rfl) T.isinst boot_isinstance (pa_cons (pv 1) (pa_cons (pe_bltn (v:=.ty "str") rfl T.str PyProof.Rows.boot_str rfl) pa_nil))) (pe_one (pe_cmpR op_in_seq (pv 1) (pv 0) rfl)))),?_⟩
  rcases h with ⟨a,ns,z,rfl,ha,k⟩ | ⟨a,x,t,rfl,ty,e,k⟩
  ·refine ⟨_,rfl,_,_,true,rfl,.str z,rfl,_,rfl,?_⟩
   refine iteT ⟨_,rfl,_,rfl,a,_,rfl,.inl ha,rfl,flat_strs ns,?_⟩
   rw [inV_str]
   exact k
  ·refine ⟨_,rfl,x,t,false,rfl,ty,e,_,rfl,?_⟩
   exact iteF k
def spTie:Sp:=fun vs H Q _=>∃ (a:Addr) (ns:List Str) (t:Addr) (x y:Str),vs=[.ref a,.ref t]/\SqL K H a (ns.map V.str)/\H t=some (.tup [.str x,.str y])/\Q (.bl (decide (x∈ns) && decide (y∈ns))) H
theorem scTi:FnScope ["places","thing"] ["places","thing"] (defScope sTie):=⟨rfl,rfl,rfl,by decide +kernel,rfl,by decide +kernel,by decide +kernel⟩
theorem ok_tie {f fA:Addr} {fd fdA:FuncData} (F:Fun K "is_tie" "is_tie" sTie f fd) (DA:Df K mg "is_among" sAmong ["places","thing"] fA fdA) (T:Glb mg):FnOk P w K mg base CX0 2 f fd ["places","thing"] (spTie (K:=K)):=by
 have GA:FnOk P w K mg base CX0 1 fA fdA ["places","thing"] (spAmong (K:=K)):=ok_among DA.fn T
 refine F.ok scTi (fun vs H Q E h=>?_) (fun cdv A outer s H vs Q E hr h=>?_)
 ·obtain ⟨a,ns,t,x,y,rfl,_⟩:=h
  rfl
 ·obtain ⟨a,ns,t,x,y,rfl,ha,ht,k⟩:=h
  refine ⟨_,pss_cons (ps_if (PW.pt (pw_or (pt_not (pt_val (pe_callB (call_isinst (T:="tuple")) (by rfl) T.isinst boot_isinstance (pa_cons (pv 1) (pa_cons (pe_bltn (v:=.ty "tuple") rfl T.tuple PyProof.Rows.boot_tuple rfl) pa_nil))) (fun _=>rfl)))
    (pw_or1 (pt_cmpR op_ne (pe_callB call_len_seq (by rfl) T.len PySem.boot_len (pa_cons (pv 1) pa_nil)) pe_int (nomark _))))) (pss_one (ps_ret pe_bl)) pss_nil)
   (pss_one (ps_ret (pe_and (pe_call GA hr rfl DA.mgf DA.fn.kp DA.b .nil pass0 (pa_cons (pv 0) (pa_cons (pe_ix ix_tup (pv 1) pe_int (fun _ _=>rfl)) pa_nil))) (pe_one (pe_call GA hr rfl DA.mgf DA.fn.kp DA.b .nil pass0 (pa_cons (pv 0) (pa_cons (pe_ix ix_tup (pv 1) pe_int (fun _ _=>rfl)) pa_nil))))))),?_⟩
  refine ⟨_,rfl,_,_,true,rfl,.tup ht,rfl,_,rfl,?_⟩
  refine iteF ⟨_,rfl,t,_,rfl,.inr (SqT.of ht),rfl,_,rfl,?_⟩
  refine iteF ?_
  refine ⟨_,rfl,_,rfl,t,_,_,_,rfl,rfl,SqT.of ht,atI_nat (j:=0) rfl,.inl ⟨a,ns,x,rfl,ha,_,rfl,?_⟩⟩
  refine ite2 (fun e=>?_) (fun e=>?_)
  ·refine ⟨_,rfl,_,rfl,t,_,_,_,rfl,rfl,SqT.of ht,atI_nat (j:=1) rfl,.inl ⟨a,ns,y,rfl,ha,?_⟩⟩
   rw [e,Bool.true_and] at k
   exact k
  ·rw [Bool.eq_false_iff.mpr e,Bool.false_and] at k
   exact k
def TiesAt (H:Hp):List Addr->List (Str × Str)->Prop:=Paired fun t p=>H t=some (.tup [.str p.1,.str p.2])
def InP (ns:List Str) (ps:List (Str × Str)):Prop:=∀ p∈ps,p.1∈ns/\p.2∈ns
theorem TiesAt.mono {H H':Hp} {ts:List Addr} {ps:List (Str × Str)} (h:TiesAt H ts ps) (k:∀ t xs,H t=some (.tup xs)->H' t=some (.tup xs)):TiesAt H' ts ps:=Paired.mapP h fun t p e=>k t _ e
theorem TiesAt.same {H H':Hp} {ts:List Addr} {ps:List (Str × Str)} (h:TiesAt H ts ps) (s:Same H H'):TiesAt H' ts ps:=h.mono fun t xs e=>s t _ e
theorem TiesAt.but {p:Addr} {H H':Hp} {ts:List Addr} {ps:List (Str × Str)} (h:TiesAt H ts ps) (s:But p H H') (np:∀ xs,H p≠some (.tup xs)):TiesAt H' ts ps:=h.mono fun t xs e=>s t _ e fun z=>np xs (z ▸ e)
theorem TiesAt.len {H:Hp} {ts:List Addr} {ps:List (Str × Str)} (h:TiesAt H ts ps):ts.length=ps.length:=Paired.length h
theorem TiesAt.get {H:Hp}:∀ {ts:List Addr} {ps:List (Str × Str)} {i:Nat} {t:Addr},TiesAt H ts ps->ts[i]?=some t->∃ p,ps[i]?=some p/\H t=some (.tup [.str p.1,.str p.2])
 | _,_,_,_,.nil,e=>by simp at e
 | _,_,0,_,.cons r _,e=>by simp at e;subst e;exact ⟨_,rfl,r⟩
 | _,_,i+1,t,.cons _ h,e=>by
  obtain ⟨p,h1,h2⟩:=TiesAt.get (i:=i) (t:=t) h (by simpa using e)
  exact ⟨p,by simpa using h1,h2⟩
theorem TiesAt.snoc {H:Hp} {ts:List Addr} {ps:List (Str × Str)} {t:Addr} {p:Str × Str} (h:TiesAt H ts ps) (e:H t=some (.tup [.str p.1,.str p.2])):TiesAt H (ts++[t]) (ps++[p]):=Paired.snoc h e
def spChkT:Sp:=fun vs H Q _=>∃ (a b:Addr) (ns:List Str) (ts:List Addr) (ps:List (Str × Str)),vs=[.ref a,.ref b]/\H a=some (.lst (ns.map V.str))/\H b=some (.lst (ts.map V.ref))/\TiesAt H ts ps/\InP ns ps/\ps.length<=30/\∀ H',Same H H'->Q .non H'
theorem scCT:FnScope ["places","ties"] ["places","ties"] (defScope sChkT):=⟨rfl,rfl,rfl,by decide +kernel,rfl,by decide +kernel,by decide +kernel⟩
theorem ok_chkT {f fA fT:Addr} {fd fdA fdT:FuncData} (F:Fun K "check_ties" "check_ties" sChkT f fd) (DA:Df K mg "is_among" sAmong ["places","thing"] fA fdA) (DT:Df K mg "is_tie" sTie ["places","thing"] fT fdT) (T:Glb mg):FnOk P w K mg base CX0 3 f fd ["places","ties"] spChkT:=by
 have GT:FnOk P w K mg base CX0 2 fT fdT ["places","thing"] (spTie (K:=K)):=ok_tie DT.fn DA T
 refine F.ok scCT (fun vs H Q E h=>?_) (fun cdv A outer s H vs Q E hr h=>?_)
 ·obtain ⟨a,b,ns,ts,ps,rfl,_⟩:=h
  rfl
 ·obtain ⟨a,b,ns,ts,ps,rfl,ha,hb,hT,hI,few,k⟩:=h
  obtain ⟨t30,h30⟩:=T.ties
  refine ⟨_,pss_cons (ps_if (PW.pt (pw_or (pt_not (pt_val (pe_callB (call_isinst (T:="list")) (by rfl) T.isinst boot_isinstance (pa_cons (pv 1) (pa_cons (pe_bltn (v:=.ty "list") rfl T.list PyProof.Rows.boot_list rfl) pa_nil))) (fun _=>rfl)))
    (pw_or1 (pt_cmpR op_gt (pe_callB call_len_seq (by rfl) T.len PySem.boot_len (pa_cons (pv 1) pa_nil)) (pe_glob (v:=.int 30) rfl h30 ⟨_,rfl⟩) (nomark _))))) (pss_one ps_never) pss_nil)
   (pss_one (ps_if (pt_not (pt_val (pe_callB (call_all rfl) (by rfl) T.all boot_all (pa_cons (pe_lc ["tie"] [0] rfl (compSc (osc:=(defScope sChkT).names) (N:=["places","ties"]) rfl rfl (by decide +kernel)) (gk_name (by decide)) (pi_list (pv 1)) (fun _ _ _=>pg_name (i:=0) (show (["tie","places"]:List Str).Nodup by decide +kernel) rfl (Or.inl rfl)) (fun _ _ _=>pifs_nil)
     (fun _ _ _=>pe_call GT hr rfl DT.mgf DT.fn.kp DT.b .nil pass0 (pa_cons (pv 1) (pa_cons (pv 0) pa_nil)))) pa_nil)) (fun _=>rfl))) (pss_one ps_never) pss_nil)),?_⟩
  have le:(ts.map V.ref).length=ps.length:=by rw [List.length_map,hT.len]
  refine ⟨_,rfl,_,_,true,rfl,.lst hb,rfl,_,rfl,?_⟩
  refine iteF ⟨_,rfl,b,_,rfl,.inl (SqL.of hb),_,_,rfl,rfl,_,rfl,?_⟩
  rw [le]
  refine ite2 (fun z=>absurd z (by simp;omega)) (fun _=>?_)
  refine ⟨_,rfl,b,rfl,⟨_,SqL.of hb⟩,lc_list (K:=K) (xs:=ts.map V.ref) (fun i ys H2=>Same H H2/\ys=List.replicate i (V.bl true)) ⟨Same.refl _,rfl⟩ ?_ ?_ ?_ ?_⟩
  ·rintro i ys H2 hi ⟨_,rfl⟩
   rw [List.length_replicate]
   rw [le] at hi
   exact Nat.le_trans hi (Nat.le_trans few (by decide))
  ·rintro i ys H2 _ ⟨s2,_⟩
   exact SqL.of (s2 _ _ hb)
  ·rintro i x ys H2 R hx ⟨s2,rfl⟩ kR
   rw [List.getElem?_map] at hx
   obtain ⟨t,et,rfl⟩:=Option.map_eq_some_iff.mp hx
   obtain ⟨p,ep,ht⟩:=hT.get et
   obtain ⟨i1,i2⟩:=hI p (List.mem_of_getElem? ep)
   simp only [tYes,gName,if_true]
   refine ⟨_,rfl,_,rfl,a,ns,t,p.1,p.2,rfl,SqL.of (s2 _ _ ha),s2 _ _ ht,?_⟩
   rw [decide_eq_true i1,decide_eq_true i2]
   exact kR _ _ ⟨s2,by rw [List.replicate_succ'];rfl⟩
  ·rintro ys H2 ⟨s2,rfl⟩ D hD
   have e:List.replicate (ts.map V.ref).length (V.bl true)=(List.replicate (ts.map V.ref).length true).map V.bl:=by simp
   refine ⟨D,List.replicate (ts.map V.ref).length true,rfl,(by rw [e];exact SqL.of upd_same),_,rfl,?_⟩
   have e2:(List.replicate (ts.map V.ref).length true).all id=true:=by simp
   rw [e2]
   exact iteF (k _ (s2.trans (same_upd hD)))
end
structure WC (K:PySem.W.Frag) (mg:Str->Option Value) (C:Addr):Prop where
 cl:Cls K C
 nP:NoAttr K C "kept_places"
 nT:NoAttr K C "kept_ties"
 mgC:mg "Web" = some (.ref C)
def wf (kp kt:Addr):List (Str × V):=[("kept_places",.ref kp),("kept_ties",.ref kt)]
def WebObj (C:Addr) (H:Hp) (x:Addr) (ns:List Str) (ps:List (Str × Str)):Prop :=
 ∃ dx kp kt ts,H x=some (.ins C dx (wf kp kt))/\H kp=some (.tup ((srt ns).map V.str))/\H kt=some (.tup (ts.map V.ref))/\TiesAt H ts ps
theorem WebObj.same {C:Addr} {H H':Hp} {x:Addr} {ns:List Str} {ps:List (Str × Str)} (h:WebObj C H x ns ps) (s:Same H H'):WebObj C H' x ns ps :=
 let ⟨dx,kp,kt,ts,h1,h2,h3,h4⟩:=h
 ⟨dx,kp,kt,ts,s _ _ h1,s _ _ h2,s _ _ h3,h4.same s⟩
theorem wf_p (kp kt:Addr):(wf kp kt).lookup ("kept_places" : Str)=some (V.ref kp):=rfl
theorem wf_t (kp kt:Addr):(wf kp kt).lookup ("kept_ties" : Str)=some (V.ref kt):=by
 show List.lookup _ (_::_)=_
 rw [List.lookup_cons,show (("kept_ties" : Str) == "kept_places")=false by decide +kernel]
 rfl
theorem wf_no (kp kt:Addr) (m:Str) (h1:(m == ("kept_places" : Str))=false) (h2:(m == ("kept_ties" : Str))=false):(wf kp kt).lookup m=none:=by
 show List.lookup _ (_::_)=_
 rw [List.lookup_cons,h1]
 show List.lookup _ (_::_)=_
 rw [List.lookup_cons,h2]
 rfl
section
variable {P:Program} {w:World} {K:PySem.W.Frag} {mg:Str->Option Value} {base:Heap}
structure Lists (H:Hp) (a b:Addr) (ns:List Str) (ps:List (Str × Str)) (ts:List Addr):Prop where
 ha:H a=some (.lst (ns.map V.str))
 hb:H b=some (.lst (ts.map V.ref))
 hT:TiesAt H ts ps
 good:GoodP ns
 ins:InP ns ps
 few:ps.length<=30
theorem Lists.same {H H':Hp} {a b:Addr} {ns:List Str} {ps:List (Str × Str)} {ts:List Addr} (h:Lists H a b ns ps ts) (s:Same H H'):Lists H' a b ns ps ts:=⟨s _ _ h.ha,s _ _ h.hb,h.hT.same s,h.good,h.ins,h.few⟩
def spInit (C:Addr):Sp:=fun vs H Q _=>∃ (x a b:Addr) (ns:List Str) (ps:List (Str × Str)) (ts:List Addr),vs=[.ref x,.ref a,.ref b]/\(∃ dx,H x=some (.ins C dx []))/\Lists H a b ns ps ts/\∀ H',WebObj C H' x ns ps->But x H H'->Q .non H'
theorem scIn:FnScope ["self","places","ties"] ["self","places","ties"] (defScope sInit):=⟨rfl,rfl,rfl,by decide +kernel,rfl,by decide +kernel,by decide +kernel⟩
theorem ok_init {C f fN fA fT f1 f2:Addr} {fd fdN fdA fdT fd1 fd2:FuncData} (F:Fun K "__init__" "Web.__init__" sInit f fd) (W:WC K mg C) (DN:Df K mg "is_name" sName ["thing"] fN fdN) (DA:Df K mg "is_among" sAmong ["places","thing"] fA fdA) (DT:Df K mg "is_tie" sTie ["places","thing"] fT fdT)
  (D1:Df K mg "check_places" sChkP ["places"] f1 fd1) (D2:Df K mg "check_ties" sChkT ["places","ties"] f2 fd2) (T:Glb mg):FnOk P w K mg base CX0 4 f fd ["self","places","ties"] (spInit C):=by
 have G1:FnOk P w K mg base CX0 2 f1 fd1 ["places"] spChkP:=ok_chkP D1.fn DN T
 have G2:FnOk P w K mg base CX0 3 f2 fd2 ["places","ties"] spChkT:=ok_chkT D2.fn DA DT T
 refine F.ok scIn (fun vs H Q E h=>?_) (fun cdv A outer s H vs Q E hr h=>?_)
 ·obtain ⟨x,a,b,ns,ps,ts,rfl,_⟩:=h
  rfl
 ·obtain ⟨x,a,b,ns,ps,ts,rfl,⟨dx,hx⟩,L,k⟩:=h
  refine ⟨_,pss_cons (ps_expr (pe_call G1 (hr.mono (by decide)) rfl D1.mgf D1.fn.kp D1.b .nil pass0 (pa_cons (pv 1) pa_nil)))
   (pss_cons (ps_expr (pe_call G2 (hr.mono (by decide)) rfl D2.mgf D2.fn.kp D2.b .nil pass0 (pa_cons (pv 1) (pa_cons (pv 2) pa_nil))))
   (pss_cons (ps_fld (pv 0) (pe_callTy call_tuple_of (by rfl) T.tuple PyProof.Rows.boot_tuple (pa_cons (pe_callB call_sorted_txt (by rfl) T.sorted boot_sorted (pa_cons (pv 1) pa_nil)) pa_nil)) rfl)
   (pss_one (ps_fld (pv 0) (pe_callTy call_tuple_of (by rfl) T.tuple PyProof.Rows.boot_tuple (pa_cons (pe_lc ["a","b"] [] rfl (compSc (osc:=(defScope sInit).names) (N:=["self","places","ties"]) rfl rfl (by decide +kernel)) (gk_two (k:=2) (by decide) (by decide)) (pi_list (pv 2))
    (fun _ _ _=>pg_tup (n:=2) rfl (pgs_cons (pg_name (i:=0) (show (["a","b"]:List Str).Nodup by decide +kernel) rfl (Or.inl rfl)) (pgs_cons (pg_name (i:=1) (show (["a","b"]:List Str).Nodup by decide +kernel) rfl (Or.inl rfl)) pgs_nil))) (fun _ _ _=>pifs_nil)
    (fun _ _ _=>pe_tup (pa_cons (pv 0) (pa_cons (pv 1) pa_nil)))) pa_nil)) rfl)))),?_⟩
  refine ⟨_,rfl,a,ns,rfl,L.ha,L.good,fun H1 s1=>?_⟩
  have L1:=L.same s1
  refine ⟨_,rfl,_,rfl,a,b,ns,ts,ps,rfl,L1.ha,L1.hb,L1.hT,L1.ins,L1.few,fun H2 s2=>?_⟩
  have L2':=L1.same s2
  refine ⟨_,rfl,a,ns,rfl,SqL.of L2'.ha,Nat.lt_of_le_of_lt L.good.few (by decide),fun l hl=>?_⟩
  refine ⟨l,_,rfl,.inl ⟨SqL.of upd_same,fun kp hkp=>?_⟩⟩
  have s3:Same H2 (upd (upd H2 l (.lst ((srt ns).map V.str))) kp (.tup ((srt ns).map V.str))):=(same_upd hl).trans (same_upd hkp)
  have s03:=(s1.trans s2).trans s3
  have hkp3:=upd_same (H:=upd H2 l (.lst ((srt ns).map V.str))) (a:=kp) (o:=.tup ((srt ns).map V.str))
  generalize upd (upd H2 l (.lst ((srt ns).map V.str))) kp (.tup ((srt ns).map V.str))=H3 at s3 s03 hkp3 ⊢
  have hx3:=s03 _ _ hx
  refine ⟨_,rfl,x,C,dx,_,rfl,hx3,W.cl,W.nP,(by show 0 < 1000;decide),?_⟩
  have L3:=L.same s03
  have nax:a≠x:=ne_of L3.ha hx3 (by intro z;cases z)
  have nbx:b≠x:=ne_of L3.hb hx3 (by intro z;cases z)
  have nkx:kp≠x:=ne_of hkp3 hx3 (by intro z;cases z)
  have L4:Lists (upd H3 x (.ins C dx (putF "kept_places" (.ref kp) []))) a b ns ps ts:=⟨by rw [upd_ne nax];exact L3.ha,by rw [upd_ne nbx];exact L3.hb,L3.hT.mono fun t xs e=>by rw [upd_ne (ne_of e hx3 (by intro z;cases z))];exact e,L.good,L.ins,L.few⟩
  have b4:But x H (upd H3 x (.ins C dx (putF "kept_places" (.ref kp) []))):=fun c o e n=>by rw [upd_ne n];exact s03 _ _ e
  have hx4:=upd_same (H:=H3) (a:=x) (o:=.ins C dx (putF "kept_places" (.ref kp) []))
  have hkp4:(upd H3 x (.ins C dx (putF "kept_places" (.ref kp) []))) kp=some (.tup ((srt ns).map V.str)):=by rw [upd_ne nkx];exact hkp3
  generalize upd H3 x (.ins C dx (putF "kept_places" (.ref kp) []))=H4 at L4 b4 hx4 hkp4 ⊢
  have le:(ts.map V.ref).length=ps.length:=by rw [List.length_map,L.hT.len]
  refine ⟨_,rfl,b,rfl,⟨_,SqL.of L4.hb⟩,lc_list (K:=K) (xs:=ts.map V.ref) (fun i ys H5=>Same H4 H5/\∃ us:List Addr,ys=us.map V.ref/\us.length=i/\TiesAt H5 us (ps.take i)) ⟨Same.refl _,[],rfl,rfl,.nil⟩ ?_ ?_ ?_ ?_⟩
  ·rintro i ys H5 hi ⟨_,us,rfl,e,_⟩
   rw [List.length_map,e]
   rw [le] at hi
   exact Nat.le_trans hi (Nat.le_trans L.few (by decide))
  ·rintro i ys H5 _ ⟨s5,_⟩
   exact SqL.of (s5 _ _ L4.hb)
  ·rintro i y ys H5 R hy ⟨s5,us,rfl,e,hU⟩ kR
   rw [List.getElem?_map] at hy
   obtain ⟨t,et,rfl⟩:=Option.map_eq_some_iff.mp hy
   obtain ⟨p,ep,ht⟩:=L4.hT.get et
   refine ⟨t,_,rfl,SqT.of (s5 _ _ ht),rfl,_,_,rfl,_,_,rfl,rfl,?_⟩
   simp only [tYes,if_true]
   refine ⟨_,rfl,_,rfl,(by show 2<=sizeLine;decide),fun u hu=>?_⟩
   have e2:us.map V.ref++[V.ref u]=(us++[u]).map V.ref:=by simp
   refine kR _ _ ⟨s5.trans (same_upd hu),us++[u],e2,by simp [e],?_⟩
   rw [List.take_add_one,ep]
   exact (hU.same (same_upd hu)).snoc upd_same
  ·rintro ys H5 ⟨s5,us,rfl,e,hU⟩ D hD
   rw [le,List.take_of_length_le (Nat.le_refl _)] at hU
   refine ⟨D,_,rfl,.inl ⟨SqL.of upd_same,fun kt hkt=>?_⟩⟩
   have s6:Same H4 (upd (upd H5 D (.lst (us.map V.ref))) kt (.tup (us.map V.ref))):=s5.trans ((same_upd hD).trans (same_upd hkt))
   have hU6:=hU.same ((same_upd (o:=.lst (us.map V.ref)) hD).trans (same_upd (o:=.tup (us.map V.ref)) hkt))
   have hkt6:=upd_same (H:=upd H5 D (.lst (us.map V.ref))) (a:=kt) (o:=.tup (us.map V.ref))
   generalize upd (upd H5 D (.lst (us.map V.ref))) kt (.tup (us.map V.ref))=H6 at s6 hU6 hkt6 ⊢
   have hx6:=s6 _ _ hx4
   refine ⟨_,rfl,x,C,dx,_,rfl,hx6,W.cl,W.nT,(by show 1 < 1000;decide),?_⟩
   refine k _ ⟨dx,kp,kt,us,?_,?_,?_,?_⟩ fun c o e n=>?_
   ·rw [upd_same]
    show some (HO.ins C dx (putF "kept_ties" (.ref kt) (putF "kept_places" (.ref kp) [])))=_
    rfl
   ·rw [upd_ne (ne_of (s6 _ _ hkp4) hx6 (by intro z;cases z))];exact s6 _ _ hkp4
   ·rw [upd_ne (ne_of hkt6 hx6 (by intro z;cases z))];exact hkt6
   ·exact hU6.mono fun t xs e=>by rw [upd_ne (ne_of e hx6 (by intro z;cases z))];exact e
   ·rw [upd_ne n];exact s6 _ _ (b4 c o e n)
def spPl (C:Addr):Sp:=fun vs H Q _=>∃ (x:Addr) (ns:List Str) (ps:List (Str × Str)),vs=[.ref x]/\WebObj C H x ns ps/\∀ l,H l=none->Q (.ref l) (upd H l (.lst ((srt ns).map V.str)))
theorem scPl:FnScope ["self"] ["self"] (defScope sPlaces):=⟨rfl,rfl,rfl,by decide +kernel,rfl,by decide +kernel,by decide +kernel⟩
theorem ok_places {C f:Addr} {fd:FuncData} (F:Fun K "places" "Web.places" sPlaces f fd) (W:WC K mg C) (T:Glb mg):FnOk P w K mg base CX0 1 f fd ["self"] (spPl C):=by
 refine F.ok scPl (fun vs H Q E h=>?_) (fun cdv A outer s H vs Q E hr h=>?_)
 ·obtain ⟨x,ns,ps,rfl,_⟩:=h
  rfl
 ·obtain ⟨x,ns,ps,rfl,⟨dx,kp,kt,ts,h1,h2,h3,h4⟩,k⟩:=h
  refine ⟨_,pss_one (ps_ret (pe_callTy call_list_of (by rfl) T.list PyProof.Rows.boot_list (pa_cons (pe_fld (pv 0) rfl) pa_nil))),?_⟩
  exact ⟨_,rfl,x,C,dx,_,_,rfl,h1,W.cl,W.nP,wf_p kp kt,kp,_,rfl,.inr (SqT.of h2),k⟩
def spTs (C:Addr):Sp:=fun vs H Q _=>∃ (x:Addr) (ns:List Str) (ps:List (Str × Str)),vs=[.ref x]/\WebObj C H x ns ps/\∀ l us,H l=none->TiesAt H us ps->Q (.ref l) (upd H l (.lst (us.map V.ref)))
theorem scTs:FnScope ["self"] ["self"] (defScope sTies):=⟨rfl,rfl,rfl,by decide +kernel,rfl,by decide +kernel,by decide +kernel⟩
theorem ok_ties {C f:Addr} {fd:FuncData} (F:Fun K "ties" "Web.ties" sTies f fd) (W:WC K mg C) (T:Glb mg):FnOk P w K mg base CX0 1 f fd ["self"] (spTs C):=by
 refine F.ok scTs (fun vs H Q E h=>?_) (fun cdv A outer s H vs Q E hr h=>?_)
 ·obtain ⟨x,ns,ps,rfl,_⟩:=h
  rfl
 ·obtain ⟨x,ns,ps,rfl,⟨dx,kp,kt,ts,h1,h2,h3,h4⟩,k⟩:=h
  refine ⟨_,pss_one (ps_ret (pe_callTy call_list_of (by rfl) T.list PyProof.Rows.boot_list (pa_cons (pe_fld (pv 0) rfl) pa_nil))),?_⟩
  exact ⟨_,rfl,x,C,dx,_,_,rfl,h1,W.cl,W.nT,wf_t kp kt,kt,_,rfl,.inr (SqT.of h3),fun l hl=>k l ts hl h4⟩
def spMy (C:Addr):Sp:=fun vs H Q _=>∃ (x:Addr) (ns:List Str) (ps:List (Str × Str)),vs=[.ref x]/\WebObj C H x ns ps/\Q (.int ps.length) H
theorem scMy:FnScope ["self"] ["self"] (defScope sMany):=⟨rfl,rfl,rfl,by decide +kernel,rfl,by decide +kernel,by decide +kernel⟩
theorem ok_many {C f:Addr} {fd:FuncData} (F:Fun K "many" "Web.many" sMany f fd) (W:WC K mg C) (T:Glb mg):FnOk P w K mg base CX0 1 f fd ["self"] (spMy C):=by
 refine F.ok scMy (fun vs H Q E h=>?_) (fun cdv A outer s H vs Q E hr h=>?_)
 ·obtain ⟨x,ns,ps,rfl,_⟩:=h
  rfl
 ·obtain ⟨x,ns,ps,rfl,⟨dx,kp,kt,ts,h1,h2,h3,h4⟩,k⟩:=h
  refine ⟨_,pss_one (ps_ret (pe_callB call_len_seq (by rfl) T.len PySem.boot_len (pa_cons (pe_fld (pv 0) rfl) pa_nil))),?_⟩
  refine ⟨_,rfl,x,C,dx,_,_,rfl,h1,W.cl,W.nT,wf_t kp kt,kt,_,rfl,.inr (SqT.of h3),?_⟩
  rw [List.length_map,h4.len]
  exact k
structure Ex (K:PySem.W.Frag) (mg:Str->Option Value) (x:Str) (C:Addr):Prop where
 b:mg x=some (.ref C)
 bm:∃ Bn newId initId bm,PySem.W.excIn K C bm newId=true/\ExcBaseFacts Bn newId initId bm
def spTieM (C E1 : Addr) : Sp := fun vs H Q R => ∃ (x : Addr) (ns : List Str) (ps : List (Str × Str)) (y : V), vs = [.ref x, y] ∧ WebObj C H x ns ps ∧
  ((∃ (i : Nat) (p : Str × Str), y = .int i ∧ ps[i]? = some p ∧ ∀ t, H t = some (.tup [.str p.1, .str p.2]) → Q (.ref t) H) ∨
   (∃ t b1 b2, TyOf K H y t ∧ PySem.W.kitOne K t (.type "int") = some b1 ∧ PySem.W.kitOne K t (.type "bool") = some b2 ∧ ((b1 && !b2) = false ∨ ((b1 && !b2) = true ∧ ∃ i : Int, y = .int i ∧ (i < 0 ∨ (ps.length : Int) ≤ i))) ∧ R (.ref E1) none H))
theorem scTM:FnScope ["self","k"] ["self","k"] (defScope sTieM):=⟨rfl,rfl,rfl,by decide +kernel,rfl,by decide +kernel,by decide +kernel⟩
theorem ok_tieM {C E1 f fW:Addr} {fd fdW:FuncData} (F:Fun K "tie" "Web.tie" sTieM f fd) (W:WC K mg C) (DW:Df K mg "is_whole" sWhole ["thing"] fW fdW) (X1:Ex K mg "NoTie" E1) (T:Glb mg):FnOk P w K mg base (CXO P w) 2 f fd ["self","k"] (spTieM (K:=K) C E1):=by
 have GW:FnOk P w K mg base CX0 1 fW fdW ["thing"] (spWhole (K:=K)):=ok_whole DW.fn T
 refine F.okO scTM (fun vs H Q E h=>?_) (fun cdv A outer s H vs Q E hr h=>?_)
 ·obtain ⟨x,ns,ps,y,rfl,_⟩:=h
  rfl
 ·obtain ⟨x,ns,ps,y,rfl,⟨dx,kp,kt,ts,h1,h2,h3,h4⟩,h⟩:=h
  obtain ⟨Bn,newId,initId,bm,q,FB⟩:=X1.bm
  refine ⟨_,pss_cons (ps_if (PW.pt (pw_or (pt_not (pt_val (pe_call GW hr rfl DW.mgf DW.fn.kp DW.b .nil pass0 (pa_cons (pv 1) pa_nil)) (fun _=>rfl)))
    (pw_or1 (pt_not (pt_chain op_le op_lt pe_int (pv 1) (pe_callB call_len_seq (by rfl) T.len PySem.boot_len (pa_cons (pe_fld (pv 0) rfl) pa_nil))))))) (pss_one (ps_raise rfl X1.b q FB (pa_cons pe_str pa_nil))) pss_nil)
   (pss_one (ps_ret (pe_ix ix_tup (pe_fld (pv 0) rfl) (pv 1) (fun _ _=>rfl)))),?_⟩
  rcases h with ⟨i,p,rfl,ep,k⟩ | ⟨t,b1,b2,ty,e1,e2,no,k⟩
  ·have hi:i < ps.length:=(List.getElem?_eq_some_iff.mp ep).1
   refine ⟨_,rfl,_,_,true,false,rfl,.int _,rfl,rfl,_,rfl,?_⟩
   refine iteF ⟨_,rfl,_,_,rfl,rfl,_,rfl,?_⟩
   refine ite2 (fun _=>?_) (fun z=>absurd z (by simp))
   refine ⟨_,rfl,x,C,dx,_,_,rfl,h1,W.cl,W.nT,wf_t kp kt,kt,_,rfl,.inr (SqT.of h3),_,_,rfl,rfl,_,rfl,?_⟩
   rw [List.length_map,h4.len]
   refine ite2 (fun z=>absurd z (by simp;omega)) (fun _=>?_)
   have hit:i < ts.length:=by rw [h4.len];exact hi
   obtain ⟨p',ep',ht⟩:=h4.get (List.getElem?_eq_getElem hit)
   rw [ep] at ep'
   cases ep'
   exact ⟨_,rfl,x,C,dx,_,_,rfl,h1,W.cl,W.nT,wf_t kp kt,_,rfl,kt,_,_,_,rfl,rfl,SqT.of h3,atI_nat (j:=i) (v:=.ref ts[i]) (by rw [List.getElem?_map,List.getElem?_eq_getElem hit];rfl),k _ ht⟩
  ·refine ⟨_,rfl,y,t,b1,b2,rfl,ty,e1,e2,_,rfl,?_⟩
   have fin:tRaise E1 (tCons (tC (.str "it is no number of a tie of the web")) tNil) E { nx:=fun _ H'=>Q .non H',rt:=Q } (start ["self","k"] [.ref x,y]) H:=⟨by decide,k⟩
   rcases no with no | ⟨no,i,rfl,no2⟩
   ·rw [no]
    exact iteT fin
   ·rw [no]
    refine iteF ⟨_,rfl,_,_,rfl,rfl,_,rfl,?_⟩
    refine ite2 (fun z=>?_) (fun _=>⟨_,rfl,iteT fin⟩)
    refine ⟨_,rfl,x,C,dx,_,_,rfl,h1,W.cl,W.nT,wf_t kp kt,kt,_,rfl,.inr (SqT.of h3),_,_,rfl,rfl,_,rfl,?_⟩
    rw [List.length_map,h4.len]
    refine ite2 (fun _=>fin) (fun z2=>?_)
    have a1:0<=i:=by simpa using z
    have a2:i < ps.length:=by simpa using z2
    omega
end
end K41
namespace L2
open PySem PySem.Spec PyProof.Rows
abbrev one (c:Nat):Str:=⟨#[c]⟩
theorem glue_ones:∀ (cs:List Nat) (acc:Array Nat),((cs.map one).foldl (fun acc p=>acc++("" : Str).cps++p.cps) acc).toList=acc.toList++cs
 | [],acc=>by simp
 | c::cs,acc=>by
  have e:("" : Str).cps=#[]:=by decide +kernel
  rw [List.map_cons,List.foldl_cons,glue_ones cs,e]
  simp
theorem join_ones {cs:List Nat} (h:cs≠[]):(Txt.join "" (cs.map one)).cps.toList=cs:=by
 cases cs with
 | nil=>exact absurd rfl h
 | cons c r =>
  show ((r.map one).foldl (fun acc p=>acc++("" : Str).cps++p.cps) (one c).cps).toList=_
  rw [glue_ones]
  rfl
theorem atI_mem {α:Type} {xs:List α} {i:Int} {v:α} (h:atI xs i=some v):v∈xs:=by
 unfold atI at h
 obtain ⟨j,_,e⟩:=Option.bind_eq_some_iff.mp h
 exact List.mem_of_getElem? e
end L2
namespace K41
open PySem PySem.Spec PyProof.Rows L2
theorem nm_of {z:Str} {cs:List Nat} (e:z.cps.toList=cs) (h1:1<=cs.length) (h8:cs.length<=8) (h:∀ c∈cs,(lo c && hi c)=true):nm z=true:=by
 have l:z.length=cs.length:=by rw [<- e];exact Array.length_toList.symm
 unfold nm
 rw [l,decide_eq_true h1,decide_eq_true h8,e]
 simp only [Bool.and_self,Bool.true_and,List.all_map,List.all_eq_true]
 exact fun c hc=>h c hc
section
variable {P:Program} {w:World} {K:PySem.W.Frag} {mg:Str->Option Value} {base:Heap}
theorem Row.lst {H:Hp} {p:Addr} (h:Row H p):∃ xs,H p=some (.lst xs):=let ⟨a,b,e⟩:=h;⟨_,e⟩
theorem Row.upd_ne {H:Hp} {p q:Addr} {o:HO} (h:Row H p) (n:p≠q):Row (upd H q o) p:=let ⟨a,b,e⟩:=h;⟨a,b,by rw [L2.upd_ne n];exact e⟩
theorem But.upd_new {p q:Addr} {H H1:Hp} {o:HO} (a:But p H H1) (hq:H q=none):But p H (upd H1 q o):=fun c u e n=>by rw [L2.upd_ne (ne_of_none e hq)];exact a c u e n
end
abbrev sPot:Stmt:=top 36 -- _law_pot
abbrev sTake:Stmt:=top 37 -- _law_draw
abbrev sWord:Stmt:=top 38 -- _law_name
abbrev sNames:Stmt:=top 39 -- _law_names
theorem low {A:Around} {k:Nat} (n:Nat) (hr:Room k A) (h:n<=63:=by decide):A.units+n+1 < cLine:=by have:=hr.units;omega
theorem Same.upd_new {H H1:Hp} {q:Addr} {o:HO} (s:Same H H1) (hq:H q=none):Same H (upd H1 q o):=fun b u e=>by rw [L2.upd_ne (ne_of_none e hq)];exact s b u e
theorem Same.but {H H1 H2:Hp} {p:Addr} (s:Same H H1) (b:But p H1 H2) (hp:H p=none):Same H H2:=fun c u e=>b c u (s c u e) (ne_of_none e hp)
theorem But.none {p t:Addr} {H H':Hp} (b:But p H H') (ht:H' t=none) (n:t≠p):H t=none:=by
 cases e:H t with
 | none=>rfl
 | some o=>exact absurd (b _ _ e n) (by rw [ht];intro z;cases z)
section
variable {P:Program} {w:World} {K:PySem.W.Frag} {mg:Str->Option Value} {base:Heap}
def spPot:Sp:=fun vs H Q _=>∃ (a:Addr) (ns:List Int) (k:Nat),vs=[.ref a,.int k]/\SqL K H a (ns.map V.int)/\ns.length<=63/\∀ (p:Addr) (H':Hp),H p=none->Row H' p->Same H H'->Q (.ref p) H'
abbrev nPo:List Str:=["_law_script","_law_k","_law_cell"]
theorem scPo:FnScope nPo ["_law_script","_law_k"] (defScope sPot):=⟨rfl,rfl,rfl,by decide +kernel,rfl,by decide +kernel,by decide +kernel⟩
theorem row_end {H:Hp} {Q:VK} (k:∀ (p:Addr) (H':Hp),H p=none->Row H' p->Same H H'->Q (.ref p) H') (a b:Int) (p:Addr) (hp:H p=none):Q (.ref p) (upd H p (.lst [.int a,.int b])) :=
 k p _ hp ⟨a,b,upd_same⟩ fun c o e=>by rw [upd_ne (ne_of_none e hp)];exact e
theorem ok_pot {f:Addr} {fd:FuncData} (F:Fun K "_law_pot" "_law_pot" sPot f fd) (T:Glb mg) (ab:mg "abs" = none):FnOk P w K mg base CX0 1 f fd ["_law_script","_law_k"] (spPot (K:=K)):=by
 refine F.ok scPo (fun vs H Q E h=>?_) (fun cdv A outer s H vs Q E hr h=>?_)
 ·obtain ⟨a,ns,k,rfl,_⟩:=h
  rfl
 ·obtain ⟨a,ns,n,rfl,hS,hl,k⟩:=h
  refine ⟨_,pss_cons (ps_set (i:=2) scPo.nd rfl (Or.inl rfl) pe_int)
   (pss_cons (ps_if (pt_cmpR op_lt (pv 1) (pe_callB call_len_seq (by rfl) T.len PySem.boot_len (pa_cons (pv 0) pa_nil)) (nomark _)) (pss_one (ps_set (i:=2) scPo.nd rfl (Or.inl rfl) (pe_ix ix_list (pv 0) (pv 1) (fun _ _=>rfl)))) pss_nil)
   (pss_one (ps_ret (pe_lst (pa_cons (pe_callB (call_max2 rfl) (by rfl) T.max boot_max (pa_cons pe_int (pa_cons (pe_op op_sub (pe_callB call_abs (by rfl) ab PyProof.Rows.boot_abs (pa_cons (pv 2) pa_nil)) (pe_op op_pow pe_int pe_int)) pa_nil)))
    (pa_cons (pe_op op_mod (pe_op op_add (pe_op op_add (pe_op op_mul (pe_op op_mod (pe_callB call_abs (by rfl) ab PyProof.Rows.boot_abs (pa_cons (pv 2) pa_nil)) pe_int) pe_int) (pe_op op_mul pe_int (pv 1))) pe_int) pe_int) pa_nil)))))),?_⟩
  refine ⟨_,rfl,_,rfl,a,_,rfl,.inl hS,_,_,rfl,rfl,_,rfl,?_⟩
  refine ite2 (fun hlt=>?_) (fun hlt=>?_)
  ·have hlt':n < ns.length:=by simpa using hlt
   refine ⟨_,rfl,_,rfl,a,_,_,_,rfl,rfl,hS,atI_nat (j:=n) (v:=.int ns[n]) (by simp [hlt']),?_⟩
   refine ⟨_,rfl,_,rfl,_,_,rfl,rfl,⟨by decide,by decide,by decide⟩,_,_,rfl,rfl,_,_,rfl,?_⟩
   refine ⟨_,rfl,_,rfl,_,_,rfl,rfl,(by show (0:Int) < 2147483543;decide),_,_,rfl,rfl,.inr ⟨by decide,by decide⟩,_,rfl,_,_,rfl,rfl,.inl ⟨by decide,by decide⟩,_,_,rfl,rfl,_,_,rfl,rfl,_,_,rfl,rfl,(by show (0:Int) < 2147483579;decide),?_⟩
   exact ⟨(by show 2<=sizeLine;decide),row_end k _ _⟩
  ·refine ⟨_,rfl,_,rfl,_,_,rfl,rfl,⟨by decide,by decide,by decide⟩,_,_,rfl,rfl,_,_,rfl,?_⟩
   refine ⟨_,rfl,_,rfl,_,_,rfl,rfl,(by show (0:Int) < 2147483543;decide),_,_,rfl,rfl,.inr ⟨by decide,by decide⟩,_,rfl,_,_,rfl,rfl,.inl ⟨by decide,by decide⟩,_,_,rfl,rfl,_,_,rfl,rfl,_,_,rfl,rfl,(by show (0:Int) < 2147483579;decide),?_⟩
   exact ⟨(by show 2<=sizeLine;decide),row_end k _ _⟩
abbrev nTk:List Str:=["_law_pot_here","_law_many","_law_digit"]
theorem scTk:FnScope nTk ["_law_pot_here","_law_many"] (defScope sTake):=⟨rfl,rfl,rfl,by decide +kernel,rfl,by decide +kernel,by decide +kernel⟩
theorem ok_take {f:Addr} {fd:FuncData} (F:Fun K "_law_draw" "_law_draw" sTake f fd) (T:Glb mg):FnOk P w K mg base CX0 1 f fd ["_law_pot_here","_law_many"] spDraw:=by
 refine F.ok scTk (fun vs H Q E h=>?_) (fun cdv A outer s H vs Q E hr h=>?_)
 ·obtain ⟨p,m,rfl,_⟩:=h
  rfl
 ·obtain ⟨p,m,rfl,⟨a,b,hp⟩,m0,m1,k⟩:=h
  refine ⟨_,pss_cons (ps_if (pt_cmpR op_gt (pe_ix ix_list (pv 0) pe_int (fun _ _=>rfl)) pe_int (nomark _))
   (pss_cons (ps_asg (pe_callB call_divmod' (by rfl) T.divmod PyProof.Rows.boot_divmod (pa_cons (pe_ix ix_list (pv 0) pe_int (fun _ _=>rfl)) (pa_cons (pv 1) pa_nil)))
    (pg_tup rfl (pgs_cons (pg_sub (pv 0) pe_int set_list) (pgs_cons (pg_name (i:=2) scTk.nd rfl (Or.inl rfl)) pgs_nil)))) (pss_one (ps_ret (pv 2)))) pss_nil)
   (pss_cons (ps_asg (pe_op op_mod (pe_op op_add (pe_op op_mul (pe_ix ix_list (pv 0) pe_int (fun _ _=>rfl)) pe_int) pe_int) pe_int) (pg_sub (pv 0) pe_int set_list))
   (pss_one (ps_ret (pe_op op_mod (pe_op op_fdiv (pe_op op_mod (pe_op op_mul (pe_ix ix_list (pv 0) pe_int (fun _ _=>rfl)) (pe_ix ix_list (pv 0) pe_int (fun _ _=>rfl))) pe_int) pe_int) (pv 1))))),?_⟩
  refine ⟨_,rfl,p,_,_,_,rfl,rfl,SqL.of hp,atI_nat (j:=0) rfl,?_⟩
  refine ⟨_,_,rfl,rfl,_,rfl,?_⟩
  refine ite2 (fun ha=>?_) (fun ha=>?_)
  ·refine ⟨_,rfl,p,_,_,_,rfl,rfl,SqL.of hp,atI_nat (j:=0) rfl,_,rfl,a,m,rfl,m0,m1,fun t ht=>?_⟩
   have npt:p≠t:=ne_of_none hp ht
   refine ⟨t,_,rfl,SqT.of upd_same,rfl,_,_,rfl,_,rfl,p,_,_,0,rfl,rfl,(by rw [upd_ne npt];exact hp),rfl,?_⟩
   refine ⟨_,_,rfl,rfl,_,rfl,?_⟩
   refine k _ _ (Int.emod_nonneg _ (by omega)) (Int.emod_lt_of_pos _ m0) ⟨_,_,upd_same⟩ fun c o e hc=>?_
   rw [upd_ne hc,upd_ne (ne_of_none e ht)]
   exact e
  ·refine ⟨_,rfl,p,_,_,_,rfl,rfl,SqL.of hp,atI_nat (j:=1) rfl,_,_,rfl,rfl,.inr ⟨by decide,by decide⟩,_,_,rfl,rfl,_,_,rfl,rfl,(by show (0:Int) < 2147483579;decide),?_⟩
   refine ⟨_,rfl,p,_,_,1,rfl,rfl,hp,rfl,?_⟩
   have c1:0<=(b * 28433+70607) % 2147483579:=Int.emod_nonneg _ (by decide)
   have c2:(b * 28433+70607) % 2147483579 < 2147483579:=Int.emod_lt_of_pos _ (by decide)
   generalize (b * 28433+70607) % 2147483579=c at c1 c2 ⊢
   refine ⟨_,rfl,p,_,_,_,rfl,rfl,SqL.of upd_same,atI_nat (j:=1) rfl,_,rfl,p,_,_,_,rfl,rfl,SqL.of upd_same,atI_nat (j:=1) rfl,_,_,rfl,rfl,.inl ⟨by omega,by omega⟩,_,_,rfl,rfl,(by show (0:Int) < 2147483549;decide),_,_,rfl,rfl,⟨by decide,by decide⟩,_,rfl,_,_,rfl,rfl,m0,?_⟩
   refine k _ _ (Int.emod_nonneg _ (by omega)) (Int.emod_lt_of_pos _ m0) ⟨_,_,upd_same⟩ fun c o e hc=>?_
   rw [upd_ne hc]
   exact e
end
abbrev zyx:Str:="zyxwvutsrqponmlkjihgfedcba"
theorem letters26z:("zyxwvutsrqponmlkjihgfedcba" : Str).length=26:=by decide +kernel
theorem zyx_ok:∀ c∈zyx.cps.toList,(lo c && hi c)=true:=by decide +kernel
section
variable {P:Program} {w:World} {K:PySem.W.Frag} {mg:Str->Option Value} {base:Heap}
def spWord:Sp:=fun vs H Q _=>∃ (p:Addr),vs=[.ref p]/\Row H p/\∀ (z:Str) (H':Hp),nm z=true->Row H' p->But p H H'->Q (.str z) H'
abbrev nWd:List Str:=["_law_pot_here","_law_long"]
theorem scWd:FnScope nWd ["_law_pot_here"] (defScope sWord):=⟨rfl,rfl,rfl,by decide +kernel,rfl,by decide +kernel,by decide +kernel⟩
theorem ok_word {f fD:Addr} {fd fdD:FuncData} (F:Fun K "_law_name" "_law_name" sWord f fd) (D:Df K mg "_law_draw" sTake ["_law_pot_here","_law_many"] fD fdD) (T:Glb mg):FnOk P w K mg base CX0 2 f fd ["_law_pot_here"] spWord:=by
 have G:FnOk P w K mg base CX0 1 fD fdD ["_law_pot_here","_law_many"] spDraw:=ok_take D.fn T
 refine F.ok scWd (fun vs H Q E h=>?_) (fun cdv A outer s H vs Q E hr h=>?_)
 ·obtain ⟨p,rfl,_⟩:=h
  rfl
 ·obtain ⟨p,rfl,hp,k⟩:=h
  refine ⟨_,pss_cons (ps_set (i:=1) scWd.nd rfl (Or.inl rfl) (pe_ix ix_list (pe_lst (pa_cons pe_int (pa_cons pe_int (pa_cons pe_int (pa_cons pe_int pa_nil))))) (pe_call G hr rfl D.mgf D.fn.kp D.b .nil pass0 (pa_cons (pv 0) (pa_cons pe_int pa_nil))) (fun _ _=>rfl)))
   (pss_one (ps_ret (pe_bm PySem.F.plainAttrs_str PySem.F.slot_str_join PySem.F.type_str_join mt_join pe_str (pa_cons
    (pe_lc ["_law_k"] [0] rfl (compSc (osc:=(defScope sWord).names) (N:=nWd) rfl rfl (by decide +kernel)) (gk_name (by decide))
     (pi_range1 rfl T.range (pa_cons (pv 1) pa_nil))
     (fun _ _ _=>pg_name (i:=0) (show (["_law_k","_law_pot_here"]:List Str).Nodup by decide +kernel) rfl (Or.inl rfl)) (fun _ _ _=>pifs_nil)
     (fun _ _ _=>pe_ix ix_str pe_str (pe_call G hr rfl D.mgf D.fn.kp D.b .nil pass0 (pa_cons (pv 1) (pa_cons pe_int pa_nil))) (fun _ _=>rfl))) pa_nil)))),?_⟩
  refine ⟨(by show 4<=sizeLine;decide),fun l0 hl0=>?_⟩
  have npl:p≠l0:=ne_of_none hp.lst.choose_spec hl0
  have s0:=same_upd (o:=.lst [.int 1,.int 1,.int 2,.int 8]) hl0
  refine ⟨_,rfl,p,4,rfl,hp.upd_ne npl,by decide,by decide,fun d0 H0 d0a d0b hp0 b0=>?_⟩
  have b01:But p H H0:=fun c o e n=>b0 c o (s0 c o e) n
  have hl:=b0 _ _ upd_same (Ne.symm npl)
  obtain ⟨m,em,m0,m8⟩:∃ m:Int,atI [V.int 1,V.int 1,V.int 2,V.int 8] d0=some (.int m)/\0 < m/\m<=8:=by
   have:d0=0\/d0=1\/d0=2\/d0=3:=by omega
   rcases this with rfl | rfl | rfl | rfl
   ·exact ⟨1,rfl,by decide,by decide⟩
   ·exact ⟨1,rfl,by decide,by decide⟩
   ·exact ⟨2,rfl,by decide,by decide⟩
   ·exact ⟨8,rfl,by decide,by decide⟩
  refine ⟨l0,_,_,_,rfl,rfl,SqL.of hl,em,?_⟩
  refine ⟨rfl,_,rfl,_,rfl,by omega,by omega,lc_range (fun i ys H2=>Row H2 p/\But p H H2/\∃ cs:List Nat,ys=(cs.map one).map V.str/\cs.length=i/\∀ c∈cs,(lo c && hi c)=true) ⟨hp0,b01,[],rfl,rfl,fun _ h=>nomatch h⟩ ?_ ?_ ?_⟩
  ·rintro i ys H2 hi ⟨_,_,cs,rfl,hl,_⟩
   rw [List.length_map,List.length_map,hl]
   exact Nat.le_trans hi (Nat.le_trans (show m.toNat<=8 by omega) (by decide))
  ·rintro i ys H2 R hi ⟨hp2,b2,cs,rfl,hl,h1⟩ kR
   simp only [tYes,gName,if_true]
   refine ⟨_,rfl,p,26,rfl,hp2,by decide,by decide,fun d2 H3 d2a d2b hp3 b3=>?_⟩
   obtain ⟨c,hc⟩:=lit_ix (z:=zyx) d2a (by rw [letters26z];exact d2b)
   refine ⟨_,_,c,rfl,rfl,by decide +kernel,hc,kR _ _ ⟨hp3,b2.trans b3,cs++[c],by simp,by simp [hl],fun y hy=>?_⟩⟩
   rcases List.mem_append.mp hy with q | q
   ·exact h1 y q
   ·rw [List.mem_singleton.mp q];exact zyx_ok c (atI_mem hc)
  ·rintro ys H2 ⟨hp2,b2,cs,rfl,hl,h1⟩ D0 hD0
   obtain ⟨b3,hp3⟩:=b2.laid (o:=.lst ((cs.map one).map V.str)) hD0 hp2
   have l1:1<=cs.length:=by rw [hl];omega
   have l8:cs.length<=8:=by rw [hl];omega
   have hsum:((cs.map one).map (·.length)).sum+(cs.map one).length * ("" : Str).length<=8:=by
    have e1:((cs.map one).map (·.length)).sum=cs.length:=by
     rw [List.map_map]
     clear hl h1 l1 l8 b3 hp3
     induction cs with
     | nil=>rfl
     | cons c r ih=>rw [List.map_cons,List.sum_cons,ih];show 1+_=_;simp;omega
    have:("" : Str).length=0:=by decide +kernel
    rw [e1,this];omega
   have hn:nm (Txt.join "" (cs.map one))=true:=nm_of (join_ones (by intro e;rw [e] at l1;simp at l1)) l1 l8 h1
   refine ⟨"",D0,cs.map one,rfl,rfl,SqL.of upd_same,Nat.le_trans hsum (by decide),?_⟩
   exact k _ _ hn hp3 b3
def spNames:Sp:=fun vs H Q _=>∃ (p:Addr) (m:Int),vs=[.ref p,.int m]/\0 < m/\m<=12/\Row H p/\∀ (q:Addr) (ns:List Str) (H':Hp),GoodP ns->H q=none->H' q=some (.lst (ns.map V.str))->Row H' p->But p H H'->Q (.ref q) H'
abbrev nNa:List Str:=["_law_pot_here","_law_most","_law_names_here","_law_k","_law_name_here"]
theorem scNa:FnScope nNa ["_law_pot_here","_law_most"] (defScope sNames):=⟨rfl,rfl,rfl,by decide +kernel,rfl,by decide +kernel,by decide +kernel⟩
def NaI (p q:Addr) (m:Int) (H:Hp) (i:Nat) (σ:L2.St) (H2:Hp):Prop:=∃ (v3 v4:Option V) (ns:List Str),σ=[some (V.ref p),some (V.int m),some (V.ref q),v3,v4]/\Row H2 p/\But p H H2/\H2 q=some (.lst (ns.map V.str))/\ns.length<=i/\(0 < i->0 < ns.length)/\(∀ z∈ns,nm z=true)/\ns.Nodup
theorem ok_names {f fD fW:Addr} {fd fdD fdW:FuncData} (F:Fun K "_law_names" "_law_names" sNames f fd) (D:Df K mg "_law_draw" sTake ["_law_pot_here","_law_many"] fD fdD) (DW:Df K mg "_law_name" sWord ["_law_pot_here"] fW fdW) (T:Glb mg):FnOk P w K mg base CX0 3 f fd ["_law_pot_here","_law_most"] spNames:=by
 have G:FnOk P w K mg base CX0 1 fD fdD ["_law_pot_here","_law_many"] spDraw:=ok_take D.fn T
 have GW:FnOk P w K mg base CX0 2 fW fdW ["_law_pot_here"] spWord:=ok_word DW.fn D T
 refine F.ok scNa (fun vs H Q E h=>?_) (fun cdv A outer s H vs Q E hr h=>?_)
 ·obtain ⟨p,m,rfl,_⟩:=h
  rfl
 ·obtain ⟨p,m,rfl,m0,m12,hp,k⟩:=h
  have h1:=hr.mono (j:=1) (by decide)
  refine ⟨_,pss_cons (ps_set (i:=2) scNa.nd rfl (Or.inl rfl) (pe_lst pa_nil))
   (pss_cons (ps_for PassesOwn.never rfl (pi_range1 rfl T.range (pa_cons (pe_op op_add pe_int (pe_call G h1 rfl D.mgf D.fn.kp D.b .nil pass0 (pa_cons (pv 0) (pa_cons (pv 1) pa_nil)))) pa_nil)) (pg_name (i:=3) scNa.nd rfl (Or.inl rfl))
    (pss_cons (ps_set (i:=4) scNa.nd rfl (Or.inl rfl) (pe_call GW hr rfl DW.mgf DW.fn.kp DW.b .nil pass0 (pa_cons (pv 0) pa_nil)))
    (pss_one (ps_if (pt_cmpR op_notIn_seq (pv 4) (pv 2) rfl) (pss_one (ps_expr (pe_bm PySem.F.plainAttrs_list PySem.F.slot_list_append PySem.F.type_list_append mt_append (pv 2) (pa_cons (pv 4) pa_nil)))) pss_nil))))
   (pss_one (ps_ret (pv 2)))),?_⟩
  refine ⟨(by decide),fun q hq=>?_⟩
  have npq:p≠q:=ne_of_none hp.lst.choose_spec hq
  refine ⟨_,rfl,_,rfl,p,m,rfl,hp.upd_ne npq,m0,by omega,fun d1 H1 d1a d1b hp1 b1=>?_⟩
  refine ⟨_,_,rfl,rfl,_,rfl,by omega,by omega,?_⟩
  have b1':But p H H1:=fun c o e n=>b1 c o (by rw [L2.upd_ne (ne_of_none e hq)];exact e) n
  refine for_range (NaI p q m H) ⟨_,_,[],rfl,hp1,b1',b1 _ _ upd_same (Ne.symm npq),Nat.le_refl _,(fun z=>absurd z (by decide)),(fun _ z=>nomatch z),List.nodup_nil⟩ ?_ ?_
  ·rintro i σ H2 hi ⟨v3,v4,ns,rfl,hp2,b2,hq2,hl,hl0,hn,nd⟩
   refine ⟨_,rfl,p,rfl,hp2,fun z H3 hz hp3 b3=>?_⟩
   have hq3:=b3 _ _ hq2 (Ne.symm npq)
   refine ⟨_,rfl,_,rfl,q,_,rfl,.inl (SqL.of hq3),rfl,flat_strs ns,_,rfl,?_⟩
   simp only [if_true]
   rw [inV_str]
   by_cases hin:z∈ns
   ·rw [decide_eq_true hin]
    exact iteF ⟨_,_,ns,rfl,hp3,b2.trans b3,hq3,Nat.le_succ_of_le hl,fun _=>List.length_pos_of_mem hin,hn,nd⟩
   ·rw [decide_eq_false hin]
    refine iteT ⟨_,rfl,.inl ⟨rfl,_,SqL.of hq3⟩,_,rfl,q,_,_,rfl,rfl,hq3,(by rw [List.length_map];exact small1000 (by omega)),?_⟩
    refine ⟨_,_,ns++[z],rfl,hp3.upd_ne npq,(b2.trans b3).upd_new hq,?_,by simp;omega,(fun _=>by simp),?_,nd_snoc nd hin⟩
    ·rw [upd_same];simp
    ·intro y hy
     rcases List.mem_append.mp hy with h | h
     ·exact hn y h
     ·rw [List.mem_singleton.mp h];exact hz
  ·rintro σ H2 ⟨v3,v4,ns,rfl,hp2,b2,hq2,hl,hl0,hn,nd⟩
   exact ⟨_,rfl,k q ns H2 ⟨hl0 (by omega),by omega,hn,nd⟩ hq hq2 hp2 b2⟩
end
end K41
namespace L2
open PySem PySem.Spec PyProof.Rows
theorem strs_all:∀ {us:List Value} {zs:List Str},us.length=zs.length->(∀ (j:Nat) (u:Value),us[j]?=some u->∃ z t,zs[j]?=some z/\u=.str z t)->StrsAre us zs
 | [],[],_,_=>.nil
 | [],_::_,h,_=>by simp at h
 | _::_,[],h,_=>by simp at h
 | u::us,z::zs,h,k=>by
  obtain ⟨z',t,e1,e2⟩:=k 0 u rfl
  cases e1
  subst e2
  exact .cons z t (strs_all (by simpa using h) fun j w e=>by simpa using k (j+1) w (by simpa using e))
section
variable {prog:Program} {w:World} {A:Around} {E:Value->Shared->Prop} {s:Shared}
theorem sorts_new {h:Heap} {tk:Nat} {us:List Value} {zs:List Str} {Q:Value->Shared->Prop} (hz:StrsAre us zs) (few:us.length < 64)
  (q:∀ (out:List Value) (n:Nat) (h2:Heap),StrsAre out (srt zs)->(∀ b o,h.get? b=some o->h2.get? b=some o)->h2.get? h.objs.size=some { cls:=.type "list",data:=.seq out.toArray n }->Q (.ref h.objs.size) { s with heap:=h2,toks:=tk }) :
  wpAny (model prog w) A (call (.builtin "list.sort") [.ref h.objs.size]) (fun _ s'=>Q (.ref h.objs.size) s') E { s with heap:=h.push { cls:=.type "list",data:=.seq us.toArray },toks:=tk }:=by
 have at0:(h.push { cls:=.type "list",data:=.seq us.toArray }).get? h.objs.size=some (seqObj "list" us.toArray 0):=Heap.get?_push_size _ rfl
 refine wpAny_call_entry PySem.F.slot_list_sort ⟨_,at0,rfl⟩ PySem.F.entry_list_sort ?_ (args_list_sort _)
 refine list_sort_treeK strKind_oneLt at0 hz.keysOf (fun a b r e=>keyKind_strs (by rw [<- e];exact hz)) few fun st p1 p2=>⟨_,rfl,?_⟩
 obtain ⟨ss,c1,c2,c3⟩:=sorted_out_str hz p1 p2
 have e:=srt_of c2 (sorted_pw ss c3)
 subst e
 obtain ⟨n,hn⟩:=sortedHeap_at (out:=(arrOf st).map (·.2)) at0
 refine q _ n _ c1 (fun b o eb=>?_) (by rw [hn])
 have lt:b < h.objs.size:=Heap.lt_size eb
 rw [sortedHeap_old (Nat.ne_of_lt lt) (by rw [Heap.size_push];exact Nat.lt_succ_of_lt lt)]
 exact Heap.get?_push_of_some _ eb
end
theorem Inv.laidN {X:Cx} {pins:List (Addr × Obj)} {σ:St} {H:Hp} {s:Shared} {h':Heap} {a:Addr} {o:HO} {t':Nat} (I:Inv X pins σ H s) (k:∀ b u,s.heap.get? b=some u->h'.get? b=some u) (hp:s.heap.get? a=none) (hn:H a=none) (new:ObjOk X.prog X.w (upd H a o) h' a o) :
  Inv X pins σ (upd H a o) { s with heap:=h',toks:=t' }:=by
 refine I.un ⟨fun b u q _ _ _=>k b u q,fun b u q _ _ _=>⟨u.slots,k b u q⟩,fun b u q n _=>?_,fun b u q _=>⟨u,k b u q⟩,fun b xs q=>?_,fun b u xs q=>?_,fun b ps q=>⟨#[],?_⟩⟩ fun b u e=>?_
 ·rw [upd_ne (fun z=>by rw [z,hp] at q;cases q)];exact n
 ·rw [upd_ne (ne_of_none q hn)];exact q
 ·rw [upd_ne (ne_of_none q hn)];exact q
 ·rw [upd_ne (ne_of_none q hn),q];simp
 ·by_cases hb:b=a
  ·subst hb;rw [upd_same] at e;cases e;exact new
  ·rw [upd_ne hb] at e
   refine (I.hok b u e).stay (fun c v _ q=>k c v q) (fun c q=>?_) fun c xs q=>?_
   ·rw [upd_ne (ne_of_none q hn)];exact q
   ·rw [upd_ne (ne_of_none q hn)];exact q
def KTxt (kvs:List (Key × V)) (zs:List Str):Prop:=kvs.map (·.1)=zs.map Sum.inr
section
variable {X:Cx}
theorem call_sorted_dk (hc:X.calm=true):CallR X (.builtin "sorted") (fun xs H Q=>∃ (p:Addr) (kvs:List (Key × V)) (zs:List Str),xs=[.ref p]/\H p=some (.dK kvs)/\KTxt kvs zs/\zs.length < 64/\∀ l,H l=none->Q (.ref l) (upd H l (.lst ((srt zs).map V.str)))):=by
 intro pins s σ H xs us Q I r h
 obtain ⟨p,kvs,zs,rfl,hp,hk,few,q⟩:=h
 obtain ⟨u,rfl,rx⟩:=vals1 r
 cases rx
 obtain ⟨z,lo,vs,rel,dd⟩:=dk_of I.hok hp
 obtain ⟨ep,da⟩:=dd.dictAt
 have hl:vs.length=zs.length:=by rw [<- rel.length,<- List.length_map (f:=(·.1)),hk,List.length_map]
 refine Calls.call_function_entry kind_sorted plain_sorted entry_sorted (args_sorted1 _) ?_
 unfold Builtin.«sorted»
 apply wpAny_bind (m:=checkCount "sorted" 1 1 _)
 apply wpAny_pure
 apply wpAny_bind
 refine PySem.W.kdu_collect (PySem.W.kdl_dict (knd:=mixKind X.prog X.w) (kvs:=vs) (ep:=ep) lo) (A:=X.A.in1) (by exact I.ok.hd hc) da (by rw [hl];exact Nat.le_trans (Nat.le_of_lt few) (by decide)) fun h1 tk acc keep items=>?_
 have la:acc.toList.length=zs.length:=by rw [Array.length_toList,items.1,hl]
 have txt:StrsAre acc.toList zs:=strs_all la fun j u e=>by
  obtain ⟨k,x,e1,e2⟩:=items.2 j u (by rw [<- Array.getElem?_toList];exact e)
  have e3:(vs.map (·.1))[j]?=some k:=by rw [List.getElem?_map,e1];rfl
  rw [<- rel.keys,hk,List.getElem?_map] at e3
  obtain ⟨z',e4,rfl⟩:=Option.map_eq_some_iff.mp e3
  have e2':keyIs (Sum.inr z') u=true:=e2
  obtain ⟨i,t,q1,q2⟩ | ⟨y,t,q1,q2⟩:=keyIs_shape e2'
  ·cases q1
  ·cases q1
   exact ⟨z',t,e4,q2⟩
 apply wpAny_bind
 refine wpAny_newList ?_ (by rw [la];exact Nat.le_trans (Nat.le_of_lt few) (by decide))
 apply wpAny_bind
 apply wpAny_holding
 refine wpAny_mono (sorts_new (prog:=X.prog) (w:=X.w) (s:=s) (h:=h1) (tk:=tk) (Q:=EP X pins σ Q) txt (by rw [la];exact few) fun out n h2 o1 o2 o3=>?_) (fun _ _ z=>wpAny_pure ⟨_,rfl,z⟩) fun _ _ z=>z
 have no:s.heap.get? h1.objs.size=none:=by
  cases e:s.heap.get? h1.objs.size with
  | none=>rfl
  | some o=>exact absurd (Heap.lt_size (keep _ _ e)) (Nat.lt_irrefl _)
 have noH:H h1.objs.size=none:=by
  cases e:H h1.objs.size with
  | none=>rfl
  | some o =>
   obtain ⟨u,eu⟩:=(I.hok _ _ e).there
   rw [no] at eu;cases eu
 refine ⟨.ref h1.objs.size,_,I.laidN (t':=tk) (o:=.lst ((srt zs).map V.str)) (fun b o e=>o2 _ _ (keep _ _ e)) no noH ?_,rfl,q _ noH⟩
 refine ⟨by rw [List.length_map,srt_len];exact Nat.le_trans (Nat.le_of_lt few) (by decide),out,n,of_strs o1,o3⟩
def rNeLen (K:PySem.W.Frag):R2:=fun x y H Q=>∃ p q xs ys,x=.ref p/\y=.ref q/\SqL K H p xs/\SqL K H q ys/\xs.length≠ys.length/\Q (.bl true) H
theorem op_ne_len (hu:X.A.units+1 < cLine):OpR X (compareOp .NotEq) (rNeLen X.K):=by
 intro pins s σ H x y v u Q I rx ry h
 obtain ⟨p,q,xs,ys,rfl,rfl,hp,hq,ne,fin⟩:=h
 cases rx
 cases ry
 obtain ⟨is,ri,pi,_⟩:=I.list hp
 obtain ⟨js,rj,pj,_⟩:=I.list hq
 refine PySem.EqBoolInt.of_rcne (SeqAt.RcNeAt.lists_lengths pi.isList pj.isList ?_ (by omega)) (fin_bl I fin rfl)
 simp only [List.size_toArray,bne_iff_ne]
 rw [<- ri.length,<- rj.length]
 exact ne
end
def eqVs:List V->List V->Bool
 | [],[]=>true
 | x::xs,y::ys=>eqV x y && eqVs xs ys
 | _,_=>false
theorem eqVs_len:∀ {xs ys:List V},xs.length≠ys.length->eqVs xs ys=false
 | [],[],h=>absurd rfl h
 | [],_::_,_=>rfl
 | _::_,[],_=>rfl
 | x::xs,y::ys,h=>by
  unfold eqVs
  rw [eqVs_len (by simpa using h),Bool.and_false]
theorem eqVs_all:∀ {xs ys:List V},xs.length=ys.length->eqVs xs ys=(List.range xs.length).all fun j=>eqV (xs.getD j .non) (ys.getD j .non)
 | [],[],_=>rfl
 | [],_::_,h=>by simp at h
 | _::_,[],h=>by simp at h
 | x::xs,y::ys,h=>by
  unfold eqVs
  rw [eqVs_all (by simpa using h),List.length_cons,List.range_succ_eq_map,List.all_cons,List.all_map]
  rfl
theorem eqVs_str:∀ (xs ys:List Str),eqVs (xs.map V.str) (ys.map V.str)=decide (xs=ys)
 | [],[]=>rfl
 | [],_::_=>rfl
 | _::_,[]=>rfl
 | x::xs,y::ys=>by
  rw [List.map_cons,List.map_cons]
  unfold eqVs
  rw [eqVs_str xs ys]
  by_cases h:x=y
  ·subst h
   simp [eqV]
  ·simp [eqV,h]
section
variable {X:Cx} {pins:List (Addr × Obj)} {σ:St} {H:Hp} {s:Shared}
theorem eq_items {xs ys:List V} {A:Around} (fx:xs.all flatV=true) (fy:ys.all flatV=true) {is js:List Value} (ri:Vals xs is) (rj:Vals ys js) :
  ∀ j (h1:j < is.toArray.size) (h2:j < js.toArray.size),SeqAt.EqAt A s is.toArray[j] js.toArray[j] (eqV (xs.getD j .non) (ys.getD j .non)):=fun j h1 h2=>by
 have b1:j < xs.length:=by rw [ri.length];simpa using h1
 have b2:j < ys.length:=by rw [rj.length];simpa using h2
 obtain ⟨u',e1,r1⟩:=ri.get (List.getElem?_eq_getElem b1)
 obtain ⟨v',e2,r2⟩:=rj.get (List.getElem?_eq_getElem b2)
 have c1:is.toArray[j]=u':=by
  rw [List.getElem_toArray]
  have:=List.getElem?_eq_getElem (l:=is) (i:=j) (by simpa using h1)
  rw [this] at e1;exact Option.some.inj e1
 have c2:js.toArray[j]=v':=by
  rw [List.getElem_toArray]
  have:=List.getElem?_eq_getElem (l:=js) (i:=j) (by simpa using h2)
  rw [this] at e2;exact Option.some.inj e2
 have d1:xs.getD j .non=xs[j]:=by simp [List.getD,List.getElem?_eq_getElem b1]
 have d2:ys.getD j .non=ys[j]:=by simp [List.getD,List.getElem?_eq_getElem b2]
 rw [c1,c2,d1,d2]
 exact eqAt_V r1 r2 (List.all_eq_true.mp fx _ (List.getElem_mem b1)) (List.all_eq_true.mp fy _ (List.getElem_mem b2))
end
section
variable {X:Cx}
def rEqF (K:PySem.W.Frag) (neg:Bool):R2:=fun x y H Q=>∃ p q xs ys,x=.ref p/\y=.ref q/\((SqL K H p xs/\SqL K H q ys)\/(SqT K H p xs/\SqT K H q ys))/\xs.all flatV=true/\ys.all flatV=true/\Q (.bl (if neg then !eqVs xs ys else eqVs xs ys)) H
theorem min_eq' {a b:Nat} (h:a=b):min a b=a:=by omega
theorem op_eq_flat (hu:X.A.units+1 < cLine):OpR X (compareOp .Eq) (rEqF X.K false):=by
 intro pins s σ H x y v u Q I rx ry h
 obtain ⟨p,q,xs,ys,rfl,rfl,h,fx,fy,fin⟩:=h
 cases rx
 cases ry
 rcases h with ⟨hp,hq⟩ | ⟨hp,hq⟩
 ·obtain ⟨is,ri,pi,_⟩:=I.list hp
  obtain ⟨js,rj,pj,_⟩:=I.list hq
  by_cases el:xs.length=ys.length
  ·refine SeqAt.eq_listAt pi.isList pj.isList (by simp only [List.size_toArray];rw [<- ri.length,<- rj.length];exact el) (by omega) (eq_items fx fy ri rj) ?_
   refine fin_bl I fin ?_
   rw [List.size_toArray,<- ri.length]
   exact eqVs_all el
  ·refine SeqAt.eq_list_lengthsAt pi.isList pj.isList ?_ (by omega) (fin_bl I fin ?_)
   ·simp only [List.size_toArray,bne_iff_ne]
    rw [<- ri.length,<- rj.length]
    exact el
   ·exact eqVs_len el
 ·obtain ⟨is,ri,pi,_⟩:=I.tuple hp
  obtain ⟨js,rj,pj,_⟩:=I.tuple hq
  refine SeqAt.eq_tupleAt pi pj (by omega) (eq_items fx fy ri rj) ?_
  refine fin_bl I fin ?_
  simp only [List.size_toArray]
  rw [<- ri.length,<- rj.length]
  by_cases el:xs.length=ys.length
  ·rw [min_eq' el,<- eqVs_all el]
   simp [el]
  ·have:(xs.length == ys.length)=false:=by simpa using el
   rw [this,Bool.and_false]
   exact eqVs_len el
theorem op_ne_flat (hu:X.A.units+1 < cLine):OpR X (compareOp .NotEq) (rEqF X.K true):=by
 intro pins s σ H x y v u Q I rx ry h
 obtain ⟨p,q,xs,ys,rfl,rfl,h,fx,fy,fin⟩:=h
 cases rx
 cases ry
 rcases h with ⟨hp,hq⟩ | ⟨hp,hq⟩
 ·obtain ⟨is,ri,pi,_⟩:=I.list hp
  obtain ⟨js,rj,pj,_⟩:=I.list hq
  by_cases el:xs.length=ys.length
  ·refine PySem.EqBoolInt.of_rcne (SeqAt.RcNeAt.lists pi.isList pj.isList (by simp only [List.size_toArray];rw [<- ri.length,<- rj.length];exact el) (by omega) (eq_items fx fy ri rj)) ?_
   refine fin_bl I fin ?_
   rw [List.size_toArray,<- ri.length,<- eqVs_all el]
   rfl
  ·refine PySem.EqBoolInt.of_rcne (SeqAt.RcNeAt.lists_lengths pi.isList pj.isList ?_ (by omega)) (fin_bl I fin ?_)
   ·simp only [List.size_toArray,bne_iff_ne]
    rw [<- ri.length,<- rj.length]
    exact el
   ·rw [if_pos rfl,eqVs_len el];rfl
 ·obtain ⟨is,ri,pi,_⟩:=I.tuple hp
  obtain ⟨js,rj,pj,_⟩:=I.tuple hq
  refine PySem.EqBoolInt.of_rcne (SeqAt.RcNeAt.tuples pi pj (by omega) (eq_items fx fy ri rj)) ?_
  refine fin_bl I fin ?_
  simp only [List.size_toArray]
  rw [<- ri.length,<- rj.length]
  by_cases el:xs.length=ys.length
  ·rw [min_eq' el,<- eqVs_all el]
   simp [el]
  ·have:(xs.length == ys.length)=false:=by simpa using el
   rw [this,Bool.and_false,if_pos trivial,eqVs_len el]
def rEqNil (K:PySem.W.Frag) (neg:Bool):R2:=fun x y H Q=>∃ p q xs,x=.ref p/\y=.ref q/\SqL K H p xs/\SqL K H q []/\Q (.bl (if neg then !decide (xs=[]) else decide (xs=[]))) H
theorem op_ne_nil (hu:X.A.units+1 < cLine):OpR X (compareOp .NotEq) (rEqNil X.K true):=by
 intro pins s σ H x y v u Q I rx ry h
 obtain ⟨p,q,xs,rfl,rfl,hp,hq,fin⟩:=h
 cases xs with
 | nil=>exact op_ne_flat hu pins s σ H _ _ v u Q I rx ry ⟨p,q,[],[],rfl,rfl,.inl ⟨hp,hq⟩,rfl,rfl,fin⟩
 | cons z zs=>exact op_ne_len hu pins s σ H _ _ v u Q I rx ry ⟨p,q,_,_,rfl,rfl,hp,hq,by simp,fin⟩
open Classical in
end
structure DBlk where
 key:Expr
 val:Expr
 tgt:Expr
 src:Expr
 cs:List Expr
 sc:Scope
 pos:Pos
namespace DBlk
variable (B:DBlk)
abbrev expr:Expr:=.DictComp B.key B.val [⟨B.tgt,B.src,B.cs,0⟩] B.sc B.pos
section
variable (prog:Program) (w:World) (A:Around) (env:Env) (it:Value) (D:Addr)
def Lays (J:Shared->Prop):Bool->Shared->Prop
 | false,s=>J s
 | true,s=>Blk.Tame prog w A (eval B.key env) (fun x=>Blk.Tame prog w A (eval B.val env) fun y=>Blk.Tame prog w A (dictSet D x y) fun _=>J) s
def Takes (J:Shared->Prop) (v:Value):Shared->Prop :=
 Blk.Tame prog w A (letOwnedTupleGo B.tgt it v) fun _=>Blk.Tame prog w A (assign B.tgt env v) fun _=>Blk.Tame prog w A (allTests env B.cs) (B.Lays prog w A env D J)
def Next (Dn J:Shared->Prop):Option Value->Shared->Prop
 | none=>Dn
 | some v=>B.Takes prog w A env it D J v
end
theorem loops {B:DBlk} {prog:Program} {w:World} {A:Around} {env:Env} {it:Value} {D:Addr} {R:Result->Shared->Prop} (G:Nat->Shared->Prop)
  (turn:∀ k t,G k t->Blk.Tame prog w A (pyNext it) (B.Next prog w A env it D (R (.ok .next)) fun u=>∃ j,j < k/\G j u) t)
  {k:Nat} {t:Shared} (g:G k t):codeAny (model prog w) A (.compLoop B.expr 0 it (.ref D) env) R t:=by
 have one:∀ k t,G k t->Blk.Tame prog w A (compTurn B.expr 0 it (.ref D) env) (fun x t'=>match x with | .done r=>R (.ok r) t' | .again c=>c=.compLoop B.expr 0 it (.ref D) env/\∃ j,j < k/\G j t') t:=by
  intro k t g
  rw [show B.expr=.DictComp B.key B.val [⟨B.tgt,B.src,B.cs,0⟩] B.sc B.pos from rfl,compTurn_dict]
  apply wpAny_bind;apply wpAny_standAt;apply wpAny_bind
  refine thn (turn k t g) fun x t1 h1=>?_
  match x,h1 with
  | none,h1=>exact wpAny_pure h1
  | some v,h1 =>
   apply wpAny_bind;refine thn h1 fun _ t2 h2=>?_
   apply wpAny_bind;refine thn h2 fun _ t3 h3=>?_
   apply wpAny_bind;refine thn h3 fun b t4 h4=>?_
   match b,h4 with
   | false,h4=>exact wpAny_pure ⟨rfl,h4⟩
   | true,h4 =>
    apply wpAny_bind;apply wpAny_bind
    refine thn h4 fun y t5 h5=>?_
    apply wpAny_bind;apply wpAny_holding
    refine thn h5 fun z t6 h6=>?_
    apply wpAny_bind;apply wpAny_standAt;apply wpAny_holding
    refine thn h6 fun _ t7 h7=>?_
    exact wpAny_pure ⟨rfl,h7⟩
 exact codeAny_loop rfl G (fun k t g=>wpAny_noted (wpAny_mono (one k t g) (fun _ _ q=>q) fun _ _ f=>f.elim)) k g
end DBlk
def dcLoop (own : List Str) (fr : List Nat) (g : TG) (tt : TT) (tk te : TE) (σ : St) (Q : VK) (J : It) (H1 : Hp) : Prop :=
  ∃ W : Nat → Nat → List (Key × V) → Hp → Prop, (∃ m, W 0 m [] H1) ∧ ∀ i m kvs H2, W i m kvs H2 → kvs.length ≤ sizeLine ∧
    ((J.stop i H2 ∧ ∀ D, H2 D = none → Q (.ref D) (upd H2 D (.dK kvs))) ∨
     (J.go i H2 ∧ ∀ x H3, J.yld i H2 x H3 → g x (cSt own fr σ) H3 fun σ4 H4 => tt σ4 H4 fun b H5 => if b = true then tk σ4 H5 fun y H6 => te σ4 H6 fun z H7 => ∃ k, y = kV k ∧ ∃ m', m' < m ∧ W (i + 1) m' (putK kvs k z) H7 else ∃ m', m' < m ∧ W (i + 1) m' kvs H5))
def tDC (own:List Str) (fr:List Nat) (wi:TI) (g:TG) (tt:TT) (tk te:TE):TE:=fun σ H Q=>wi σ H (dcLoop own fr g tt tk te σ Q)
section
variable {X:Cx} {own:List Str} {fr:List Nat} {sc:Scope} {tg iter kx vx:Expr} {ifs:List Expr} {pos:Pos} {wi:TI} {g:TG} {tt:TT} {tk te:TE}
theorem dc_core {pins:List (Addr × Obj)} {σ:St} {H2:Hp} {s2:Shared} {Q:VK} {it:Addr} {fp:List Addr} {tn:Nat->Heap->Prop} {J:It} {RR:Value->Addr->Result->Shared->Prop} {E:Value->Shared->Prop} (hc:X.calm=true) (S:CompSc X own fr sc) (gk:GK own.length g)
  (hg:∀ s H fp,PG (cxC X own fr sc s H fp) tg g) (ht:∀ s H fp,PIfs (cxC X own fr sc s H fp) ifs tt) (hk:∀ s H fp,PE (cxC X own fr sc s H fp) kx tk) (he:∀ s H fp,PE (cxC X own fr sc s H fp) vx te)
  (I2:Inv X pins σ H2 s2) (T:Turn X.prog X.w X.K tg J fp it tn) (st2:tn 0 s2.heap) (f2:∀ b∈fp,FpOk X pins H2 b) (L:dcLoop own fr g tt tk te σ Q J H2)
  (hRR:∀ D C s',(∃ m,s'.heap.Ns C m)->@LE.le Nat _ s2.heap.objs.size C->(∃ H',H' C=none/\Q (.ref D) H'/\∀ h' tk,Heap.SameBut C s'.heap h'->Inv X pins σ H' { s' with heap:=h',toks:=tk })->RR (.ref D) C (.ok .next) s') :
  wpAny (model X.prog X.w) X.A newDict (fun acc s₃=>wpAny (model X.prog X.w) X.A (newFunctionEnv sc X.env.globals (clOf X.env sc.names []) [] X.env.qual none .none (some X.env)) (fun cenv s₄ =>
   codeAny (model X.prog X.w) X.A (.compStart (.DictComp kx vx [⟨tg,iter,ifs,0⟩] sc pos) 0 (.ref it) acc { cenv with scope:=relabel sc X.env }) (RR acc cenv.locals) s₄) E s₃) E s2:=by
 obtain ⟨W,⟨m0,w0⟩,turn⟩:=L
 refine wpAny_newObj_type (newEnv_comp ?_)
 dsimp only
 generalize hh1:s2.heap.push { cls:=.type "dict",dict:=none,data:=.dict #[] }=h1
 have hz:h1.objs.size=s2.heap.objs.size+1:=by rw [<- hh1,Heap.size_push]
 have hk1:∀ b o,s2.heap.get? b=some o->h1.get? b=some o:=fun b o e=>by rw [<- hh1];exact Heap.get?_push_of_some _ e
 have hD1:h1.get? s2.heap.objs.size=some { cls:=.type "dict",data:=.dict #[] }:=by rw [<- hh1];exact Heap.get?_push_size _ rfl
 have hfl:∀ b∈fp,@LT.lt Nat _ b s2.heap.objs.size:=fun b hb=>by
  obtain ⟨o,e,_⟩:=T.obj _ _ st2 b hb
  exact Heap.lt_size e
 have I3:=inv_comp I2 S f2 hz hk1 hfl
 rw [hz]
 generalize hY:cxC X own fr sc s2 H2 fp=Y at I3
 have hD3:(hC s2 sc h1).get? s2.heap.objs.size=some { cls:=.type "dict",data:=.dict #[] }:=pushCells_keeps _ _ _ _ (Heap.get?_push_of_some _ hD1)
 have st3:tn 0 (hC s2 sc h1):=T.keep _ _ _ st2 fun b _ o e=>pushCells_keeps _ _ _ _ (Heap.get?_push_of_some _ (hk1 b o e))
 have eP:Y.prog=X.prog:=by rw [<- hY];rfl
 have eW:Y.w=X.w:=by rw [<- hY];rfl
 have eK:Y.K=X.K:=by rw [<- hY];rfl
 have eA:Y.A=X.A:=by rw [<- hY];rfl
 have eX:Y.xe=Nev:=by rw [<- hY];rfl
 have ecm:Y.calm=true:=by rw [<- hY];exact hc
 have eEnv:({ scope:=relabel sc X.env,locals:=s2.heap.objs.size+1,globals:=X.env.globals,cells:=cellsFrom (s2.heap.objs.size+1+1) sc.names (clOf X.env sc.names []),qual:=X.env.qual,func:=none,code:=X.env.code,frame:=X.env.frame,builtins:=X.env.builtins }:Env)=Y.env:=by rw [<- hY];rfl
 have eL:Y.env.locals=s2.heap.objs.size+1:=by rw [<- hY];rfl
 rw [eEnv]
 have hg':PG Y tg g:=hY ▸ hg s2 H2 fp
 have ht':PIfs Y ifs tt:=hY ▸ ht s2 H2 fp
 have he':PE Y vx te:=hY ▸ he s2 H2 fp
 have hk':PE Y kx tk:=hY ▸ hk s2 H2 fp
 have dfp:s2.heap.objs.size ∉ fp:=fun z=>Nat.lt_irrefl _ (hfl _ z)
 have dC:s2.heap.objs.size≠s2.heap.objs.size+1:=Nat.ne_of_lt (Nat.lt_succ_self _)
 have cellN:∀ x c,Y.env.cells.lookup x=some c->c≠s2.heap.objs.size:=fun x c e z=>by
  obtain ⟨v,o,q,d⟩:=I3.cell x c e
  rw [z] at q
  have q':=hD3.symm.trans q
  cases q'
  cases d
 have hDfs:s2.heap.objs.size ∉ Y.fs:=by
  rw [<- hY]
  intro z
  rcases List.mem_cons.mp (I2.stkSub _ z) with e | e
  ·exact Nat.lt_irrefl _ (by have:=I2.lt;rw [<- e] at this;exact this)
  ·exact I2.nofs (Nat.le_refl _) e
 have hD0:@LE.le Nat _ Y.s₀.heap.objs.size s2.heap.objs.size:=by rw [<- hY];exact Nat.le_refl _
 have fpY:∀ {H':Hp} {pp:List (Addr × Obj)},(∀ b∈fp,H' b=none)->(∀ p∈pp,p.1 ∉ fp)->∀ b∈fp,FpOk Y pp H' b:=fun {H' pp} hn hp b hb=>by
  refine ⟨hn b hb,?_,?_,?_,?_,fun p hq z=>?_⟩
  ·have:=hfl b hb;rw [eL];intro z;have z':@Eq Nat b (s2.heap.objs.size+1):=z;omega
  ·rw [<- hY]
   intro z
   rcases List.mem_cons.mp (I2.stkSub _ z) with e | e
   ·exact (f2 b hb).2.1 e
   ·exact (f2 b hb).2.2.1 e
  ·exact .inl (by rw [<- hY];exact hb)
  ·exact (I3.ok.exf b (by rw [<- hY];exact hb)).2
  ·rcases List.mem_append.mp hq with q | q
   ·have:p∈([]:List (Addr × Obj)):=by rw [<- hY] at q;exact q
    exact nomatch this
   ·exact hp p q (z ▸ hb)
 have pinD:∀ {H':Hp} {s':Shared} {σ':St} {ob:Obj},Inv Y [] σ' H' s'->H' s2.heap.objs.size=none->s'.heap.get? s2.heap.objs.size=some ob->(∀ v,ob.data≠.cell v)->Inv Y [(s2.heap.objs.size,ob)] σ' H' s':=fun {H' s' σ' ob} J0 hn e d =>
  J0.pins_of fun p hp=>by
   have:p=(s2.heap.objs.size,ob):=by simpa using hp
   subst this
   exact ⟨e,hn,by rw [eL];exact dC,hDfs,d⟩
 have fpp:∀ {ob:Obj} (p:Addr × Obj),p∈[(s2.heap.objs.size,ob)]->p.1 ∉ fp:=fun {ob} p hp=>by
  have:p=(s2.heap.objs.size,ob):=by simpa using hp
  subst this;exact dfp
 have loop:codeAny (model X.prog X.w) X.A (.compLoop (.DictComp kx vx [⟨tg,iter,ifs,0⟩] sc pos) 0 (.ref it) (.ref s2.heap.objs.size) Y.env) (RR (.ref s2.heap.objs.size) (s2.heap.objs.size+1)) { s2 with heap:=hC s2 sc h1 }:=by
  have hD4:(hC s2 sc h1).DictOf (mixKind X.prog X.w) s2.heap.objs.size []:=(show h1.DictOf (mixKind X.prog X.w) s2.heap.objs.size [] from hh1 ▸ Heap.DictOf.new s2.heap).keep fun b o e=>pushCells_keeps _ _ _ _ (Heap.get?_push_of_some _ e)
  refine DBlk.loops (B:=⟨kx,vx,tg,iter,ifs,sc,pos⟩) (fun n s'=>∃ i kvs vs H',W i n kvs H'/\Inv Y [] (cSt own fr σ) H' s'/\tn i s'.heap/\(∀ b∈fp,H' b=none)/\H' s2.heap.objs.size=none/\s'.heap.DictOf (mixKind X.prog X.w) s2.heap.objs.size vs/\KV kvs vs) ?_ (k:=m0)
   ⟨0,[],[],H2,w0,I3,st3,fun b hb=>(f2 b hb).1,I2.hok.fresh (Nat.le_refl _),hD4,.nil⟩
  rintro n s' ⟨i,kvs,vs,H',w',J0,st',fr',hDn,hDo,rv⟩
  obtain ⟨hyl,cases'⟩:=turn i n kvs H' w'
  obtain ⟨ob,es,ep,hob,hexd,hdat,hkeys,hpairs,hnod⟩:=hDo
  have hnc:∀ v,ob.data≠.cell v:=fun v z=>by rw [hdat] at z;cases z
  have J1:=pinD J0 hDn hob hnc
  rcases cases' with ⟨stop,fin⟩ | ⟨go,step⟩
  ·have d0:=T.done Y eP eW eK ecm i _ s' _ H' Nev J1 (fpY fr' fpp) st' stop
   rw [eA] at d0
   refine wpAny_mono d0 (fun r s4 ⟨hr,J4⟩=>?_) fun _ _ z=>z
   subst hr
   have pD:=(J4.pin (s2.heap.objs.size,_) (List.mem_append_right _ List.mem_cons_self)).1
   refine hRR _ _ s4 ?_ (Nat.le_succ _) ⟨upd H' s2.heap.objs.size (.dK kvs),?_,fin _ hDn,fun h' tk hs=>?_⟩
   ·obtain ⟨m,hn,_⟩:=J4.loc
    rw [eL] at hn
    exact ⟨m,hn⟩
   ·rw [upd_ne (Ne.symm dC),<- eL];exact J4.free
   ·subst hY
    have hO:ObjOk X.prog X.w (upd H' s2.heap.objs.size (.dK kvs)) h' s2.heap.objs.size (.dK kvs):=⟨hyl,beq_eq_false_iff_ne.mpr (Ne.symm (Nat.ne_of_lt I2.big)),vs,rv,ob,es,ep,(hs.2 _ dC).trans pD,hexd,hdat,hkeys,hpairs,hnod⟩
    exact inv_back I2 f2 J4 (Nat.le_refl _) hDn dC hs hO tk
  ·have d0:=T.item Y eP eW eK ecm i _ s' _ H' Nev J1 (fpY fr' fpp) st' go
   rw [eA] at d0
   refine wpAny_mono d0 (fun r s4 ⟨u,hr,h4⟩=>?_) fun _ _ z=>z
   subst hr
   refine wpAny_mono h4 (fun _ s5 ⟨x,H5,J5,r5,y5,st5,fr5⟩=>?_) fun _ _ z=>z
   have J5':=J5.pinned (fpY fr5 fpp) (T.obj _ _ st5)
   have s1:=hg' _ s5 _ H5 x u _ J5' r5 (gk _ _ _ _ (step x H5 y5))
   rw [eP,eW,eA,eX] at s1
   refine wpAny_mono s1 (fun _ s6 ⟨σ6,H6,J6,q6,kp6⟩=>?_) fun _ _ z=>z
   have s2':=ht' _ s6 σ6 H6 _ J6 q6
   rw [eP,eW,eA,eX] at s2'
   refine wpAny_mono s2' (fun ok s7 ⟨H7,J7,q7⟩=>?_) fun _ _ z=>z
   have low:∀ {H8:Hp} {s8:Shared},Inv Y ([(s2.heap.objs.size,ob)]++pinsAt fp s5.heap) σ6 H8 s8 ->
     Inv Y (pinsAt fp s5.heap) σ6 H8 s8/\H8 s2.heap.objs.size=none/\s8.heap.get? s2.heap.objs.size=some ob/\(∀ b∈fp,H8 b=none)/\tn (i+1) s8.heap:=fun {H8 s8} J8=>by
    have p8:=J8.pin (s2.heap.objs.size,_) (List.mem_append_right _ (List.mem_append_left _ List.mem_cons_self))
    refine ⟨J8.pins_of fun p hp=>J8.pin p (List.mem_append_right _ (List.mem_append_right _ hp)),p8.2.1,p8.1,fun b hb=>?_,T.keep _ _ _ st5 fun b hb o e=>(J8.pin (b,o) (List.mem_append_right _ (List.mem_append_right _ (mem_pinsAt hb e)))).1⟩
    obtain ⟨o,e,d⟩:=T.obj _ _ st5 b hb
    exact (J8.pin (b,o) (List.mem_append_right _ (List.mem_append_right _ (mem_pinsAt hb e)))).2.1
   have weak:∀ {H8:Hp} {s8:Shared} {pp:List (Addr × Obj)},Inv Y pp σ6 H8 s8->Inv Y [] (cSt own fr σ) H8 s8:=fun {H8 s8 pp} J8=>(J8.weak kp6.1.symm (fun j v e=>by
    by_cases hj:j < own.length
    ·exfalso
     unfold cSt at e
     rw [List.getElem?_append_left (by simpa using hj),List.getElem?_replicate] at e
     split at e<;>cases e
    ·rw [kp6.2 j (Nat.not_lt.mp hj)];exact e)).pins_of fun p hp=>nomatch hp
   cases ok with
   | false =>
    obtain ⟨m',hm,w7⟩:=(show ∃ m',m' < n/\W (i+1) m' kvs H7 by simpa using q7)
    obtain ⟨_,l1,l2,l3,l4⟩:=low J7
    exact ⟨m',hm,i+1,kvs,vs,H7,w7,weak J7,l4,l3,l1,⟨ob,es,ep,l2,hexd,hdat,hkeys,hpairs,hnod⟩,rv⟩
   | true =>
    have q7':tk σ6 H7 fun y H6=>te σ6 H6 fun z H7=>∃ k,y=kV k/\∃ m',m' < n/\W (i+1) m' (putK kvs k z) H7:=by simpa using q7
    have s3:=hk' _ s7 σ6 H7 _ J7 q7'
    rw [eP,eW,eA,eX] at s3
    show wpAny _ _ _ _ _ _
    refine wpAny_mono s3 (fun yv s8 ⟨y,H8,J8,r8,q8⟩=>?_) fun _ _ z=>z
    have s4':=he' _ s8 σ6 H8 _ J8 q8
    rw [eP,eW,eA,eX] at s4'
    refine wpAny_mono s4' (fun zv s9 ⟨z,H9,J9,r9,ky,ey,m',hm,w9⟩=>?_) fun _ _ z=>z
    subst ey
    obtain ⟨J9a,l1,l2,l3,l4⟩:=low J9
    refine wpAny_dictSet_pairs (knd:=mixKind X.prog X.w) (hsz:=by rw [<- rv.length];exact hyl) (kV_is r8) (⟨ob,es,ep,l2,hexd,hdat,hkeys,hpairs,hnod⟩:s9.heap.DictOf (mixKind X.prog X.w) s2.heap.objs.size vs) fun h' hD' hs'=>?_
    have J10:Inv Y [] (cSt own fr σ) H9 { s9 with heap:=h',toks:=s9.toks+1 }:=by
     refine (weak J9a).turned (t':=s9.toks+1) (it:=s2.heap.objs.size) (fun b o hb e=>(hs'.2 b hb).trans e) l1 (by rw [eL];exact dC) (.inr hD0) cellN fun p hp=>?_
     have:p∈([]:List (Addr × Obj)):=by rw [<- hY] at hp;exact hp
     exact nomatch this
    refine ⟨m',hm,i+1,putK kvs ky z,stored vs ky zv,H9,w9,J10,?_,l3,l1,hD',rv.put ky r9⟩
    exact T.keep _ _ _ l4 fun b hb o e=>(hs'.2 b (fun z=>dfp (z ▸ hb))).trans e
 exact codeAny_compStart_dict loop (T.self X.A 0 _ _ _ st3 loop)
theorem ps_setD {spos pos':Pos} {i:Nat} {x:Str} (own:List Str) (fr:List Nat) (hN:X.N.Nodup) (hix:X.N[i]?=some x) (hx:X.env.scope.names.lookup x=some .local) (hc:X.calm=true) (S:CompSc X own fr sc) (gk:GK own.length g) (hi:PI X tg iter wi)
  (hg:∀ s H fp,PG (cxC X own fr sc s H fp) tg g) (ht:∀ s H fp,PIfs (cxC X own fr sc s H fp) ifs tt) (hk:∀ s H fp,PE (cxC X own fr sc s H fp) kx tk) (he:∀ s H fp,PE (cxC X own fr sc s H fp) vx te)
  (hsw:swapsWith (.DictComp kx vx [⟨tg,iter,ifs,0⟩] sc pos) (some (.Name x pos')) spos.line X.env=pure true:=by rfl)
  (hs:∀ x,foldedSetIterable iter X.env x=pure x:=by intro _;rfl):PS X (.Assign [.Name x pos'] (.DictComp kx vx [⟨tg,iter,ifs,0⟩] sc pos) spos) (tAsg (tDC own fr wi g tt tk te) (gName i)):=by
 intro pins s σ H D I h
 rw [exec_Assign_Name_used _ _ _ _ hsw]
 apply wpAny_bind;apply wpAny_standAt;apply wpAny_bind
 show wpAny _ _ (comprehension (.DictComp kx vx [⟨tg,iter,ifs,0⟩] sc pos) sc X.env _ newDict false (eval iter X.env) (some (assign (.Name x pos') X.env)) >>= _) _ _ s
 apply wpAny_bind
 have hclos:closureFor sc X.env=pure (clOf X.env sc.names []):=closureFor_of fun y hy hf=>I.ok.has y.1 (by
  rcases S.fre y hy hf with q | q
  ·exact .inl q
  ·exact .inr q)
 refine wpAny_mono (wpAny_comprehension_free (use:=some (assign (.Name x pos') X.env)) (Q:=fun _ s'=>SP X pins D .next s') rfl hs hclos S.kind (fun y hy hl=>lookup_of_mem_nd S.nd (by rw [<- hl];exact hy)) ?_) (fun _ s' q=>wpAny_pure (wpAny_pure q)) fun _ _ z=>z
 refine thn (hi pins s σ H _ I h) fun v s1 h1=>thn h1 fun itv s2 h2=>?_
 obtain ⟨it,fp,tn,J,H2,e,I2,T,st2,f2,L⟩:=h2
 subst e
 exact dc_core hc S gk hg ht hk he I2 T st2 f2 L fun D0 C s' ns le h=>stored_use (R:=D.nx) I2 hN hix hx ns le h
end
theorem dc_list {K:PySem.W.Frag} {a:Addr} {xs:List V} {own:List Str} {fr:List Nat} {g:TG} {tt:TT} {tk te:TE} {σ:St} {Q:VK} {H:Hp} (Pv:Nat->List (Key × V)->Hp->Prop) (h0:Pv 0 [] H) (hlen:∀ i kvs H,i<=xs.length->Pv i kvs H->kvs.length<=sizeLine)
  (hl:∀ i kvs H,i<=xs.length->Pv i kvs H->SqL K H a xs)
  (hs:∀ i x kvs H (R:List (Key × V)->Hp->Prop),xs[i]?=some x->Pv i kvs H->(∀ kvs' H',Pv (i+1) kvs' H'->R kvs' H')->g x (cSt own fr σ) H fun σ4 H4=>tt σ4 H4 fun b H5=>if b=true then tk σ4 H5 fun y H6=>te σ4 H6 fun z H7=>∃ k,y=kV k/\R (putK kvs k z) H7 else R kvs H5)
  (hd:∀ kvs H,Pv xs.length kvs H->∀ D,H D=none->Q (.ref D) (upd H D (.dK kvs))):dcLoop own fr g tt tk te σ Q (Itl K a) H:=by
 refine ⟨fun i m kvs H=>m=xs.length - i/\i<=xs.length/\Pv i kvs H,⟨xs.length,rfl,Nat.zero_le _,h0⟩,?_⟩
 rintro i m kvs H2 ⟨rfl,hi,p⟩
 refine ⟨hlen i kvs H2 hi p,?_⟩
 have q:=hl i kvs H2 hi p
 by_cases h:i < xs.length
 ·refine .inr ⟨⟨xs,xs[i],q,by simp [h]⟩,fun x H3 hy=>?_⟩
  obtain ⟨rfl,hy⟩:=hy
  have z:=hs i x kvs _ (fun kvs' H'=>∃ m',m' < xs.length - i/\(m'=xs.length - (i+1)/\i+1<=xs.length/\Pv (i+1) kvs' H')) (hy xs q) p fun kvs' H' q=>⟨xs.length - (i+1),by omega,rfl,h,q⟩
  exact z
 ·have e:i=xs.length:=by omega
  subst e
  exact .inl ⟨⟨xs,q,Nat.le_refl _⟩,hd kvs H2 p⟩
def tab:List Str->List Addr->List (Key × V)
 | z::zs,l::ls=>(Sum.inr z,V.ref l)::tab zs ls
 | _,_=>[]
theorem tab_len:∀ {zs:List Str} {ls:List Addr},ls.length=zs.length->(tab zs ls).length=zs.length
 | [],[],_=>rfl
 | [],_::_,h=>by simp at h
 | _::_,[],h=>by simp at h
 | z::zs,l::ls,h=>by
  show (tab zs ls).length+1=zs.length+1
  rw [tab_len (by simpa using h)]
theorem tab_snoc:∀ {zs:List Str} {ls:List Addr} (z:Str) (l:Addr),ls.length=zs.length->tab (zs++[z]) (ls++[l])=tab zs ls++[(Sum.inr z,V.ref l)]
 | [],[],_,_,_=>rfl
 | [],_::_,_,_,h=>by simp at h
 | _::_,[],_,_,h=>by simp at h
 | x::zs,y::ls,z,l,h=>by
  show (Sum.inr x,V.ref y)::tab (zs++[z]) (ls++[l])=_
  rw [tab_snoc z l (by simpa using h)]
  rfl
theorem tab_none:∀ {zs:List Str} {ls:List Addr} {z:Str},z ∉ zs->valV (tab zs ls) (Sum.inr z:Key)=none
 | [],_,_,_=>rfl
 | _::_,[],_,_=>rfl
 | x::zs,y::ls,z,h=>by
  have h1:¬ x=z:=fun e=>h (e ▸ List.mem_cons_self)
  show valV ((Sum.inr x,V.ref y)::tab zs ls) _=_
  rw [valV_neg (fun e=>h1 (Sum.inr.inj e))]
  exact tab_none fun m=>h (List.mem_cons_of_mem _ m)
theorem tab_at:∀ {zs:List Str} {ls:List Addr} {i:Nat} {z:Str} {l:Addr},zs.Nodup->zs[i]?=some z->ls[i]?=some l->valV (tab zs ls) (Sum.inr z:Key)=some (.ref l)
 | [],_,_,_,_,_,h,_=>by simp at h
 | _::_,[],_,_,_,_,_,h=>by simp at h
 | x::zs,y::ls,0,z,l,_,h1,h2=>by
  have e1:x=z:=by simpa using h1
  have e2:y=l:=by simpa using h2
  subst e1 e2
  exact valV_pos rfl
 | x::zs,y::ls,i+1,z,l,nd,h1,h2=>by
  rw [List.nodup_cons] at nd
  have h1':zs[i]?=some z:=by simpa using h1
  have ne:¬ x=z:=fun e=>nd.1 (e ▸ List.mem_of_getElem? h1')
  show valV ((Sum.inr x,V.ref y)::tab zs ls) _=_
  rw [valV_neg (fun e=>ne (Sum.inr.inj e))]
  exact tab_at nd.2 h1' (by simpa using h2)
theorem nd_at {α:Type} {l:List α} (nd:l.Nodup) {i j:Nat} {x:α} (hi:l[i]?=some x) (hj:l[j]?=some x):i=j:=by
 obtain ⟨h1,e1⟩:=List.getElem?_eq_some_iff.mp hi
 obtain ⟨h2,e2⟩:=List.getElem?_eq_some_iff.mp hj
 exact (List.getElem_inj nd).mp (e1.trans e2.symm)
section
variable {prog:Program} {w:World} {A:Around} {E:Value->Shared->Prop} {s:Shared}
variable {K:Type} [DecidableEq K] {knd:KeyKind prog w K}
end
section
variable {prog:Program} {w:World} {A:Around} {E:Value->Shared->Prop} {s:Shared}
theorem any_choose {src:Source} {n:Nat} {Q:Nat->Shared->Prop} (hn:n≠0) (h:∀ i dr,i < n->Q i { s with drawn:=dr }):wpAny (model prog w) A (choose src n) Q E s:=fun Γ p _=>by
 show Sem.wp _ Γ (.choose src n .pure) _ _ p s
 rw [Sem.wp_choose]
 exact ⟨hn,h _ _ (Nat.mod_lt _ (Nat.pos_of_ne_zero hn))⟩
theorem erase_perm {α:Type}:∀ (xs:List α) (i:Nat) (h:i < xs.length),(xs[i]::xs.eraseIdx i).Perm xs
 | [],_,h=>by simp at h
 | x::xs,0,_=>.refl _
 | x::xs,i+1,h=>(List.Perm.swap x (xs[i]'(by simpa using h)) (xs.eraseIdx i)).trans (List.Perm.cons x (erase_perm xs i (by simpa using h)))
theorem draw_order {α:Type}:∀ (n:Nat) (xs:List α) (s:Shared) (Q:List α->Shared->Prop),xs.length=n->(∀ ys dr,ys.Perm xs->Q ys { s with drawn:=dr })->wpAny (model prog w) A (drawOrder n xs) Q E s
 | 0,xs,s,Q,hl,h=>by
  have e:xs=[]:=List.eq_nil_of_length_eq_zero hl
  subst e
  exact wpAny_pure (h [] s.drawn .nil)
 | n+1,[],s,Q,hl,h=>by simp at hl
 | n+1,x::xs,s,Q,hl,h=>by
  unfold drawOrder
  refine wpAny_bind (any_choose (by simp) fun i dr hi=>?_)
  have e:(x::xs)[i]?=some (x::xs)[i]:=List.getElem?_eq_getElem hi
  rw [e]
  refine wpAny_bind (draw_order n _ _ _ (by rw [List.length_eraseIdx_of_lt hi];simpa using hl) fun ys dr' hp=>?_)
  refine wpAny_pure (h _ dr' ?_)
  exact (List.Perm.cons _ hp).trans (erase_perm _ i hi)
end
theorem lay_led (t:SetTable) (es:Array (Int × Value)) (h:Int) (x:Value):(layNew t es h x).2.1.led=t.led:=by
 unfold layNew
 split
 ·simp only [SetTable.put,SetTable.orStandIn,SetTable.standIn]
  split<;>split<;>rfl
 ·rfl
theorem relay_led (t:SetTable) (es:Array (Int × Value)) (n:Nat):(relayAll t es n).2.1.led=t.led:=by
 unfold relayAll
 split
 ·rename_i t' order e
  unfold SetTable.relaid SetTable.laid at e
  cases hl:SetTable.layClean (SetTable.sizeAbove n - 1) (es.map (·.1)) with
  | none=>rw [hl] at e;cases e
  | some o =>
   rw [hl] at e
   cases e
   dsimp only
   split<;>rfl
 ·rfl
theorem relay_plain (t:SetTable) (es:Array (Int × Value)) (n:Nat) (h:t.plain=false):(relayAll t es n).2.1.plain=false:=by
 unfold relayAll
 split
 ·rename_i t' order e
  unfold SetTable.relaid SetTable.laid at e
  cases hl:SetTable.layClean (SetTable.sizeAbove n - 1) (es.map (·.1)) with
  | none=>rw [hl] at e;cases e
  | some o =>
   rw [hl] at e
   cases e
   dsimp only
   split
   ·exact h
   ·rfl
 ·rfl
section
variable {prog:Program} {w:World} {A:Around} {E:Value->Shared->Prop} {s:Shared}
structure SetX (prog:Program) (w:World) (h:Heap) (a:Addr) (zs:List Str) (led:Bool) (o:Obj) (es:Array (Int × Value)) (ep:Nat) (t:SetTable):Prop where
 ho:h.get? a=some o
 ex:o.ExactSet
 hd:o.data=.set es ep t
 el:ElemsOf (strKind prog w) es.toList
 mem:∀ k,decide (k∈dist zs)=true ↔ ∃ e∈es.toList,(strKind prog w).is k e.2=true
 few:es.size < scanBound
 fits:t.fits es.size=true
 size:es.size=(dist zs).length
 led:t.led=led
 pl:es.size≠0->t.plain=false
theorem SetX.keep {h h':Heap} {a:Addr} {zs:List Str} {led:Bool} {o:Obj} {es:Array (Int × Value)} {ep:Nat} {t:SetTable} (x:SetX prog w h a zs led o es ep t) (k:∀ o,h.get? a=some o->h'.get? a=some o):SetX prog w h' a zs led o es ep t:={ x with ho:=k _ x.ho }
theorem gave_way {b:Bool} {Q:Unit->Shared->Prop} (q:Q () s):wpAny (model prog w) A (match b with | true=>rule "set.scan.the-table-gave-way" | false=>pure ()) Q E s:=by
 cases b
 ·exact wpAny_pure q
 ·exact wpAny_rule q
theorem SetX.add {a:Addr} {z:Str} {tok:Tok} {zs:List Str} {led:Bool} {o:Obj} {es:Array (Int × Value)} {ep:Nat} {t:SetTable} {Q:Bool->Shared->Prop} (x:SetX prog w s.heap a zs led o es ep t) (room:(dist zs).length+1 < scanBound)
  (k:∀ (b:Bool) h' o' es' ep' t',Heap.SameBut a s.heap h'->SetX prog w h' a (zs++[z]) led o' es' ep' t'->Q b { s with heap:=h' }) :
  wpAny (model prog w) A (setAddHashed a (.str z tok) ((strKind prog w).hash z)) Q E s:=by
 have yes:(strKind prog w).is z (.str z tok)=true:=by show Value.isStrOf z (.str z tok)=true;simp [Value.isStrOf]
 unfold setAddHashed setAddHashedIn
 refine wpAny_holding (wpAny_bind (wpAny_setState_of x.ho x.hd x.fits ?_))
 dsimp only
 rw [byScan_of (knd:=strKind prog w) (x:=.str z tok) rfl x.few x.el,if_pos rfl]
 unfold setAddByScan
 refine wpAny_bind (wpAny_bind (wpAny_rule (wpAny_bind (wpAny_setScan_of yes x.ho x.hd x.fits x.el ?_))))
 have isin:=x.mem z
 have ed:dist (zs++[z])=addS (dist zs) z:=dist_snoc zs z
 cases hr:List.findIdx? (fun e=>(strKind prog w).is z e.2) es.toList with
 | some j =>
  dsimp only
  obtain ⟨hj,hpj,_⟩:=List.findIdx?_eq_some_iff_getElem.mp hr
  have hz:z∈dist zs:=of_decide_eq_true (isin.mpr ⟨_,List.getElem_mem hj,hpj⟩)
  have e2:dist (zs++[z])=dist zs:=by rw [ed];unfold addS;rw [if_pos hz]
  refine wpAny_pure (wpAny_pure ?_)
  have:=k false s.heap o es ep t (Heap.SameBut.refl a s.heap) { x with mem:=by rw [e2];exact x.mem,size:=by rw [e2];exact x.size }
  exact this
 | none =>
  dsimp only
  have hz:z ∉ dist zs:=fun q=>by
   obtain ⟨e,he,hp⟩:=isin.mp (decide_eq_true q)
   have:=List.findIdx?_eq_none_iff.mp hr e he
   rw [hp] at this;cases this
  have perm:=layNew_perm t es ((strKind prog w).hash z) (.str z tok)
  have fit:=layNew_fits t es ((strKind prog w).hash z) (.str z tok)
  have ld:=lay_led t es ((strKind prog w).hash z) (.str z tok)
  generalize layNew t es ((strKind prog w).hash z) (.str z tok)=L at perm fit ld ⊢
  obtain ⟨es1,t1,dummy,gave⟩:=L
  dsimp only at perm fit ld ⊢
  rw [Array.toList_push] at perm
  have el1:ElemsOf (strKind prog w) es1.toList:=(x.el.push yes rfl).perm perm
  have mem1:∀ k',decide (k'∈dist (zs++[z]))=true ↔ ∃ e∈es1.toList,(strKind prog w).is k' e.2=true:=fun k'=>by
   have:=mem_push_iff (knd:=strKind prog w) yes x.mem perm k'
   rw [<- this,ed,Bool.or_eq_true,decide_eq_true_iff,decide_eq_true_iff,decide_eq_true_iff,mem_addS]
  have sz1:es1.size=es.size+1:=by rw [<- Array.length_toList,perm.length_eq,List.length_append,Array.length_toList];rfl
  have few1:es1.size < scanBound:=by rw [sz1,x.size];exact room
  have size1:es1.size=(dist (zs++[z])).length:=by rw [sz1,ed,len_addS,if_neg hz,x.size]
  refine wpAny_bind (gave_way ?_)
  have tail:∀ t2:SetTable,t2.led=led->t2.plain=false->t2.fits es1.size=true->wpAny (model prog w) A (do
    storeSet a es1 t2
    if (!dummy && t2.tooFull)=true then do
      (match (relayAll t2 es1 (SetTable.grown es1.size)).2.2 with | true=>rule "set.scan.the-table-gave-way" | false=>pure ())
      storeSet a (relayAll t2 es1 (SetTable.grown es1.size)).1 (relayAll t2 es1 (SetTable.grown es1.size)).2.1
      pure (some true)
     else pure (some true)) (fun r s'=>wpAny (model prog w) A (match r with | some added=>pure added | none=>setAddHashedIn a (.str z tok) ((strKind prog w).hash z) 99999) Q E s') E s:=fun t2 l2 p2 f2=>by
   refine wpAny_bind (wpAny_storeSet_of x.ho x.hd ?_ (fits_of_scanBound few1))
   obtain ⟨g1,_⟩:=SetOf_store (knd:=strKind prog w) (S':=fun k'=>decide (k'∈dist (zs++[z]))) x.ho x.ex x.hd el1 mem1 few1 f2
   have sb1:=Heap.SameBut.update s.heap a (Obj.putSet es1 t2)
   split
   ·have rp:=relayAll_perm t2 es1 (SetTable.grown es1.size)
    have rf:=relayAll_fits t2 es1 (SetTable.grown es1.size)
    have rl:=relay_led t2 es1 (SetTable.grown es1.size)
    have rpl:=relay_plain t2 es1 (SetTable.grown es1.size) p2
    generalize relayAll t2 es1 (SetTable.grown es1.size)=Rl at rp rf rl rpl ⊢
    obtain ⟨es2,t3,gv⟩:=Rl
    dsimp only at rp rf rl rpl ⊢
    have sz2:es2.size=es1.size:=by rw [<- Array.length_toList,rp.length_eq,Array.length_toList]
    refine wpAny_bind (gave_way ?_)
    have mem2:∀ k',decide (k'∈dist (zs++[z]))=true ↔ ∃ e∈es2.toList,(strKind prog w).is k' e.2=true:=fun k'=>(mem1 k').trans ⟨fun ⟨e,he,q⟩=>⟨e,rp.mem_iff.mpr he,q⟩,fun ⟨e,he,q⟩=>⟨e,rp.mem_iff.mp he,q⟩⟩
    have few2:es2.size < scanBound:=by rw [sz2];exact few1
    refine wpAny_bind (wpAny_storeSet_of (s:={ s with heap:=s.heap.update a (Obj.putSet es1 t2) }) g1 rfl ?_ (fits_of_scanBound few2))
    obtain ⟨g2,_⟩:=SetOf_store (knd:=strKind prog w) (S':=fun k'=>decide (k'∈dist (zs++[z]))) g1 x.ex rfl (el1.perm rp) mem2 few2 rf
    exact wpAny_pure (wpAny_pure (k true _ _ es2 _ t3 (sb1.trans (Heap.SameBut.update _ a _)) ⟨g2,x.ex,rfl,el1.perm rp,mem2,few2,rf,by rw [sz2];exact size1,by rw [rl];exact l2,fun _=>rpl⟩))
   ·exact wpAny_pure (wpAny_pure (k true _ _ es1 _ t2 sb1 ⟨g1,x.ex,rfl,el1,mem1,few1,f2,size1,l2,fun _=>p2⟩))
  split
  ·refine wpAny_bind ?_
   rw [hashByValue_scannable 8 (x:=.str z tok) rfl]
   refine wpAny_pure ?_
   rename_i tp
   exact tail { t1 with plain:=false } (by show t1.led=led;rw [ld];exact x.led) rfl (SetTable.fits_plain_off fit)
  ·rename_i tp
   refine wpAny_bind (wpAny_pure ?_)
   simp only [↓reduceIte]
   exact tail t1 (by rw [ld];exact x.led) (by simpa using tp) fit
end
def byTxt (w:World):Bool:=w.params.followText "set-order"
section
variable {prog:Program} {w:World} {A:Around} {E:Value->Shared->Prop} {s:Shared}
theorem new_set (a:Value) {Q₁:Value->Shared->Prop} (h:Q₁ (.ref s.heap.objs.size) { s with heap:=s.heap.push { cls:=.type "set",dict:=none,data:=.set #[] 0 (.fresh 0 0 (!byTxt w)) } }) :
  codeAny (model prog w) A (.call (.builtin "set.__new__") ⟨[.type "set",a],[]⟩) (wants Q₁ E) s:=by
 apply codeAny_of_tree
 show wpAny _ A.in1 (checkBuiltinCall "set.__new__" ⟨[.type "set",a],[]⟩ >>= fun _=>again (.builtin "set.__new__" ⟨[.type "set",a],[]⟩)) _ _ s
 apply wpAny_bind
 refine wpAny_of_eq (PySem.F.newCall_set_1 a) ?_
 apply wpAny_pure
 refine ⟨plainId_quiet PySem.F.plain_set_new _,codeAny_builtin PySem.F.entry_set_new ?_⟩
 rw [Around.under_plainId PySem.F.plain_set_new _]
 have self:=sub_set_self
 obtain ⟨hp,g,d,tk,os⟩:=s
 unfold Builtin.«set.__new__» Builtin.Frozenset.newClass
 dsimp only
 wp_walk
 apply wpAny_askSetting
 apply wpAny_pure
 dsimp only [newObj]
 apply wpAny_bind
 apply wpAny_alloc
 apply wpAny_pure
 exact wpAny_pure h
end
section
variable {prog:Program} {w:World} {A:Around} {I S:Addr} {fp wr:List Addr} {G:Array GenState->Array GenState->Prop} {P:Nat->Value->Prop} {St:Nat->Shared->Prop} {zs:List Str} {R:Result->Shared->Prop} {led:Bool}
def TxtX (prog:Program) (w:World) (h:Heap) (S:Addr) (zs:List Str) (led:Bool):Prop:=∃ o es ep t,SetX prog w h S zs led o es ep t
theorem TxtX.keep {h h':Heap} (x:TxtX prog w h S zs led) (k:∀ o,h.get? S=some o->h'.get? S=some o):TxtX prog w h' S zs led:=let ⟨o,es,ep,t,q⟩:=x;⟨o,es,ep,t,q.keep k⟩
theorem texts_inX (W:WalksS prog w A.in1 I fp wr G zs.length P St) (off:S ∉ fp) (hz:∀ i v,P i v->∃ z t,zs[i]?=some z/\v=.str z t) (small:zs.length+1 < scanBound) :
  ∀ (left i:Nat) (s:Shared),i+left=zs.length->St i s->TxtX prog w s.heap S (zs.take i) led ->
   (∀ s',Moved (S::wr) G s s'->TxtX prog w s'.heap S zs led->R (.ok (.ret .none)) s')->codeAny (model prog w) A (.builtin "set.update.loop" ⟨[.ref S,.ref I],[]⟩) R s
 | 0,i,s,hi,st,x,k=>by
  have e:zs.take i=zs:=List.take_of_length_le (by omega)
  rw [show i=zs.length by omega] at st
  refine codeAny_builtin F.entry_set_update_loop ?_
  rw [Around.under_plainId F.plain_set_update_loop _]
  apply wpAny_bind
  refine W.done s _ _ st fun s' m=>?_
  exact wpAny_pure (k s' (m.mono fun b hb=>List.mem_cons_of_mem _ hb) (by rw [e] at x;exact x.keep fun o ho=>m.heap S o (fun hs=>off (W.sub _ hs)) ho))
 | left+1,i,s,hi,st,x,k=>by
  refine codeAny_builtin F.entry_set_update_loop ?_
  rw [Around.under_plainId F.plain_set_update_loop _]
  apply wpAny_bind
  refine W.item i s _ _ (by omega) st fun v s1 p st1 m=>?_
  obtain ⟨z,t,ez,rfl⟩:=hz i v p
  obtain ⟨o,es,ep,tb,x1⟩:=x.keep fun o ho=>m.heap S o (fun hs=>off (W.sub _ hs)) ho
  have et:zs.take (i+1)=zs.take i++[z]:=by rw [List.take_add_one,ez];rfl
  have yes:(strKind prog w).is z (.str z t)=true:=by show Value.isStrOf z (.str z t)=true;simp [Value.isStrOf]
  show wpAny _ A.in1 (holding [Value.str z t] (setAdd S (.str z t)) >>= _) _ _ s1
  apply wpAny_bind;apply wpAny_holding
  show wpAny _ A.in1 (holding _ _) _ _ _
  apply wpAny_holding;apply wpAny_bind
  refine (strKind prog w).pyHash yes ?_
  have few:=dist_le (zs.take i)
  rw [List.length_take] at few
  refine SetX.add (s:={ s1 with toks:=s1.toks+1 }) x1 (by omega) fun _ h2 o2 es2 ep2 t2 sb x2=>?_
  refine wpAny_pure ⟨plainId_quiet F.plain_set_update_loop _,texts_inX W off hz small left (i+1) _ (by omega) ?_ ⟨o2,es2,ep2,t2,by rw [et];exact x2⟩ fun s3 m3 x3=>?_⟩
  ·exact W.frame _ s1 _ _ st1 (Nat.le_succ _) fun b hb o e=>(sb.2 b fun z'=>off (z' ▸ hb)).trans e
  ·refine k s3 (Moved.trans W.gtrans ((m.mono fun b hb=>List.mem_cons_of_mem _ hb).then_heap (Nat.le_succ _) fun b o hb e=>?_) m3) x3
   exact (sb.2 b fun z'=>hb (by rw [z'];exact List.mem_cons_self)).trans e
end
theorem sub_tup_set:isSubtype (.type "tuple") (.type "set")=pure false:=by rw [isSubtype_type];kernel_rfl
theorem sub_tup_frozen:isSubtype (.type "tuple") (.type "frozenset")=pure false:=by rw [isSubtype_type];kernel_rfl
section
variable {prog:Program} {w:World} {A:Around} {E:Value->Shared->Prop} {s:Shared}
theorem setX_list {l:Addr} {its:List Value} {zs:List Str} {Q:Value->Shared->Prop} (hh:A.handled=none) (hl:s.heap.IsList l its.toArray) (hz:StrsAre its zs) (small:zs.length+1 < scanBound)
  (h:∀ (h':Heap) (tk:Nat),TxtX prog w h' s.heap.objs.size zs (!byTxt w)->(∀ b o,s.heap.get? b=some o->h'.get? b=some o)->Q (.ref s.heap.objs.size) { s with heap:=h',toks:=tk }) :
  wpAny (model prog w) A (call (.type "set") [.ref l]) Q E s:=by
 refine made_by PySem.F.called_set (PySem.F.typeCall_set_1 _) (new_set (.ref l) ?_)
 generalize hh1:s.heap.push { cls:=.type "set",dict:=none,data:=.set #[] 0 (.fresh 0 0 (!byTxt w)) }=h1
 have kp:∀ b o,s.heap.get? b=some o->h1.get? b=some o:=fun b o e=>by rw [<- hh1];exact Heap.get?_push_of_some _ e
 have sz:h1.objs.size=s.heap.objs.size+1:=by rw [<- hh1];exact Heap.size_push ..
 have new:h1.get? s.heap.objs.size=some { cls:=.type "set",dict:=none,data:=.set #[] 0 (.fresh 0 0 (!byTxt w)) }:=by rw [<- hh1];exact Heap.get?_push_size _ rfl
 have ty:({ s with heap:=h1 }:Shared).TypeIs (.ref s.heap.objs.size) "set" := ⟨_,new,rfl⟩
 refine ⟨ty,codeAny_call_builtin PySem.F.called_set.init.plain PySem.F.entry_set_init (check_set_init_1 ty ?_)⟩
 have el:its.length=zs.length:=strs_len hz
 obtain ⟨⟨c,d,dt,sl⟩,ho,rfl,n,rfl⟩:=hl
 have ho1:=kp _ _ ho
 have lt:@LT.lt Nat _ l s.heap.objs.size:=Heap.lt_size ho
 have il:h1.IsList l its.toArray:=⟨_,ho1,rfl,n,rfl⟩
 have n1:=PySem.F.sub_list_set
 have n2:=PySem.F.sub_list_frozenset
 have n3:(Value.type "list" == Value.type "dict")=false:=by decide
 unfold Builtin.«set.__init__» noKeywords Builtin.Frozenset.updateFrom
 generalize pi:pyIter=it
 wp_walk
 subst pi
 apply wpAny_pyIter_list il
 apply wpAny_bind;apply wpAny_runValue
 have W:=(Walks.list (prog:=prog) (w:=w) (A:=A.in1.in1.in1) (by simpa using hh) h1.objs.size l (by rw [sz];exact Nat.ne_of_lt (Nat.lt_succ_of_lt lt)) its.toArray).toS
 have e0:its.toArray.size=zs.length:=by rw [List.size_toArray];exact el
 rw [e0] at W
 refine texts_inX (led:=!byTxt w) (zs:=zs) W ?_ (fun i v p=>?_) small zs.length 0 _ (Nat.zero_add _) ⟨⟨_,Heap.get?_push_size _ rfl,rfl,rfl⟩,il.push _⟩ ?_ fun t m x=>?_
 ·rw [sz]
  intro q
  rcases List.mem_cons.mp q with q | q
  ·exact absurd q (Nat.ne_of_lt (Nat.lt_succ_self _))
  ·exact absurd (List.mem_singleton.mp q) (Nat.ne_of_gt lt)
 ·have p':its[i]?=some v:=by simpa using p
  exact strs_at hz p'
 ·exact ⟨_,#[],0,_,Heap.get?_push_of_some _ new,⟨rfl,rfl,rfl⟩,rfl,fun e he=>by simp at he,fun k=>by simp [dist],by decide,by rfl,rfl,rfl,fun q=>absurd rfl q⟩
 ·obtain ⟨h2,g2,d2,t2,o2⟩:=t
  cases (show g2=s.gens from m.gens)
  cases (show d2=s.drawn from m.drawn)
  cases (show o2=s.os from m.os)
  apply wpAny_pure
  refine wpAny_pure ⟨rfl,h h2 t2 x fun b o e=>m.heap b o ?_ (Heap.get?_push_of_some _ (kp b o e))⟩
  have lb:@LT.lt Nat _ b s.heap.objs.size:=Heap.lt_size e
  rw [sz]
  intro q
  rcases List.mem_cons.mp q with q | q
  ·exact absurd q (Nat.ne_of_lt lb)
  ·exact absurd (List.mem_singleton.mp q) (Nat.ne_of_lt (Nat.lt_succ_of_lt lb))
theorem setX_tuple {l:Addr} {its:List Value} {zs:List Str} {Q:Value->Shared->Prop} (hh:A.handled=none) (hl:s.heap.IsTuple l its.toArray) (hz:StrsAre its zs) (small:zs.length+1 < scanBound)
  (h:∀ (h':Heap) (tk:Nat),TxtX prog w h' s.heap.objs.size zs (!byTxt w)->(∀ b o,s.heap.get? b=some o->h'.get? b=some o)->Q (.ref s.heap.objs.size) { s with heap:=h',toks:=tk }) :
  wpAny (model prog w) A (call (.type "set") [.ref l]) Q E s:=by
 refine made_by PySem.F.called_set (PySem.F.typeCall_set_1 _) (new_set (.ref l) ?_)
 generalize hh1:s.heap.push { cls:=.type "set",dict:=none,data:=.set #[] 0 (.fresh 0 0 (!byTxt w)) }=h1
 have kp:∀ b o,s.heap.get? b=some o->h1.get? b=some o:=fun b o e=>by rw [<- hh1];exact Heap.get?_push_of_some _ e
 have sz:h1.objs.size=s.heap.objs.size+1:=by rw [<- hh1];exact Heap.size_push ..
 have new:h1.get? s.heap.objs.size=some { cls:=.type "set",dict:=none,data:=.set #[] 0 (.fresh 0 0 (!byTxt w)) }:=by rw [<- hh1];exact Heap.get?_push_size _ rfl
 have ty:({ s with heap:=h1 }:Shared).TypeIs (.ref s.heap.objs.size) "set" := ⟨_,new,rfl⟩
 refine ⟨ty,codeAny_call_builtin PySem.F.called_set.init.plain PySem.F.entry_set_init (check_set_init_1 ty ?_)⟩
 have el:its.length=zs.length:=strs_len hz
 obtain ⟨⟨c,d,dt,sl⟩,ho,rfl,n,rfl⟩:=hl
 have ho1:=kp _ _ ho
 have lt:@LT.lt Nat _ l s.heap.objs.size:=Heap.lt_size ho
 have il:h1.IsTuple l its.toArray:=⟨_,ho1,rfl,n,rfl⟩
 have n1:=sub_tup_set
 have n2:=sub_tup_frozen
 have n3:(Value.type "tuple" == Value.type "dict")=false:=by decide
 unfold Builtin.«set.__init__» noKeywords Builtin.Frozenset.updateFrom
 generalize pi:pyIter=it
 wp_walk
 subst pi
 apply wpAny_pyIter_tuple il
 apply wpAny_bind;apply wpAny_runValue
 have W:=(Walks.tuple (prog:=prog) (w:=w) (A:=A.in1.in1.in1) (by simpa using hh) h1.objs.size l (by rw [sz];exact Nat.ne_of_lt (Nat.lt_succ_of_lt lt)) its.toArray).toS
 have e0:its.toArray.size=zs.length:=by rw [List.size_toArray];exact el
 rw [e0] at W
 refine texts_inX (led:=!byTxt w) (zs:=zs) W ?_ (fun i v p=>?_) small zs.length 0 _ (Nat.zero_add _) ⟨⟨_,Heap.get?_push_size _ rfl,rfl,rfl⟩,il.push _⟩ ?_ fun t m x=>?_
 ·rw [sz]
  intro q
  rcases List.mem_cons.mp q with q | q
  ·exact absurd q (Nat.ne_of_lt (Nat.lt_succ_self _))
  ·exact absurd (List.mem_singleton.mp q) (Nat.ne_of_gt lt)
 ·have p':its[i]?=some v:=by simpa using p
  exact strs_at hz p'
 ·exact ⟨_,#[],0,_,Heap.get?_push_of_some _ new,⟨rfl,rfl,rfl⟩,rfl,fun e he=>by simp at he,fun k=>by simp [dist],by decide,by rfl,rfl,rfl,fun q=>absurd rfl q⟩
 ·obtain ⟨h2,g2,d2,t2,o2⟩:=t
  cases (show g2=s.gens from m.gens)
  cases (show d2=s.drawn from m.drawn)
  cases (show o2=s.os from m.os)
  apply wpAny_pure
  refine wpAny_pure ⟨rfl,h h2 t2 x fun b o e=>m.heap b o ?_ (Heap.get?_push_of_some _ (kp b o e))⟩
  have lb:@LT.lt Nat _ b s.heap.objs.size:=Heap.lt_size e
  rw [sz]
  intro q
  rcases List.mem_cons.mp q with q | q
  ·exact absurd q (Nat.ne_of_lt lb)
  ·exact absurd (List.mem_singleton.mp q) (Nat.ne_of_lt (Nat.lt_succ_of_lt lb))
end
end L2
namespace L3
open PySem
def Rising (xs:Array Nat):Prop:=∀ i j (hi:i < xs.size) (hj:j < xs.size),i < j->xs[i] < xs[j]
theorem below_go {xs:Array Nat} {j:Nat} (r:Rising xs):∀ (fuel lo hi:Nat),lo<=hi->hi<=xs.size->hi - lo<=fuel->(∀ i (h:i < xs.size),i < lo->xs[i] < j)->(∀ i (h:i < xs.size),hi<=i->j<=xs[i]) ->
  SetTable.below.go xs j fuel lo hi<=xs.size/\(∀ i (h:i < xs.size),i < SetTable.below.go xs j fuel lo hi->xs[i] < j)/\(∀ i (h:i < xs.size),SetTable.below.go xs j fuel lo hi<=i->j<=xs[i])
 | 0,lo,hi,a,b,c,p,q=>by
  have e:lo=hi:=by omega
  subst e
  exact ⟨b,p,q⟩
 | fuel+1,lo,hi,a,b,c,p,q=>by
  rw [SetTable.below.go]
  by_cases h:lo < hi
  ·rw [if_pos h]
   dsimp only
   have hm:(lo+hi) / 2 < xs.size:=by omega
   have e:xs.getD ((lo+hi) / 2) j=xs[(lo+hi) / 2]:=by simp [Array.getD,hm]
   rw [e]
   by_cases hx:xs[(lo+hi) / 2] < j
   ·rw [if_pos hx]
    refine below_go r fuel _ _ (by omega) b (by omega) (fun i hi' hl=>?_) q
    by_cases ie:i=(lo+hi) / 2
    ·subst ie;exact hx
    ·exact Nat.lt_trans (r i _ hi' hm (by omega)) hx
   ·rw [if_neg hx]
    refine below_go r fuel _ _ (by omega) (by omega) (by omega) p (fun i hi' hl=>?_)
    by_cases ie:i=(lo+hi) / 2
    ·subst ie;omega
    ·have:=r _ i hm hi' (by omega);omega
  ·rw [if_neg h]
   have e:lo=hi:=by omega
   subst e
   exact ⟨b,p,q⟩
theorem below_is {xs:Array Nat} (r:Rising xs) (j:Nat):SetTable.below xs j<=xs.size/\(∀ i (h:i < xs.size),i < SetTable.below xs j->xs[i] < j)/\(∀ i (h:i < xs.size),SetTable.below xs j<=i->j<=xs[i]) :=
 below_go r _ _ _ (Nat.zero_le _) (Nat.le_refl _) (by omega) (fun i h z=>absurd z (Nat.not_lt_zero _)) (fun i h z=>absurd h (by omega))
theorem below_at {xs:Array Nat} (r:Rising xs) {i j:Nat} (h:xs[i]?=some j):SetTable.below xs j=i:=by
 obtain ⟨hi,e⟩:=Array.getElem?_eq_some_iff.mp h
 obtain ⟨a,b,c⟩:=below_is r j
 rcases Nat.lt_trichotomy (SetTable.below xs j) i with q | q | q
 ·have:=c _ (by omega) (Nat.le_refl _)
  have:=r _ i (by omega) hi q
  omega
 ·exact q
 ·have:=b i hi q;omega
theorem slot_live {t:SetTable} (r:Rising t.place) {i j:Nat} (h:t.place[i]?=some j):t.slot j=.live i:=by
 unfold SetTable.slot
 rw [below_at r h]
 dsimp only
 rw [h]
 simp
theorem slot_empty {t:SetTable} (d:t.dummies=#[]) {j:Nat} (h:∀ i:Nat,t.place[i]?≠some j):t.slot j=.empty:=by
 unfold SetTable.slot
 dsimp only
 rw [if_neg (by simpa using h _)]
 have e:SetTable.has t.dummies j=false:=by rw [d];rfl
 rw [e]
 rfl
abbrev Probe:=SetTable.Probe
theorem below_step {xs:Array Nat} (r:Rising xs) {i:Nat} (hi:i<=xs.size):SetTable.below xs (if i=0 then 0 else xs.getD (i - 1) 0+1)=i:=by
 obtain ⟨a,b,c⟩:=below_is r (if i=0 then 0 else xs.getD (i - 1) 0+1)
 generalize hj:SetTable.below xs (if i=0 then 0 else xs.getD (i - 1) 0+1)=j at a b c ⊢
 cases i with
 | zero =>
  rcases Nat.eq_zero_or_pos j with h | h
  ·exact h
  ·have:=b 0 (by omega) h
   simp at this
 | succ k =>
  rw [if_neg (by omega),Nat.add_sub_cancel] at b c
  have hk:k < xs.size:=by omega
  have e:xs.getD k 0=xs[k]:=by simp [hk]
  rw [e] at b c
  rcases Nat.lt_trichotomy j (k+1) with h | h | h
  ·have:=c k hk (by omega)
   omega
  ·exact h
  ·have:=b (k+1) (by omega) h
   have:=r k (k+1) hk (by omega) (by omega)
   omega
end L3
namespace L2
open PySem PySem.Spec PyProof.Rows
theorem entry_set_iter:entryFor table "set.__iter__" = some Builtin.«frozenset.__iter__» :=
 entryFor_alias (id':="frozenset.__iter__") (by kernel_rfl) rfl (by decide +kernel) (by kernel_rfl)
theorem slot_si_next:Slot "set_iterator" "__next__" "set_iterator.__next__" :=
 .of (owner:="set_iterator") (n:="__next__") (by rw [typeLookup_type,builtinLookup_eq_fast];kernel_rfl) (by decide +kernel) (by decide +kernel) (by decide +kernel)
  (by first | exact .inl (by decide +kernel) | exact .inr (by decide +kernel)) (by rw [isSubtype_type];kernel_rfl)
theorem entry_si_next:entryFor table "set_iterator.__next__" = some Builtin.«set_iterator.__next__»:=entryFor_of_tree (by kernel_rfl)
theorem args_si_next (a:Value):argsOk "set_iterator.__next__" ⟨[a],[]⟩:=by unfold argsOk;kernel_rfl
theorem slot_si_iter:Slot "set_iterator" "__iter__" "set_iterator.__iter__" :=
 .of (owner:="set_iterator") (n:="__iter__") (by rw [typeLookup_type,builtinLookup_eq_fast];kernel_rfl) (by decide +kernel) (by decide +kernel) (by decide +kernel)
  (by first | exact .inl (by decide +kernel) | exact .inr (by decide +kernel)) (by rw [isSubtype_type];kernel_rfl)
theorem entry_si_iter:entryFor table "set_iterator.__iter__" = some Builtin.«dict_keyiterator.__iter__» :=
 entryFor_alias (id':="dict_keyiterator.__iter__") (by kernel_rfl) rfl (by decide +kernel) (by kernel_rfl)
theorem args_si_iter (a:Value):argsOk "set_iterator.__iter__" ⟨[a],[]⟩:=by unfold argsOk;kernel_rfl
structure SetW (w:World) (h:Heap) (a:Addr) (es:Array (Int × Value)) (ep:Nat) (t:SetTable):Prop where
 ho:∃ o,h.get? a=some o/\o.ExactSet/\o.data=.set es ep t
 fits:t.fits es.size=true
 led:t.led=!byTxt w
 pl:1 < es.size->t.plain=false\/(t.plain=true/\L3.Rising t.place)
theorem SetW.keep {w:World} {h h':Heap} {a:Addr} {es:Array (Int × Value)} {ep:Nat} {t:SetTable} (x:SetW w h a es ep t) (k:∀ o,h.get? a=some o->h'.get? a=some o):SetW w h' a es ep t :=
 let ⟨o,ho,r⟩:=x.ho;{ x with ho:=⟨o,k o ho,r⟩ }
theorem SetW.typeIs {w:World} {s:Shared} {a:Addr} {es:Array (Int × Value)} {ep:Nat} {t:SetTable} (x:SetW w s.heap a es ep t):s.TypeIs (.ref a) "set" := let ⟨o,ho,e,_⟩:=x.ho;⟨o,ho,e.1⟩
theorem pick_go {α:Type} (next:Nat->Nat):∀ (n k:Nat) (left:List α) (out:Array α),left.length=n->(pickOrder.go next n k left out).toList.Perm (out.toList++left)
 | 0,k,left,out,h=>by
  have e:left=[]:=List.eq_nil_of_length_eq_zero h
  subst e;simp [pickOrder.go]
 | n+1,k,left,out,h=>by
  have lt:next k % left.length < left.length:=Nat.mod_lt _ (by omega)
  unfold pickOrder.go
  rw [List.getElem?_eq_getElem lt]
  dsimp only
  refine (pick_go next n (k+1) _ _ (by rw [List.length_eraseIdx_of_lt lt];omega)).trans ?_
  rw [Array.toList_push,List.append_assoc]
  exact List.Perm.append_left _ (erase_perm left _ lt)
theorem pick_perm {α:Type} (next:Nat->Nat) (xs:Array α):(pickOrder next xs).toList.Perm xs.toList:=by
 have h:=pick_go next xs.size 0 xs.toList #[] (by simp)
 simpa [pickOrder] using h
def SIter (h:Heap) (I S:Addr) (first:Value) (i n ep:Nat):Prop :=
 ∃ o,h.get? I=some o/\o.cls=.type "set_iterator" /\ o.data=.fields #[first,.int i 0,.ref S,.int n 0,.int ep 0]
theorem SIter.typeIs {s:Shared} {I S:Addr} {f:Value} {i n ep:Nat} (x:SIter s.heap I S f i n ep):s.TypeIs (.ref I) "set_iterator" := let ⟨o,ho,e,_⟩:=x;⟨o,ho,e⟩
theorem SIter.keep {h h':Heap} {I S:Addr} {f:Value} {i n ep:Nat} (x:SIter h I S f i n ep) (k:∀ o,h.get? I=some o->h'.get? I=some o):SIter h' I S f i n ep:=let ⟨o,ho,r⟩:=x;⟨o,k o ho,r⟩
section
variable {prog:Program} {w:World} {A:Around} {E:Value->Shared->Prop} {s:Shared}
theorem any_byText {Q:Bool->Shared->Prop} (h:Q (byTxt w) s):wpAny (model prog w) A setsByText Q E s:=by
 unfold setsByText
 apply wpAny_bind
 apply wpAny_askSetting
 exact wpAny_pure h
theorem si_stop {I:Addr} {o:Obj} {vs:Array Value} {Q:Option Value->Shared->Prop} (hh:A.handled=none) (ho:s.heap.get? I=some o) (hd:o.data=.fields vs) (h2:2 < vs.size)
  (hQ:∀ h',Heap.ExtBut I s.heap h'->Q none { s with heap:=h' }) :
  wpAny (model prog w) A.in1 (setField (.ref I) 2 .none >>= fun _=>newExc (.type "StopIteration") [] >>= fun e=>raiseNew (α:=Fin) e)
  (fun fin s'=>∃ v,fin=Fin.done (Flow.ret v)/\wpAny (model prog w) A (pure (some v)) Q E s')
  (fun e s'=>wpAny (model prog w) A (do
     let __do_lift <- isInstance e (Value.type "StopIteration")
     if __do_lift=true then pure none else throw e) Q E s') s:=by
 refine wpAny_bind (wpAny_setField ho hd h2 ?_)
 show wpAny _ _ (newExc (.type "StopIteration") [] >>= _) _ _ _
 refine wpAny_bind ?_
 simp only [newExc,newTuple]
 refine wpAny_bind (wpAny_newObj_type ?_ (by size_fits))
 refine wpAny_bind (m:=firstArgMember _ _) (wpAny_of_eq (a:=Value.none) (by first | rfl | (simp only [firstArgMember];rfl)) ?_)
 refine wpAny_newObj_type ?_ (by size_fits)
 simp only [raiseNew]
 refine wpAny_bind (wpAny_handled ?_)
 rw [show A.in1.handled=none from hh]
 refine wpAny_bind (wpAny_pure (wpAny_throw ?_))
 refine wpAny_bind (wpAny_isInstance (T:="StopIteration") (b:=true) ⟨_,Heap.get?_push_size _ rfl,rfl⟩ isSubtype_stop ?_)
 exact wpAny_pure (hQ _ (((Heap.SameBut.update ..).extBut.push _).push _))
theorem si_next_int {I S:Addr} {sl i ep:Nat} {es:Array (Int × Value)} {t:SetTable} {Q:Option Value->Shared->Prop} (hh:A.handled=none) (hit:SIter s.heap I S (.int sl 0) i es.size ep) (x:SetW w s.heap S es ep t) (r:Option (Value × Nat))
  (hn:∀ (Q':Option (Value × Nat)->Shared->Prop) E',Q' r s->wpAny (model prog w) A.in1 (setNext S sl i ep) Q' E' s)
  (h1:∀ v nx h',r=some (v,nx)->SIter h' I S (.int nx 0) (i+1) es.size ep->Heap.SameBut I s.heap h'->Q (some v) { s with heap:=h' })
  (h2:r=none->∀ h',Heap.ExtBut I s.heap h'->Q none { s with heap:=h' }):wpAny (model prog w) A (pyNext (.ref I)) Q E s:=by
 obtain ⟨o,ho,hc,hd⟩:=id hit
 obtain ⟨os,hos,hes,hds⟩:=x.ho
 unfold pyNext
 refine wpAny_bind (wpAny_attempt (wpAny_callSpecial?_slot (name:=Str.ofString "__next__") hit.typeIs slot_si_next
  (wpAny_call_entry slot_si_next hit.typeIs entry_si_next ?_ (args_si_next _))))
 unfold Builtin.«set_iterator.__next__»
 refine wpAny_bind (wpAny_pure ?_)
 refine wpAny_bind (wpAny_fieldsOf ho hd ?_)
 dsimp only
 refine wpAny_bind (wpAny_setEntries_of hos hds x.fits ?_)
 rw [if_neg (by simp)]
 simp only [Int.toNat_natCast]
 refine wpAny_bind (hn _ _ ?_)
 cases r with
 | none=>exact si_stop hh ho hd (by simp) (h2 rfl)
 | some p =>
  obtain ⟨v,nx⟩:=p
  dsimp only
  refine wpAny_bind (wpAny_setField ho hd (by simp) ?_)
  have ho1:=Heap.get?_update_self (Obj.mapFields (·.setIfInBounds 0 (rawInt nx))) ho (Obj.isFreed_of_fields (Obj.data_mapFields hd _))
  have hd1:=Obj.data_mapFields hd (·.setIfInBounds 0 (rawInt nx))
  refine wpAny_bind (wpAny_setField (s:={ s with heap:=_ }) ho1 hd1 (by simp) ?_)
  refine wpAny_pure ⟨_,rfl,wpAny_pure (h1 v nx _ rfl ⟨_,Heap.get?_update_self _ ho1 (Obj.isFreed_of_fields (Obj.data_mapFields hd1 _)),((Obj.cls_mapFields ..).trans (Obj.cls_mapFields ..)).trans hc,?_⟩ ((Heap.SameBut.update ..).trans (Heap.SameBut.update ..)))⟩
  rw [Obj.data_mapFields hd1];simp [rawInt]
theorem si_next_ref {I S T:Addr} {i ep:Nat} {es:Array (Int × Value)} {t:SetTable} {ord:List Nat} {Q:Option Value->Shared->Prop} (hh:A.handled=none) (hit:SIter s.heap I S (.ref T) i es.size ep) (x:SetW w s.heap S es ep t)
  (ht:s.heap.get? T=some { cls:=.type "tuple",data:=.seq (ord.map fun (k:Nat)=>rawInt k).toArray }) (le:∀ k∈ord,k < es.size)
  (h1:∀ k v h',ord[i]?=some k->es[k]?.map (·.2)=some v->SIter h' I S (.ref T) (i+1) es.size ep->Heap.SameBut I s.heap h'->Q (some v) { s with heap:=h' })
  (h2:ord[i]?=none->∀ h',Heap.ExtBut I s.heap h'->Q none { s with heap:=h' }):wpAny (model prog w) A (pyNext (.ref I)) Q E s:=by
 obtain ⟨o,ho,hc,hd⟩:=id hit
 obtain ⟨os,hos,hes,hds⟩:=x.ho
 unfold pyNext
 refine wpAny_bind (wpAny_attempt (wpAny_callSpecial?_slot (name:=Str.ofString "__next__") hit.typeIs slot_si_next
  (wpAny_call_entry slot_si_next hit.typeIs entry_si_next ?_ (args_si_next _))))
 unfold Builtin.«set_iterator.__next__»
 refine wpAny_bind (wpAny_pure ?_)
 refine wpAny_bind (wpAny_fieldsOf ho hd ?_)
 dsimp only
 refine wpAny_bind (wpAny_setEntries_of hos hds x.fits ?_)
 rw [if_neg (by simp)]
 simp only [Int.toNat_natCast]
 have nx:(List.map (fun (k:Nat)=>rawInt k) ord).toArray[i]?=Option.map (fun k:Nat=>rawInt (k:Int)) ord[i]?:=by rw [List.getElem?_toArray,List.getElem?_map]
 refine wpAny_bind ?_
 unfold seqItems?
 refine wpAny_bind (wpAny_load ht (wpAny_pure ?_))
 dsimp only
 rw [nx]
 cases hk:ord[i]? with
 | none =>
  rw [Option.map_none]
  dsimp only
  refine wpAny_bind (wpAny_setField ho hd (by simp) ?_)
  have ho1:=Heap.get?_update_self (Obj.mapFields (·.setIfInBounds 0 (rawInt 0))) ho (Obj.isFreed_of_fields (Obj.data_mapFields hd _))
  have hd1:=Obj.data_mapFields hd (·.setIfInBounds 0 (rawInt 0))
  exact si_stop (s:={ s with heap:=_ }) hh ho1 hd1 (by simp) fun h' e=>h2 hk h' fun b o' hb q=>e b o' hb ((Heap.SameBut.update ..).extBut b o' hb q)
 | some k =>
  have lt:=le k (List.mem_of_getElem? hk)
  dsimp only [Option.map_some,rawInt]
  refine wpAny_bind ?_
  unfold setNextDrawn
  refine wpAny_bind (wpAny_setState_of hos hds x.fits ?_)
  dsimp only
  rw [if_neg (by simp),Int.toNat_natCast,Array.getElem?_eq_getElem lt]
  refine wpAny_pure ?_
  refine wpAny_bind (wpAny_setField ho hd (by simp) ?_)
  refine wpAny_pure ⟨_,rfl,wpAny_pure (h1 k _ _ hk (by rw [Array.getElem?_eq_getElem lt];rfl) ⟨_,Heap.get?_update_self _ ho (Obj.isFreed_of_fields (Obj.data_mapFields hd _)),(Obj.cls_mapFields ..).trans hc,?_⟩ (Heap.SameBut.update ..))⟩
  rw [Obj.data_mapFields hd];simp [rawInt]
theorem next_text {S:Addr} {sl i ep:Nat} {es:Array (Int × Value)} {t:SetTable} (x:SetW w s.heap S es ep t) (hb:byTxt w=true) (Q':Option (Value × Nat)->Shared->Prop) (E':Value->Shared->Prop)
  (h:Q' (((pickOrder (w.params.setOrder S ep) es)[i]?).map fun e=>(e.2,sl)) s):wpAny (model prog w) A (setNext S sl i ep) Q' E' s:=by
 obtain ⟨os,hos,hes,hds⟩:=x.ho
 unfold setNext
 refine wpAny_bind (wpAny_setState_of hos hds x.fits ?_)
 dsimp only
 refine wpAny_bind (any_byText ?_)
 rw [if_pos hb,if_neg (by simp)]
 refine wpAny_bind ?_
 unfold setWalk
 refine wpAny_bind (wpAny_setState_of hos hds x.fits ?_)
 dsimp only
 refine wpAny_bind (any_byText ?_)
 rw [if_pos hb]
 refine wpAny_bind (wpAny_askSetting ?_)
 exact wpAny_pure (wpAny_pure h)
theorem next_few {S:Addr} {sl i ep:Nat} {es:Array (Int × Value)} {t:SetTable} (x:SetW w s.heap S es ep t) (hb:byTxt w=false) (few:¬ 1 < es.size\/t.plain=true) (Q':Option (Value × Nat)->Shared->Prop) (E':Value->Shared->Prop)
  (h:Q' (match es[SetTable.below t.place sl]?,t.place[SetTable.below t.place sl]? with | some (_,x),some j=>some (x,j+1) | _,_=>none) s):wpAny (model prog w) A (setNext S sl i ep) Q' E' s:=by
 obtain ⟨os,hos,hes,hds⟩:=x.ho
 have ld:t.led=true:=by rw [x.led,hb];rfl
 unfold setNext
 refine wpAny_bind (wpAny_setState_of hos hds x.fits ?_)
 dsimp only
 refine wpAny_bind (any_byText ?_)
 rw [hb,if_neg Bool.false_ne_true]
 rw [if_neg (by show ¬ ((!t.plain && decide (es.size > 1))=true);rcases few with few | few<;>simp [few])]
 refine wpAny_bind ?_
 show wpAny _ _ (if (!t.led && !es.isEmpty)=true then (unsupported "set:maker-not-led" : Sem Unit) else pure ()) _ _ _
 rw [if_neg (by rw [ld];simp)]
 exact wpAny_pure (wpAny_pure h)
theorem si_self {I S:Addr} {f:Value} {i n ep:Nat} {Q:Value->Shared->Prop} (hit:SIter s.heap I S f i n ep) (h:Q (.ref I) s):wpAny (model prog w) A (pyIter (.ref I)) Q E s:=by
 refine wpAny_pyIter_slot hit.typeIs slot_si_iter (wpAny_call_entry slot_si_iter hit.typeIs entry_si_iter ?_ (args_si_iter _))
 show wpAny _ _ (ret (.ref I)) _ _ s
 exact wpAny_pure ⟨_,rfl,"set_iterator",_,hit.typeIs,slot_si_next.lookup,h⟩
theorem walk_int {S I T:Addr} {es:Array (Int × Value)} {ep:Nat} {t:SetTable} {ys:List Value} {sl:Nat->Nat} (hIS:S≠I) (len:ys.length=es.size)
  (nx:∀ (A:Around) (s:Shared) (i:Nat) (Q':Option (Value × Nat)->Shared->Prop) (E':Value->Shared->Prop),i<=es.size->SetW w s.heap S es ep t->Q' ((ys[i]?).map fun v=>(v,sl (i+1))) s->wpAny (model prog w) A (setNext S (sl i) i ep) Q' E' s)
  (A:Around) (hh:A.handled=none):WalksS prog w A I [I,S,T] [I] (fun a b=>b=a) es.size (fun i v=>ys[i]?=some v) (fun i s=>SIter s.heap I S (.int (sl i) 0) i es.size ep/\SetW w s.heap S es ep t) where
 sub:=fun b hb=>by simp at hb;simp [hb]
 grefl:=fun _=>rfl
 gtrans:=fun _ _ _ h1 h2=>h2.trans h1
 frame:=fun i s h' tk st _ hk=>⟨st.1.keep fun o e=>hk I (by simp) o e,st.2.keep fun o e=>hk S (by simp) o e⟩
 item:=fun i s Q E hi st hQ=>by
  have lt:i < ys.length:=by omega
  have e:ys[i]?=some ys[i]:=List.getElem?_eq_getElem lt
  refine si_next_int hh st.1 st.2 (some (ys[i],sl (i+1))) (fun Q' E' q=>nx _ s i Q' E' (by omega) st.2 (by rw [e];exact q)) (fun v n h' r hit' hs=>?_) fun r=>nomatch r
  cases r
  exact hQ _ _ e ⟨hit',st.2.keep fun o q=>hs.extBut S o hIS q⟩ ⟨fun b o hb q=>hs.extBut b o (fun z=>hb (by simp [z])) q,rfl,rfl,rfl,Nat.le_refl _⟩
 done:=fun s Q E st hQ=>by
  have e:ys[es.size]?=none:=List.getElem?_eq_none (by omega)
  refine si_next_int hh st.1 st.2 none (fun Q' E' q=>nx _ s _ Q' E' (Nat.le_refl _) st.2 (by rw [e];exact q)) (fun v n h' r _ _=>nomatch r) fun _ h' he=>?_
  exact hQ _ ⟨fun b o hb q=>he b o (fun z=>hb (by simp [z])) q,rfl,rfl,rfl,Nat.le_refl _⟩
 self:=fun i s Q E st hQ=>si_self st.1 hQ
theorem walk_ref {S I T:Addr} {es:Array (Int × Value)} {ep:Nat} {t:SetTable} {ord:List Nat} (hIS:S≠I) (hIT:T≠I) (len:ord.length=es.size) (le:∀ k∈ord,k < es.size)
  (A:Around) (hh:A.handled=none):WalksS prog w A I [I,S,T] [I] (fun a b=>b=a) es.size (fun i v=>(ord.map fun k=>(es[k]?.map (·.2)).getD .none)[i]?=some v)
   (fun i s=>SIter s.heap I S (.ref T) i es.size ep/\SetW w s.heap S es ep t/\s.heap.get? T=some { cls:=.type "tuple",data:=.seq (ord.map fun (k:Nat)=>rawInt k).toArray }) where
 sub:=fun b hb=>by simp at hb;simp [hb]
 grefl:=fun _=>rfl
 gtrans:=fun _ _ _ h1 h2=>h2.trans h1
 frame:=fun i s h' tk st _ hk=>⟨st.1.keep fun o e=>hk I (by simp) o e,st.2.1.keep fun o e=>hk S (by simp) o e,hk T (by simp) _ st.2.2⟩
 item:=fun i s Q E hi st hQ=>by
  refine si_next_ref hh st.1 st.2.1 st.2.2 le (fun k v h' hk hv hit' hs=>?_) fun r=>?_
  ·refine hQ _ _ (by rw [List.getElem?_map,hk];simp [hv]) ⟨hit',st.2.1.keep fun o q=>hs.extBut S o hIS q,hs.extBut T _ hIT st.2.2⟩ ⟨fun b o hb q=>hs.extBut b o (fun z=>hb (by simp [z])) q,rfl,rfl,rfl,Nat.le_refl _⟩
  ·exact absurd (List.getElem?_eq_none_iff.mp r) (by omega)
 done:=fun s Q E st hQ=>by
  refine si_next_ref hh st.1 st.2.1 st.2.2 le (fun k v h' hk _ _ _=>?_) fun _ h' he=>?_
  ·exact absurd hk (by rw [List.getElem?_eq_none (by omega)];simp)
  ·exact hQ _ ⟨fun b o hb q=>he b o (fun z=>hb (by simp [z])) q,rfl,rfl,rfl,Nat.le_refl _⟩
 self:=fun i s Q E st hQ=>si_self st.1 hQ
theorem below_one_0 (p:Nat):SetTable.below #[p] 0=0:=by simp [SetTable.below,SetTable.below.go]
theorem below_one_1 (p:Nat):SetTable.below #[p] (p+1)=1:=by simp [SetTable.below,SetTable.below.go]
theorem arr_one {α:Type} (xs:Array α) (h:xs.size=1):∃ e,xs=#[e]:=by
 obtain ⟨l⟩:=xs
 match l,h with
 | [e],_=>exact ⟨e,rfl⟩
theorem set_iter {S:Addr} {es:Array (Int × Value)} {ep:Nat} {t:SetTable} {Q:Value->Shared->Prop} (x:SetW w s.heap S es ep t) (small:es.size<=sizeLine)
  (h:∀ (I T:Addr) (ys:List Value) (St:Nat->Shared->Prop) (h':Heap) (dr:Drawn),ys.Perm (es.toList.map (·.2))->@LE.le Nat _ s.heap.objs.size I->(T=S\/@LE.le Nat _ s.heap.objs.size T)->(∀ b o,s.heap.get? b=some o->h'.get? b=some o) ->
   @LT.lt Nat _ I h'.objs.size->@LT.lt Nat _ T h'.objs.size ->
   (∀ A:Around,A.handled=none->WalksS prog w A I [I,S,T] [I] (fun a b=>b=a) es.size (fun i v=>ys[i]?=some v) St)->(∀ i s',St i s'->s'.TypeIs (.ref I) "set_iterator")->St 0 { s with heap:=h',drawn:=dr }->Q (.ref I) { s with heap:=h',drawn:=dr }) :
  wpAny (model prog w) A (pyIter (.ref S)) Q E s:=by
 obtain ⟨os,hos,hes,hds⟩:=x.ho
 have ltS:@LT.lt Nat _ S s.heap.objs.size:=Heap.lt_size hos
 refine wpAny_pyIter_slot x.typeIs PySem.F.slot_set_iter (wpAny_call_entry PySem.F.slot_set_iter x.typeIs entry_set_iter ?_ (PySem.F.args_set_iter_1 _))
 unfold Builtin.«frozenset.__iter__» Builtin.Frozenset.slot0 slotArgs
 simp only [List.isEmpty_nil,Bool.not_true,Bool.false_eq_true,↓reduceIte,bind_assoc,List.length_nil,bne_self_eq_false]
 unfold Builtin.Frozenset.addrOf Builtin.Frozenset.sizeOf
 refine wpAny_bind (wpAny_pure ?_)
 dsimp only
 refine wpAny_bind (wpAny_pure ?_)
 refine wpAny_bind (wpAny_bind (wpAny_setEntries_of hos hds x.fits (wpAny_pure ?_)))
 refine wpAny_bind ?_
 unfold setDrawn
 refine wpAny_bind (wpAny_setState_of hos hds x.fits ?_)
 dsimp only
 refine wpAny_bind (any_byText ?_)
 refine wpAny_pure ?_
 show wpAny _ _ (if (!byTxt w && (!t.plain && decide (es.size > 1)))=true then _ else _) _ _ _
 have plainRoad:∀ (ys:List Value) (sl:Nat->Nat),sl 0=0->ys.Perm (es.toList.map (·.2))->(∀ (A:Around) (s:Shared) (i:Nat) (Q':Option (Value × Nat)->Shared->Prop) (E':Value->Shared->Prop),i<=es.size->SetW w s.heap S es ep t->Q' ((ys[i]?).map fun v=>(v,sl (i+1))) s->wpAny (model prog w) A (setNext S (sl i) i ep) Q' E' s) ->
   wpAny (model prog w) A.in1 (do
     let first <- pure (rawInt 0)
     let __do_lift <- setEpoch S
     let __do_lift <- newFields "set_iterator" [first,rawInt 0,Value.ref S,rawInt es.size,rawInt __do_lift]
     ret __do_lift) (fun fin s'=>∃ v,fin=Fin.done (Flow.ret v)/\∃ T' r,s'.TypeIs v T'/\typeLookup (Value.type T') (Str.ofString "__next__")=pure (some r)/\Q v s') E s:=fun ys sl s0 hp nx=>by
  have len:ys.length=es.size:=by rw [hp.length_eq];simp
  refine wpAny_bind (wpAny_pure (wpAny_bind (wpAny_setEpoch_of hos hds x.fits ?_)))
  refine wpAny_bind (wpAny_newObj_type (wpAny_pure ⟨_,rfl,"set_iterator",_,⟨_,Heap.get?_push_size _ rfl,rfl⟩,slot_si_next.lookup,?_⟩))
  have sz:(s.heap.push { cls:=.type "set_iterator",data:=.fields #[rawInt 0,rawInt 0,Value.ref S,rawInt es.size,rawInt ep] }).objs.size=s.heap.objs.size+1:=Heap.size_push ..
  refine h s.heap.objs.size S ys _ _ s.drawn hp (Nat.le_refl _) (.inl rfl) (fun b o e=>Heap.get?_push_of_some _ e) (by rw [sz];exact Nat.lt_succ_self _) (by rw [sz];exact Nat.lt_succ_of_lt ltS)
   (fun A hh=>walk_int (t:=t) (ep:=ep) (sl:=sl) (Nat.ne_of_lt ltS) len nx A hh) (fun i s' st=>st.1.typeIs) ⟨⟨_,Heap.get?_push_size _ rfl,rfl,by rw [s0];simp [rawInt]⟩,x.keep fun o e=>Heap.get?_push_of_some _ e⟩
 cases hb:byTxt w with
 | true =>
  rw [if_neg (by simp)]
  refine plainRoad ((pickOrder (w.params.setOrder S ep) es).toList.map (·.2)) (fun _=>0) rfl ((pick_perm _ es).map _) fun A s i Q' E' _ x' q=>next_text x' hb Q' E' ?_
  rw [List.getElem?_map,Array.getElem?_toList,Option.map_map] at q
  exact q
 | false =>
  have fz:t.place.size=es.size:=by
   have:=x.fits
   unfold SetTable.fits at this
   simp at this;exact this.1
  by_cases many:1 < es.size
  ·rcases x.pl many with np | ⟨yp,ri⟩
   rotate_left
   ·rw [if_neg (by rw [yp];simp)]
    refine plainRoad (es.toList.map (·.2)) (fun i=>if i=0 then 0 else t.place.getD (i - 1) 0+1) rfl (.refl _) fun A s i Q' E' hi x' q=>next_few x' hb (.inr yp) Q' E' ?_
    have bl:SetTable.below t.place (if i=0 then 0 else t.place.getD (i - 1) 0+1)=i:=L3.below_step ri (by rw [fz];exact hi)
    rw [bl]
    have e1:(es.toList.map (·.2))[i]?=(es[i]?).map (·.2):=by rw [List.getElem?_map,Array.getElem?_toList]
    rw [e1] at q
    by_cases c:i < es.size
    ·rw [Array.getElem?_eq_getElem c] at q ⊢
     rw [Array.getElem?_eq_getElem (show i < t.place.size by omega)]
     have e2:t.place.getD (i+1 - 1) 0=t.place[i]'(by omega):=by simp [fz,c]
     simp only [Nat.add_one_ne_zero,if_false] at q
     rw [e2] at q
     exact q
    ·rw [Array.getElem?_eq_none (by omega)] at q ⊢
     exact q
   rw [if_pos (by rw [np];simp [many])]
   refine wpAny_bind (draw_order es.size _ _ _ (by simp) fun ord dr hp=>?_)
   have lo:ord.length=es.size:=by rw [hp.length_eq];simp
   have le:∀ k∈ord,k < es.size:=fun k hk=>by simpa using hp.mem_iff.mp hk
   refine wpAny_bind (wpAny_newTuple ?_ (by rw [List.length_map,lo];exact small))
   generalize hh1:s.heap.push { cls:=.type "tuple",data:=.seq (ord.map fun (k:Nat)=>rawInt k).toArray }=h1
   have kp:∀ b o,s.heap.get? b=some o->h1.get? b=some o:=fun b o e=>by rw [<- hh1];exact Heap.get?_push_of_some _ e
   have sz:h1.objs.size=s.heap.objs.size+1:=by rw [<- hh1];exact Heap.size_push ..
   have new:h1.get? s.heap.objs.size=some { cls:=.type "tuple",data:=.seq (ord.map fun (k:Nat)=>rawInt k).toArray }:=by rw [<- hh1];exact Heap.get?_push_size _ rfl
   refine wpAny_bind (wpAny_setEpoch_of (s:={ s with heap:=h1,drawn:=dr }) (kp _ _ hos) hds x.fits ?_)
   refine wpAny_bind (wpAny_newObj_type (wpAny_pure ⟨_,rfl,"set_iterator",_,⟨_,Heap.get?_push_size _ rfl,rfl⟩,slot_si_next.lookup,?_⟩))
   have sz2:(h1.push { cls:=.type "set_iterator",data:=.fields #[Value.ref s.heap.objs.size,rawInt 0,Value.ref S,rawInt es.size,rawInt ep] }).objs.size=h1.objs.size+1:=Heap.size_push ..
   refine h h1.objs.size s.heap.objs.size _ _ _ dr ?_ (by rw [sz];exact Nat.le_succ _) (.inr (Nat.le_refl _)) (fun b o e=>Heap.get?_push_of_some _ (kp b o e)) (by rw [sz2];exact Nat.lt_succ_self _) (by rw [sz2,sz];exact Nat.lt_succ_of_lt (Nat.lt_succ_self _))
    (fun A hh=>walk_ref (t:=t) (ep:=ep) (ord:=ord) (by rw [sz];exact Nat.ne_of_lt (Nat.lt_succ_of_lt ltS)) (by rw [sz];exact Nat.ne_of_lt (Nat.lt_succ_self _)) lo le A hh) (fun i s' st=>st.1.typeIs) ⟨⟨_,Heap.get?_push_size _ rfl,rfl,by simp [rawInt]⟩,x.keep fun o e=>Heap.get?_push_of_some _ (kp _ _ e),Heap.get?_push_of_some _ new⟩
   refine (hp.map _).trans (.of_eq ?_)
   refine List.ext_getElem? fun j=>?_
   rw [List.getElem?_map,List.getElem?_map]
   by_cases hj:j < es.size
   ·have e1:(List.range es.size)[j]?=some j:=List.getElem?_range hj
    have e2:es.toList[j]?=some es[j]:=by simp [hj]
    rw [e1,e2];simp [hj]
   ·have e1:(List.range es.size)[j]?=none:=List.getElem?_eq_none (by simp;omega)
    have e2:es.toList[j]?=none:=List.getElem?_eq_none (by simp;omega)
    rw [e1,e2];rfl
  ·rw [if_neg (by simp [many])]
   refine plainRoad (es.toList.map (·.2)) (fun i=>if i=0 then 0 else t.place.getD 0 0+1) rfl (.refl _) fun A s i Q' E' hi x' q=>next_few x' hb (.inl many) Q' E' ?_
   have e0:es.size=0\/es.size=1:=by omega
   rcases e0 with e0 | e0
   ·have e1:i=0:=by omega
    subst e1
    have ee:es=#[]:=Array.eq_empty_of_size_eq_zero e0
    subst ee
    simpa using q
   ·obtain ⟨e,rfl⟩:∃ e,es=#[e]:=arr_one es e0
    obtain ⟨p,hp⟩:∃ p,t.place=#[p]:=arr_one t.place (by rw [fz];rfl)
    rw [hp]
    have hi':i=0\/i=1:=by simp at hi;omega
    rcases hi' with rfl | rfl
    ·rw [if_pos rfl,below_one_0]
     simpa [hp] using q
    ·rw [if_neg (by decide)]
     have:SetTable.below #[p] ((#[p]:Array Nat).getD 0 0+1)=1:=below_one_1 p
     rw [this]
     simpa using q
theorem hint_set {r:Addr} {Q:Bool->Shared->Prop} (hT:s.TypeIs (.ref r) "set") (h:Q false s):wpAny (model prog w) A (Builtin.List.listLengthHint (.ref r)) Q E s:=by
 unfold Builtin.List.listLengthHint
 refine wpAny_bind (wpAny_specialOf hT PySem.F.slot_set_len.lookup ?_)
 generalize hid:("set.__len__" : String)=id0
 wp_delta
 rw [show splitId id0=some ("set","__len__") from by subst hid;decide +kernel]
 subst hid
 refine wpAny_bind (wpAny_isInstance (T:="set") (b:=true) hT (by rw [isSubtype_type];kernel_rfl) ?_)
 refine wpAny_ite_split (fun hab=>absurd hab (by decide)) (fun _=>?_)
 refine wpAny_ite_split (fun _=>?_) (fun hab=>absurd (by decide +kernel) hab)
 refine wpAny_bind (wpAny_typeOf hT ?_)
 exact wpAny_pure h
theorem extend_set {S L:Addr} {es:Array (Int × Value)} {ep:Nat} {t:SetTable} {R:Result->Shared->Prop} (x:SetW w s.heap S es ep t) (small:es.size<=sizeLine) (hh:A.handled=none) (hSL:L≠S) (res:Value) (c₀:Nat) (hL:s.heap.get? L=some { cls:=.type "list",data:=.seq #[] c₀ })
  (hR:∀ h' tk dr acc' c',(∀ b o,b≠L->s.heap.get? b=some o->h'.get? b=some o)->h'.get? L=some { cls:=.type "list",dict:=none,data:=.seq acc' c',slots:=#[] }->acc'.toList.Perm (es.toList.map (·.2))->R (.ok (.ret res)) { s with heap:=h',toks:=tk,drawn:=dr }) :
  wpAny (model prog w) A.in1 (Builtin.List.listExtendWith (.ref L) (.ref S) res)
   (fun fin s'=>match fin with | .done f=>R (.ok f) s' | .again c'=>c'.quiet=true/\codeAny (model prog w) A c' R s') (fun e s'=>R (.error e) s') s:=by
 have ltL:@LT.lt Nat _ L s.heap.objs.size:=Heap.lt_size hL
 unfold Builtin.List.listExtendWith
 refine wpAny_bind (wpAny_typeOf (T:="set") x.typeIs ?_)
 have h1:Builtin.List.listSameRef (.ref L) (.ref S)=false:=by simp [Builtin.List.listSameRef,hSL]
 have n1:(Value.type "set" == Value.type "list")=false:=by decide
 have n2:(Value.type "set" == Value.type "tuple")=false:=by decide
 simp only [h1,n1,n2,Bool.or_false,Bool.false_eq_true,if_false]
 refine wpAny_bind (set_iter x small fun I T ys St h' dr hp hI hT kp ltI ltT W ty st=>?_)
 have hLf:L ∉ [I,S,T]:=by
  simp only [List.mem_cons,List.not_mem_nil,or_false,not_or]
  refine ⟨Nat.ne_of_lt (Nat.lt_of_lt_of_le ltL hI),hSL,?_⟩
  rcases hT with hT | hT
  ·rw [hT];exact hSL
  ·exact Nat.ne_of_lt (Nat.lt_of_lt_of_le ltL hT)
 have W1:=W A.in1 (by simpa using hh)
 have len:ys.length=es.size:=by rw [hp.length_eq];simp
 have key:∀ (h:Heap) (c₁ tk:Nat),St 0 { s with heap:=h,toks:=tk,drawn:=dr }->(∀ b o,b≠L->s.heap.get? b=some o->h.get? b=some o) ->
   h.get? L=some { cls:=.type "list",data:=.seq #[] c₁ }->codeAny (model prog w) A (.builtin "list.extend.loop" ⟨[.ref L,.ref I,res],[]⟩) R { s with heap:=h,toks:=tk,drawn:=dr }:=by
  intro h c₁ tk hst hk hL₁
  refine codeAny_extend_loopS W1 small L hLf res es.size 0 _ #[] c₁ rfl (Nat.zero_le _) hst hL₁ (ItemsOf.nil _) fun s' acc' c' hm hL' hacc=>?_
  obtain ⟨h2,g2,d2,t2,o2⟩:=s'
  cases (show g2=s.gens from hm.gens)
  cases (show d2=dr from hm.drawn)
  cases (show o2=s.os from hm.os)
  refine hR h2 t2 dr acc' c' (fun b o hb e=>hm.heap b o (fun hmem=>?_) (hk b o hb e)) hL' ?_
  ·rcases List.mem_cons.mp hmem with e' | hmem
   ·exact hb e'
   ·exact absurd (Heap.lt_size e) (by rw [List.mem_singleton.mp hmem];exact Nat.not_lt.mpr hI)
  ·have e:acc'.toList=ys:=by
    refine List.ext_getElem? fun j=>?_
    by_cases hj:j < es.size
    ·have l1:j < acc'.size:=by rw [hacc.1];exact hj
     have e1:acc'[j]?=some acc'[j]:=by simp [l1]
     rw [hacc.2 j _ e1,Array.getElem?_toList];exact e1
    ·rw [List.getElem?_eq_none (by rw [Array.length_toList,hacc.1];omega),List.getElem?_eq_none (by omega)]
   rw [e];exact hp
 have hL₁:=kp _ _ hL
 have x1:=x.keep fun o e=>kp _ _ e
 refine wpAny_bind (wpAny_holding (hint_set (s:={ s with heap:=h',drawn:=dr }) x1.typeIs ?_))
 refine wpAny_ite_split (fun _=>?_) (fun _=>wpAny_pure ⟨plainId_quiet PySem.F.plain_extend_loop _,key _ c₀ _ st (fun b o _ e=>kp b o e) hL₁⟩)
 refine wpAny_bind (wpAny_rule ?_)
 refine wpAny_bind ?_
 show wpAny _ _ (updateSeq L (·.push .none) >>= fun _=>updateSeq L (·.pop)) _ _ _
 refine wpAny_bind (wpAny_updateSeq hL₁ rfl ?_)
 have hL₂:=Heap.get?_update_self (Obj.mapSeq (·.push Value.none)) hL₁ rfl
 refine wpAny_updateSeq (hz:=by seq_fits) hL₂ rfl ?_
 have hL₃:=Heap.get?_update_self (Obj.mapSeq (·.pop)) hL₂ rfl
 refine wpAny_pure ⟨plainId_quiet PySem.F.plain_extend_loop _,key _ _ _ ?_ (fun b o hb e=>?_) hL₃⟩
 ·refine W1.frame 0 _ _ _ st (Nat.le_refl _) fun b hb o e=>?_
  have hbL:b≠L:=fun h=>hLf (h ▸ hb)
  exact (Heap.get?_update_other _ _ (Ne.symm hbL)).trans ((Heap.get?_update_other _ _ (Ne.symm hbL)).trans e)
 ·exact (Heap.get?_update_other _ _ (Ne.symm hb)).trans ((Heap.get?_update_other _ _ (Ne.symm hb)).trans (kp _ _ e))
theorem collect_set {S:Addr} {es:Array (Int × Value)} {ep:Nat} {t:SetTable} {R:List Value->Shared->Prop} (x:SetW w s.heap S es ep t) (small:es.size<=sizeLine) (hh:A.handled=none)
  (h:∀ (h':Heap) (tk:Nat) (dr:Drawn) (acc:List Value),(∀ b o,s.heap.get? b=some o->h'.get? b=some o)->acc.Perm (es.toList.map (·.2))->R acc { s with heap:=h',toks:=tk,drawn:=dr }) :
  wpAny (model prog w) A (collect (.ref S)) R E s:=by
 obtain ⟨os,hos,_⟩:=x.ho
 have ltS:@LT.lt Nat _ S s.heap.objs.size:=Heap.lt_size hos
 unfold collect
 refine wpAny_bind (wpAny_runValue (codeAny_builtin PySem.F.entry_proto_collect ?_))
 rw [Around.under_plainId PySem.F.plain_proto_collect _]
 show wpAny _ A.in1 (newList [] >>= fun l=>again (.builtin "list.__iadd__" ⟨[l,.ref S],[]⟩)) _ _ s
 refine wpAny_bind (wpAny_newObj_type ?_)
 refine wpAny_pure ⟨plainId_quiet PySem.F.plain_list_iadd _,codeAny_builtin PySem.F.entry_list_iadd ?_⟩
 rw [Around.under_plainId PySem.F.plain_list_iadd _]
 have hL:(s.heap.push { cls:=.type "list",data:=.seq ([]:List Value).toArray }).get? s.heap.objs.size=some { cls:=.type "list",data:=.seq #[] }:=Heap.get?_push_size _ rfl
 show wpAny _ A.in1 (Builtin.List.listExtendWith (.ref s.heap.objs.size) (.ref S) (.ref s.heap.objs.size)) _ _ _
 have key:=extend_set (prog:=prog) (w:=w) (A:=A) (s:={ s with heap:=s.heap.push { cls:=.type "list",data:=.seq ([]:List Value).toArray } })
  (R:=fun (q:Result) (s':Shared)=>∃ (h':Heap) (tk:Nat) (dr:Drawn) (acc':Array Value) (c':Nat),q=.ok (.ret (.ref s.heap.objs.size))/\s'={ s with heap:=h',toks:=tk,drawn:=dr } /\
   (∀ b o,s.heap.get? b=some o->h'.get? b=some o)/\h'.get? s.heap.objs.size=some { cls:=.type "list",dict:=none,data:=.seq acc' c',slots:=#[] }/\acc'.toList.Perm (es.toList.map (·.2)))
  (x.keep fun o e=>Heap.get?_push_of_some _ e) small hh (Nat.ne_of_gt ltS) (.ref s.heap.objs.size) 0 hL
  (fun h' tk dr acc' c' hk hL' hacc=>⟨h',tk,dr,acc',c',rfl,rfl,fun b o e=>hk b o (Nat.ne_of_lt (Heap.lt_size e)) (Heap.get?_push_of_some _ e),hL',hacc⟩)
 refine wpAny_mono key (fun fin s' x=>?_) fun e s' x=>?_
 ·cases fin with
  | done f =>
   obtain ⟨h',tk,dr,acc',c',e,rfl,hk,hL',hacc⟩:=x
   cases e
   show wpAny _ A (load s.heap.objs.size >>= _) _ _ _
   refine wpAny_bind (wpAny_load hL' ?_)
   exact wpAny_pure (h h' tk dr acc'.toList hk hacc)
  | again c₁ =>
   refine ⟨x.1,codeAny_mono x.2 fun q s₂ y=>?_⟩
   obtain ⟨h',tk,dr,acc',c',rfl,rfl,hk,hL',hacc⟩:=y
   show wpAny _ A (load s.heap.objs.size >>= _) _ _ _
   refine wpAny_bind (wpAny_load hL' ?_)
   exact wpAny_pure (h h' tk dr acc'.toList hk hacc)
 ·obtain ⟨_,_,_,_,_,e',_⟩:=x
  cases e'
end
theorem perm_of_sub {α:Type} [DecidableEq α]:∀ {l m:List α},l.Nodup->(∀ x∈l,x∈m)->m.length<=l.length->l.Perm m
 | [],m,_,_,h=>by
  have:m=[]:=List.eq_nil_of_length_eq_zero (by simpa using h)
  rw [this]
 | x::l,m,nd,sub,h=>by
  have nd':=List.nodup_cons.mp nd
  have hx:=sub x List.mem_cons_self
  have p:=List.perm_cons_erase hx
  refine (List.Perm.cons x (perm_of_sub nd'.2 (fun y hy=>?_) ?_)).trans p.symm
  ·have:=p.mem_iff.mp (sub y (List.mem_cons_of_mem _ hy))
   rcases List.mem_cons.mp this with e | e
   ·exact absurd (e ▸ hy) nd'.1
   ·exact e
  ·have:=List.length_erase_of_mem hx
   simp at h;omega
theorem mem_dist {zs:List Str} {k:Str}:k∈dist zs ↔ k∈zs:=by
 unfold dist
 have:∀ (zs σ:List Str),k∈zs.foldl addS σ ↔ k∈σ\/k∈zs:=by
  intro zs
  induction zs with
  | nil=>intro σ;simp
  | cons z zs ih=>intro σ;rw [List.foldl_cons,ih,mem_addS,List.mem_cons];exact ⟨fun h=>by rcases h with (h | h) | h<;>simp [h],fun h=>by rcases h with h | h | h<;>simp [h]⟩
 simpa using this zs []
section
variable {prog:Program} {w:World}
end
def TxtO (P:Program) (w:World) (a:Addr) (zs:List Str):HO:=.ext fun h=>TxtX P w h a zs (!byTxt w)
theorem Inv.drawn {X:Cx} {pins:List (Addr × Obj)} {σ:St} {H:Hp} {s:Shared} {dr:Drawn} (I:Inv X pins σ H s):Inv X pins σ H { s with drawn:=dr } :=
 ⟨I.ok,I.os,I.bare,I.base,I.loc,I.cell,I.free,I.freeC,I.pin,I.hok,I.len⟩
section
variable {X:Cx}
theorem txtO_ok {H:Hp} {h:Heap} {a:Addr} {zs:List Str} (x:TxtX X.prog X.w h a zs (!byTxt X.w)):ObjOk X.prog X.w H h a (TxtO X.prog X.w a zs):=by
 refine ⟨x,?_,fun h1 h2 q k=>q.keep fun o e=>k o e⟩
 obtain ⟨o,es,ep,t,y⟩:=x
 exact ⟨o,y.ho⟩
theorem call_set_txt (hc:X.calm=true):CallR X (.type "set") (fun xs H Q=>∃ (p:Addr) (zs:List Str),xs=[.ref p]/\(SqL X.K H p (zs.map V.str)\/SqT X.K H p (zs.map V.str))/\zs.length+1 < scanBound/\∀ l,H l=none->Q (.ref l) (upd H l (TxtO X.prog X.w l zs))):=by
 intro pins s σ H xs us Q I r h
 obtain ⟨p,zs,rfl,hp,small,q⟩:=h
 obtain ⟨u,rfl,rx⟩:=vals1 r
 cases rx
 have fr:H s.heap.objs.size=none:=I.hok.fresh (Nat.le_refl _)
 have fin:∀ (h':Heap) (tk:Nat),TxtX X.prog X.w h' s.heap.objs.size zs (!byTxt X.w)->(∀ b o,s.heap.get? b=some o->h'.get? b=some o)->EP X pins σ Q (.ref s.heap.objs.size) { s with heap:=h',toks:=tk }:=fun h' tk T kp =>
  ⟨.ref s.heap.objs.size,_,I.laid (t':=tk) kp (Nat.le_refl _) (txtO_ok T),rfl,q _ fr⟩
 rcases hp with hp | hp
 ·obtain ⟨its,rv,pl,_⟩:=I.list hp
  exact setX_list (I.ok.hd hc) pl.isList (strs_of rv) small fin
 ·obtain ⟨its,rv,pl,_⟩:=I.tuple hp
  exact setX_tuple (I.ok.hd hc) pl (strs_of rv) small fin
theorem call_setP {P:Program} {w:World} {K:PySem.W.Frag} (hc:X.calm=true) (hP:X.prog=P:=by rfl) (hw:X.w=w:=by rfl) (hK:X.K=K:=by rfl):CallR X (.type "set") (fun xs H Q=>∃ (p:Addr) (zs:List Str),xs=[.ref p]/\(SqL K H p (zs.map V.str)\/SqT K H p (zs.map V.str))/\zs.length+1 < scanBound/\∀ l,H l=none->Q (.ref l) (upd H l (TxtO P w l zs))):=by
 subst hP hw hK
 exact call_set_txt hc
end
section
variable {X:Cx} {e k:Expr} {te tk:TE} {p2 pos:Pos}
end
end L2
namespace HT
open PySem PySem.Spec PyProof.Rows
section
variable {prog:Program} {w:World} {A:Around} {E:Value->Shared->Prop} {s:Shared}
end
end HT
namespace L2
open PySem PySem.Spec PyProof.Rows
section
variable {X:Cx} {e k:Expr} {te tk:TE} {p2 pos:Pos}
end
def Ite (K:PySem.W.Frag) (a:Addr):It :=
 ⟨fun i H=>∃ xs x,SqL K H a xs/\xs[i]?=some x,fun i H x H'=>∃ q y,H q=none/\(∀ xs,SqL K H a xs->xs[i]?=some y)/\x=.ref q/\H'=upd H q (.tup [.int i,y]),fun i H=>∃ xs,SqL K H a xs/\xs.length<=i⟩
theorem turn_enum {P:Program} {w:World} {K:PySem.W.Frag} {elts:List Expr} {x1} {tp:Pos} (a e it:Addr) (ne:e≠it):Turn P w K (.Tuple elts x1 tp) (Ite K a) [e,it] e (fun i h=>(∃ old,IsEnum h e it i old)/\h.IsListIter it a i) where
 mem:=by simp
 obj:=fun i h st b hb=>by
  obtain ⟨⟨old,he⟩,o,ho,c,d⟩:=st
  rcases List.mem_cons.mp hb with q | q
  ·subst q;exact ⟨_,he,fun v z=>nomatch z⟩
  ·have q':b=it:=by simpa using q
   subst q';exact ⟨o,ho,fun v z=>by rw [d] at z;cases z⟩
 keep:=fun i h h' st k=>⟨let ⟨old,he⟩:=st.1;⟨old,k e (by simp) _ he⟩,st.2.at fun o q=>k it (by simp) o q⟩
 item:=by
  intro X hP hw hK hc i pins s σ H E I hf st hg
  subst hP hw hK
  obtain ⟨⟨old,he⟩,hit⟩:=st
  obtain ⟨xs,x,hq,hx⟩:=hg
  obtain ⟨its,rv,p,hz⟩:=I.list hq
  obtain ⟨u,hu,ru⟩:=rv.get hx
  have f1:=hf e (by simp)
  have f2:=hf it (by simp)
  refine wpAny_pyNext_enum_item he hit p.isList (x:=u) (by simpa using hu) ne fun h1 o1 i1 t1 z1 k1=>⟨_,rfl,?_⟩
  refine wpAny_letOwnedTupleGo_enum o1 fun h2 e2 sb=>?_
  have nq:∀ {b:Addr} {o:Obj},s.heap.get? b=some o->b≠s.heap.objs.size:=fun {b o} q=>Nat.ne_of_lt (Heap.lt_size q)
  have ltE:@LT.lt Nat _ e s.heap.objs.size:=Heap.lt_size he
  have ltI:@LT.lt Nat _ it s.heap.objs.size:=let ⟨o,q,_⟩:=hit;Heap.lt_size q
  have qe:s.heap.objs.size≠e:=fun z=>by have z':@Eq Nat s.heap.objs.size e:=z;omega
  have hn:H s.heap.objs.size=none:=I.hok.fresh (Nat.le_refl _)
  have kk:∀ b o,b≠e->b≠it->s.heap.get? b=some o->h2.get? b=some o:=fun b o n1 n2 q=>(sb.2 b n1).trans (k1 b o n1 n2 q)
  have tq:h2.get? s.heap.objs.size=some { cls:=.type "tuple",data:=.seq #[.int i s.toks,u] }:=(sb.2 _ qe).trans t1
  have hH:∀ b o,H b=some o->b≠e/\b≠it/\b≠s.heap.objs.size:=fun b o q=>⟨ne_of_none q f1.1,ne_of_none q f2.1,ne_of_none q hn⟩
  refine ⟨.ref s.heap.objs.size,upd H s.heap.objs.size (.tup [.int i,x]),?_,rfl,⟨_,x,hn,fun ys hy=>by rw [I.list_inj hy hq];exact hx,rfl,rfl⟩,⟨⟨u,e2⟩,i1.at fun o q=>(sb.2 _ (Ne.symm ne)).trans q⟩,fun b hb=>?_⟩
  ·refine Inv.call' (ch:=[e,it]) I (s':={ s with heap:=h2,toks:=s.toks+1 }) rfl ⟨fun b ob q n hb hx=>?_,fun b ob q n hb hx=>?_,fun b ob q n hx=>?_,fun b ob q hx=>?_,fun b ys q=>?_,fun b ob ys q=>?_,fun b ps q=>⟨#[],?_⟩⟩ ?_ I.bare fun b hb=>?_
   ·exact kk b ob (fun z=>hx (by simp [z])) (fun z=>hx (by simp [z])) q
   ·exact ⟨ob.slots,kk b ob (fun z=>hx (by simp [z])) (fun z=>hx (by simp [z])) q⟩
   ·rw [upd_ne (nq q)];exact n
   ·exact ⟨ob,kk b ob (fun z=>hx (by simp [z])) (fun z=>hx (by simp [z])) q⟩
   ·rw [upd_ne (hH _ _ q).2.2];exact q
   ·rw [upd_ne (hH _ _ q).2.2];exact q
   ·rw [upd_ne (hH _ _ q).2.2,q];simp
   ·intro b ob q
    by_cases hb:b=s.heap.objs.size
    ·subst hb
     rw [upd_same] at q
     cases q
     exact ⟨by show 2<=sizeLine;decide,[.int i s.toks,u],.cons ⟨_,rfl⟩ (.cons ru .nil),⟨_,tq,rfl,0,rfl⟩⟩
    ·rw [upd_ne hb] at q
     refine (I.hok b ob q).stay (fun c v hc g=>?_) (fun c g=>?_) fun c ys g=>?_
     ·refine kk c v ?_ ?_ g
      ·rcases hc with z | z
       ·rw [z];exact (hH _ _ q).1
       ·exact (hH _ _ z).1
      ·rcases hc with z | z
       ·rw [z];exact (hH _ _ q).2.1
       ·exact (hH _ _ z).2.1
     ·rw [upd_ne (hH _ _ g).2.2];exact g
     ·rw [upd_ne (hH _ _ g).2.2];exact g
   ·rcases List.mem_cons.mp hb with z | z
    ·subst z;exact ⟨f1.2.2.2.1,f1.2.1,f1.2.2.2.2.1,f1.2.2.2.2.2⟩
    ·have z':b=it:=by simpa using z
     subst z';exact ⟨f2.2.2.2.1,f2.2.1,f2.2.2.2.2.1,f2.2.2.2.2.2⟩
  ·have lt:b≠s.heap.objs.size:=by
    rcases List.mem_cons.mp hb with z | z
    ·rw [z];exact Nat.ne_of_lt ltE
    ·have z':b=it:=by simpa using z
     rw [z'];exact Nat.ne_of_lt ltI
   rw [upd_ne lt];exact (hf b hb).1
 done:=by
  intro X hP hw hK hc i pins s σ H E I hf st hg
  subst hP hw hK
  obtain ⟨⟨old,he⟩,hit⟩:=st
  obtain ⟨xs,hq,hx⟩:=hg
  obtain ⟨its,rv,p,hz⟩:=I.list hq
  obtain ⟨f0,f1,f2,f3,f4,f5⟩:=hf it (by simp)
  have hl:=rv.length
  exact wpAny_pyNext_enum_end (I.ok.hd hc) he hit p.isList (by simp;omega) fun h' eb=>⟨rfl,I.turned (t':=s.toks) (fun b o hb q=>eb b o hb q) f0 f1 f3 f4 f5⟩
 self:=fun _ _ _ _ _ st h=>let ⟨⟨_,he⟩,_⟩:=st;wpAny_pyIter_enum he h
def iEnum (K:PySem.W.Frag) (ta:TA):TI:=fun σ H R=>ta σ H fun vs H1=>∃ a,vs=[.ref a]/\(∃ xs,SqL K H1 a xs)/\R (Ite K a) H1
section
variable {X:Cx}
theorem pi_enum {elts:List Expr} {x1} {tp:Pos} {l:Expr} {ta:TA} {p pos:Pos} (hg:Gl X "enumerate") (hm:X.mg "enumerate" = none) (ha:PA X [l] ta) (hs:starEach [l] X.env=[(false,eval l X.env)]:=by rfl):PI X (.Tuple elts x1 tp) (.Call (.Name "enumerate" p) [l] [] pos) (iEnum X.K ta):=by
 intro pins s σ H R I h
 refine wpAny_Call_Name_kw (ld_blt I hg hm boot_enumerate ?_)
 refine PyProof.Rows.callWith_type1 (thn (ha pos pins s σ H _ I h) fun us s1 ⟨vs,H1,I1,r1,q1⟩=>?_) hs rfl
 obtain ⟨a,rfl,⟨xs,hq⟩,q⟩:=q1
 obtain ⟨u,rfl,ru⟩:=vals1 r1
 cases ru
 obtain ⟨its,rv,pl,hz⟩:=I1.list hq
 refine call_enumerate_list pl.isList fun h' e1 i1 z1 k1=>?_
 refine wpAny_pyIter_enum e1 ?_
 have ne:s1.heap.objs.size+1≠s1.heap.objs.size:=Nat.succ_ne_self _
 refine ⟨s1.heap.objs.size+1,[s1.heap.objs.size+1,s1.heap.objs.size],_,_,H1,rfl,I1.kept (t':=s1.toks) k1,turn_enum a _ _ ne,⟨⟨_,e1⟩,i1⟩,fun b hb=>?_,q⟩
 have le:@LE.le Nat _ s1.heap.objs.size b:=by
  rcases List.mem_cons.mp hb with z | z
  ·rw [z];exact Nat.le_succ _
  ·have z':b=s1.heap.objs.size:=by simpa using z
   rw [z'];exact Nat.le_refl _
 exact I1.fpOk le (I1.hok.fresh le)
end
theorem for_enum {K:PySem.W.Frag} {a:Addr} {xs:List V} {g:TG} {tb:TS} {D:Ends} {σ:St} {H:Hp} (Pv:Nat->St->Hp->Prop) (h0:Pv 0 σ H) (hl:∀ i σ H,i<=xs.length->Pv i σ H->SqL K H a xs)
  (hs:∀ i x σ H q,xs[i]?=some x->Pv i σ H->H q=none->g (.ref q) σ (upd H q (.tup [.int i,x])) fun σ2 H2=>tb { D with nx:=Pv (i+1),ct:=Pv (i+1),bk:=D.nx } σ2 H2) (hd:∀ σ H,Pv xs.length σ H->D.nx σ H) :
  ∃ W:Nat->Nat->St->Hp->Prop,(∃ m,W 0 m σ H)/\∀ i m σ H,W i m σ H ->
   ((Ite K a).stop i H/\D.nx σ H)\/((Ite K a).go i H/\∃ N:St->Hp->Prop,(∀ σ' H',N σ' H'->∃ m',m' < m/\W (i+1) m' σ' H')/\∀ x H',(Ite K a).yld i H x H'->g x σ H' fun σ2 H2=>tb { D with nx:=N,ct:=N,bk:=D.nx } σ2 H2):=by
 refine ⟨fun i m σ H=>m=xs.length - i/\i<=xs.length/\Pv i σ H,⟨xs.length,by simp,Nat.zero_le _,h0⟩,?_⟩
 rintro i m σ H ⟨rfl,hi,p⟩
 have q:=hl i σ H hi p
 by_cases hlt:i < xs.length
 ·refine .inr ⟨⟨xs,xs[i],q,by simp [hlt]⟩,Pv (i+1),fun σ' H' p'=>⟨xs.length - (i+1),by omega,rfl,hlt,p'⟩,fun x H' ⟨r,y,hr,hy,e1,e2⟩=>?_⟩
  subst e1 e2
  exact hs i y σ _ r (hy xs q) p hr
 ·have e:i=xs.length:=by omega
  subst e
  exact .inl ⟨⟨xs,q,Nat.le_refl _⟩,hd σ H p⟩
theorem lc_enum {K:PySem.W.Frag} {a:Addr} {xs:List V} {own:List Str} {fr:List Nat} {g:TG} {tt:TT} {te:TE} {σ:St} {Q:VK} {H:Hp} (Pv:Nat->List V->Hp->Prop) (h0:Pv 0 [] H) (hlen:∀ i ys H,i<=xs.length->Pv i ys H->ys.length<=sizeLine)
  (hl:∀ i ys H,i<=xs.length->Pv i ys H->SqL K H a xs)
  (hs:∀ i x ys H q (R:List V->Hp->Prop),xs[i]?=some x->Pv i ys H->H q=none->(∀ ys' H',Pv (i+1) ys' H'->R ys' H')->g (.ref q) (cSt own fr σ) (upd H q (.tup [.int i,x])) fun σ4 H4=>tt σ4 H4 fun b H5=>if b=true then te σ4 H5 fun y H6=>R (ys++[y]) H6 else R ys H5)
  (hd:∀ ys H,Pv xs.length ys H->∀ D,H D=none->Q (.ref D) (upd H D (.lst ys))):lcLoop own fr g tt te σ Q (Ite K a) H:=by
 refine ⟨fun i m ys H=>m=xs.length - i/\i<=xs.length/\Pv i ys H,⟨xs.length,rfl,Nat.zero_le _,h0⟩,?_⟩
 rintro i m ys H2 ⟨rfl,hi,p⟩
 refine ⟨hlen i ys H2 hi p,?_⟩
 have q:=hl i ys H2 hi p
 by_cases h:i < xs.length
 ·refine .inr ⟨⟨xs,xs[i],q,by simp [h]⟩,fun x H3 ⟨r,y,hr,hy,e1,e2⟩=>?_⟩
  subst e1 e2
  exact hs i y ys _ r (fun ys' H'=>∃ m',m' < xs.length - i/\(m'=xs.length - (i+1)/\i+1<=xs.length/\Pv (i+1) ys' H')) (hy xs q) p hr fun ys' H' q=>⟨xs.length - (i+1),by omega,rfl,h,q⟩
 ·have e:i=xs.length:=by omega
  subst e
  exact .inl ⟨⟨xs,q,Nat.le_refl _⟩,hd ys H2 p⟩
theorem gtup_mono {K:PySem.W.Frag} {n:Nat} {t:TGs} (m:∀ v σ H Q Q',(∀ σ' H',Q σ' H'->Q' σ' H')->t v σ H Q->t v σ H Q'):∀ v σ H Q Q',(∀ σ' H',Q σ' H'->Q' σ' H')->gTup K n t v σ H Q->gTup K n t v σ H Q' :=
 fun _ _ _ _ _ mq ⟨a,xs,e,sq,l,q⟩=>⟨a,xs,e,sq,l,m _ _ _ _ _ mq q⟩
theorem gk_one_two {K:PySem.W.Frag} {n k l h i j:Nat} (h0:h < n) (h1:i < n) (h2:j < n):GK n (gTup K k (gCons (gName h) (gCons (gTup K l (gCons (gName i) (gCons (gName j) gNil))) gNil))) :=
 gk_tup (gks_cons gn_mono (gcons_mono (gtup_mono (gcons_mono gn_mono (gcons_mono gn_mono gnil_mono))) gnil_mono) (gk_name h0) (gks_cons (gtup_mono (gcons_mono gn_mono (gcons_mono gn_mono gnil_mono))) gnil_mono (gk_two h1 h2) gks_nil))
end L2
namespace K41
open PySem PySem.Spec PyProof.Rows L2
structure Mt (K:PySem.W.Frag) (mg:Str->Option Value) (C fP fS:Addr) (fdP fdS:FuncData):Prop where
 wc:WC K mg C
 pF:Fun K "places" "Web.places" sPlaces fP fdP
 pM:Meth K C "places" fP
 pB:Binds K fdP ["self"] []
 sF:Fun K "ties" "Web.ties" sTies fS fdS
 sM:Meth K C "ties" fS
 sB:Binds K fdS ["self"] []
theorem WebObj.meth {C x:Addr} {H:Hp} {ns:List Str} {ps:List (Str × Str)} (h:WebObj C H x ns ps) (m:Str) (e1:(m == ("kept_places" : Str))=false:=by decide +kernel) (e2:(m == ("kept_ties" : Str))=false:=by decide +kernel):∃ dx fs,H x=some (.ins C dx fs)/\fs.lookup m=none:=by
 obtain ⟨dx,kp,kt,us,q,_⟩:=h
 exact ⟨dx,_,q,wf_no kp kt m e1 e2⟩
structure GoodW (ns:List Str) (ps:List (Str × Str)):Prop where
 good:GoodP ns
 ins:InP ns ps
 few:ps.length<=30
end K41
namespace L2
open PySem PySem.Spec PyProof.Rows
inductive Rch (ps:List (Str × Str)):Str->Str->Prop where
 | here (a:Str):Rch ps a a
 | on {a b c:Str} (h:Rch ps a b) (t:(b,c)∈ps):Rch ps a c
theorem Rch.trans {ps:List (Str × Str)} {a b c:Str} (h:Rch ps a b) (k:Rch ps b c):Rch ps a c:=by
 induction k with
 | here=>exact h
 | on _ t ih=>exact ih.on t
theorem Rch.one {ps:List (Str × Str)} {a b:Str} (t:(a,b)∈ps):Rch ps a b:=(Rch.here a).on t
theorem Rch.mono {ps qs:List (Str × Str)} {a b:Str} (h:Rch ps a b) (s:∀ p∈ps,p∈qs):Rch qs a b:=by
 induction h with
 | here=>exact .here _
 | on _ t ih=>exact ih.on (s _ t)
theorem Rch.isin {ns:List Str} {ps:List (Str × Str)} (hi:∀ p∈ps,p.1∈ns/\p.2∈ns) {a b:Str} (h:Rch ps a b) (ha:a∈ns):b∈ns:=by
 cases h with
 | here=>exact ha
 | on _ t=>exact (hi _ t).2
theorem Rch.stays {ps:List (Str × Str)} {S:Str->Prop} {a b:Str} (h:Rch ps a b) (ha:S a) (hc:∀ p∈ps,S p.1->S p.2):S b:=by
 induction h with
 | here=>exact ha
 | on _ t ih=>exact hc _ t ih
open Classical in
noncomputable def rch (ns:List Str) (ps:List (Str × Str)) (a:Str):List Str:=srt (ns.filter fun z=>decide (Rch ps a z))
theorem perm_of {α:Type} [DecidableEq α]:∀ {l m:List α},l.Nodup->m.Nodup->(∀ x,x∈l ↔ x∈m)->l.Perm m:=fun hl hm h=>(List.perm_ext_iff_of_nodup hl hm).mpr h
theorem srt_same {l m:List Str} (hl:l.Nodup) (hm:m.Nodup) (h:∀ x,x∈l ↔ x∈m):srt l=srt m :=
 srt_of ((srt_perm l).trans (perm_of hl hm h)) (srt_pw l)
theorem srt_mem {l:List Str} {x:Str}:x∈srt l ↔ x∈l:=(srt_perm l).mem_iff
theorem srt_nd {l:List Str} (h:l.Nodup):(srt l).Nodup:=(srt_perm l).nodup_iff.mpr h
theorem rch_nd {ns:List Str} {ps:List (Str × Str)} {a:Str} (h:ns.Nodup):(rch ns ps a).Nodup:=srt_nd (h.filter _)
theorem rch_mem {ns:List Str} {ps:List (Str × Str)} {a z:Str}:z∈rch ns ps a ↔ z∈ns/\Rch ps a z:=by
 unfold rch
 rw [srt_mem,List.mem_filter]
 simp
theorem rch_of {ns zs:List Str} {ps:List (Str × Str)} {a:Str} (hn:ns.Nodup) (hz:zs.Nodup) (hi:∀ p∈ps,p.1∈ns/\p.2∈ns) (ha:a∈ns) (h:∀ z,z∈zs ↔ Rch ps a z):srt zs=rch ns ps a:=by
 refine srt_same hz (hn.filter _) fun x=>?_
 rw [h,List.mem_filter]
 simp only [decide_eq_true_eq]
 exact ⟨fun r=>⟨r.isin hi ha,r⟩,fun r=>r.2⟩
theorem srt_srt (l:List Str):srt (srt l)=srt l:=(srt_of (srt_perm (srt l) |>.trans (srt_perm l)) (srt_pw (srt l)))
def outs (ps:List (Str × Str)) (a:Str):List Str:=(ps.filter fun p=>decide (p.1=a)).map (·.2)
theorem outs_mem {ps:List (Str × Str)} {a b:Str}:b∈outs ps a ↔ (a,b)∈ps:=by
 unfold outs
 rw [List.mem_map]
 constructor
 ·rintro ⟨p,hp,rfl⟩
  obtain ⟨h1,h2⟩:=List.mem_filter.mp hp
  have:p.1=a:=by simpa using h2
  rw [<- this];exact h1
 ·intro h
  exact ⟨(a,b),List.mem_filter.mpr ⟨h,by simp⟩,rfl⟩
theorem outs_snoc (ps:List (Str × Str)) (p:Str × Str) (a:Str):outs (ps++[p]) a=if p.1=a then outs ps a++[p.2] else outs ps a:=by
 unfold outs
 rw [List.filter_append,List.map_append]
 by_cases h:p.1=a<;>simp [h]
theorem outs_len (ps:List (Str × Str)) (a:Str):(outs ps a).length<=ps.length:=by
 unfold outs
 rw [List.length_map]
 exact List.length_filter_le _ _
theorem nd_le {l m:List Str} (hl:l.Nodup) (h:∀ x∈l,x∈m):l.length<=m.length:=by
 induction l generalizing m with
 | nil=>exact Nat.zero_le _
 | cons x l ih =>
  rw [List.nodup_cons] at hl
  have hx:=h x List.mem_cons_self
  have q:=ih (m:=m.erase x) hl.2 fun y hy=>(List.mem_erase_of_ne (fun e:y=x=>hl.1 (e ▸ hy))).mpr (h y (List.mem_cons_of_mem _ hy))
  rw [List.length_erase_of_mem hx] at q
  have:0 < m.length:=List.length_pos_of_mem hx
  simp only [List.length_cons]
  omega
end L2
namespace K41
open PySem PySem.Spec PyProof.Rows L2
abbrev sLeads:Stmt:=top 20 -- leads
abbrev sSpread:Stmt:=top 22 -- spread
section
variable {P:Program} {w:World} {K:PySem.W.Frag} {mg:Str->Option Value} {base:Heap}
structure StepsL (H:Hp) (d:Addr) (ns:List Str) (ps:List (Str × Str)) (ls:List Addr):Prop where
 len:ls.length=ns.length
 nd:ls.Nodup
 hd:H d=some (.dK (tab ns ls))
 at_:∀ (i:Nat) z l,ns[i]?=some z->ls[i]?=some l->H l=some (.lst ((outs ps z).map V.str))
theorem StepsL.same {H H':Hp} {d:Addr} {ns:List Str} {ps:List (Str × Str)} {ls:List Addr} (h:StepsL H d ns ps ls) (s:Same H H'):StepsL H' d ns ps ls:=⟨h.len,h.nd,s _ _ h.hd,fun i z l e1 e2=>s _ _ (h.at_ i z l e1 e2)⟩
theorem StepsL.get {H:Hp} {d:Addr} {ns:List Str} {ps:List (Str × Str)} {ls:List Addr} (h:StepsL H d ns ps ls) (nd:ns.Nodup) {z:Str} (hz:z∈ns):∃ (i:Nat) (l:Addr),ns[i]?=some z/\ls[i]?=some l/\valV (tab ns ls) (Sum.inr z:Key)=some (.ref l)/\H l=some (.lst ((outs ps z).map V.str)):=by
 obtain ⟨i,hi,e⟩:=List.getElem_of_mem hz
 have e1:ns[i]?=some z:=by rw [List.getElem?_eq_getElem hi,e]
 have hl:i < ls.length:=by rw [h.len];exact hi
 have e2:ls[i]?=some ls[i]:=List.getElem?_eq_getElem hl
 exact ⟨i,ls[i],e1,e2,tab_at nd e1 e2,h.at_ i z _ e1 e2⟩
def spLeads:Sp:=fun vs H Q _=>∃ (p t:Addr) (ns:List Str) (ts:List Addr) (ps:List (Str × Str)),vs=[.ref p,.ref t]/\H p=some (.lst (ns.map V.str))/\H t=some (.lst (ts.map V.ref))/\TiesAt H ts ps/\ns.Nodup/\ns.length<=12/\InP ns ps/\ps.length<=1000 /\
 ∀ (d:Addr) (ls:List Addr) (H':Hp),StepsL H' d ns ps ls->Same H H'->Q (.ref d) H'
abbrev nLe:List Str:=["places","ties","steps","a","b"]
theorem scLe:FnScope nLe ["places","ties"] (defScope sLeads):=⟨rfl,rfl,rfl,by decide +kernel,rfl,by decide +kernel,by decide +kernel⟩
theorem ok_leads {f:Addr} {fd:FuncData} (F:Fun K "leads" "leads" sLeads f fd) (T:Glb mg):FnOk P w K mg base CX0 1 f fd ["places","ties"] spLeads:=by
 refine F.ok scLe (fun vs H Q E h=>?_) (fun cdv A outer s H vs Q E hr h=>?_)
 ·obtain ⟨p,t,ns,ts,ps,rfl,_⟩:=h
  rfl
 ·obtain ⟨p,t,ns,ts,ps,rfl,hp,ht,hT,nd,few,hI,many,k⟩:=h
  have hu:=hu_of hr
  refine ⟨_,pss_cons (ps_setD (i:=2) ["place"] [] scLe.nd rfl rfl rfl (compSc (osc:=(defScope sLeads).names) (N:=nLe) rfl rfl (by decide +kernel)) (gk_name (by decide)) (pi_list (pv 0))
     (fun _ _ _=>pg_name (i:=0) (show (["place"]:List Str).Nodup by decide +kernel) rfl (Or.inl rfl)) (fun _ _ _=>pifs_nil) (fun _ _ _=>pv 0) (fun _ _ _=>pe_lst pa_nil))
   (pss_cons (ps_for PassesOwn.never rfl (pi_list (pv 1)) (pg_tup rfl (pgs_cons (pg_name (i:=3) scLe.nd rfl (Or.inl rfl)) (pgs_cons (pg_name (i:=4) scLe.nd rfl (Or.inl rfl)) pgs_nil)))
    (pss_one (ps_expr (pe_bm PySem.F.plainAttrs_list PySem.F.slot_list_append PySem.F.type_list_append mt_append (pe_dget hu (pv 2) (pv 3) (fun _ _=>rfl)) (pa_cons (pv 4) pa_nil)))))
   (pss_one (ps_ret (pv 2)))),?_⟩
  refine ⟨_,rfl,p,rfl,⟨_,SqL.of hp⟩,dc_list (K:=K) (xs:=ns.map V.str) (fun i kvs H2=>Same H H2/\∃ ls:List Addr,ls.length=i/\ls.Nodup/\kvs=tab (ns.take i) ls/\∀ l∈ls,H l=none/\H2 l=some (.lst [])) ⟨Same.refl _,[],rfl,List.nodup_nil,rfl,fun _ z=>nomatch z⟩ ?_ ?_ ?_ ?_⟩
  ·rintro i kvs H2 hi ⟨_,ls,e1,_,rfl,_⟩
   rw [List.length_map] at hi
   have lt:(ns.take i).length=i:=by rw [List.length_take];omega
   rw [tab_len (by rw [e1,lt]),lt]
   exact Nat.le_of_lt (small1000 (by omega))
  ·rintro i kvs H2 _ ⟨s2,_⟩
   exact SqL.of (s2 _ _ hp)
  ·rintro i x kvs H2 R hx ⟨s2,ls,e1,nl,rfl,all⟩ kR
   rw [List.getElem?_map] at hx
   obtain ⟨z,ez,rfl⟩:=Option.map_eq_some_iff.mp hx
   have hi:i < ns.length:=(List.getElem?_eq_some_iff.mp ez).1
   have lt:(ns.take i).length=i:=by rw [List.length_take];omega
   simp only [tYes,gName,if_true]
   refine ⟨_,rfl,(by decide),fun l hl=>⟨Sum.inr z,rfl,kR _ _ ?_⟩⟩
   have nz:z ∉ ns.take i:=fun m=>by
    obtain ⟨j,hj,e⟩:=List.getElem_of_mem m
    have hj':j < i:=by rw [lt] at hj;exact hj
    have q:ns[j]?=some z:=by
     rw [<- e,List.getElem_take,List.getElem?_eq_getElem]
    have:=nd_at nd q ez
    omega
   have nl':l ∉ ls:=fun m=>by rw [(all l m).2] at hl;cases hl
   refine ⟨s2.trans (same_upd hl),ls++[l],by simp [e1],nd_snoc nl nl',?_,fun y hy=>?_⟩
   ·rw [List.take_add_one,ez,putK_new _ (tab_none nz)]
    exact (tab_snoc z l (by rw [e1,lt])).symm
   ·rcases List.mem_append.mp hy with q | q
    ·exact ⟨(all y q).1,by rw [upd_ne (ne_of_none (all y q).2 hl)];exact (all y q).2⟩
    ·rw [List.mem_singleton.mp q];exact ⟨s2.free hl,upd_same⟩
  ·rintro kvs H2 ⟨s2,ls,e1,nl,rfl,all⟩ d hd
   rw [List.length_map] at e1 ⊢
   rw [List.take_of_length_le (Nat.le_refl _)]
   have hS:StepsL (upd H2 d (.dK (tab ns ls))) d ns [] ls:=⟨e1,nl,upd_same,fun i z l _ el=>by
    have:=(all l (List.mem_of_getElem? el)).2
    rw [upd_ne (ne_of_none this hd)];exact this⟩
   have s3:Same H (upd H2 d (.dK (tab ns ls))):=s2.trans (same_upd hd)
   generalize upd H2 d (.dK (tab ns ls))=H3 at hS s3 ⊢
   refine ⟨_,rfl,t,rfl,⟨_,SqL.of (s3 _ _ ht)⟩,for_list (K:=K) (xs:=ts.map V.ref) (fun i σ H4=>∃ v3 v4,σ=[some (V.ref p),some (V.ref t),some (V.ref d),v3,v4]/\Same H H4/\StepsL H4 d ns (ps.take i) ls) ⟨_,_,rfl,s3,by rw [List.take_zero];exact hS⟩ ?_ ?_ ?_⟩
   ·rintro i σ H4 _ ⟨v3,v4,rfl,s4,_⟩
    exact SqL.of (s4 _ _ ht)
   ·rintro i y σ H4 hy ⟨v3,v4,rfl,s4,S4⟩
    rw [List.getElem?_map] at hy
    obtain ⟨u,eu,rfl⟩:=Option.map_eq_some_iff.mp hy
    obtain ⟨pr,ep,hpr⟩:=hT.get eu
    obtain ⟨i1,i2⟩:=hI pr (List.mem_of_getElem? ep)
    refine ⟨u,_,rfl,SqT.of (s4 _ _ hpr),rfl,_,_,rfl,_,_,rfl,rfl,?_⟩
    obtain ⟨j,l,j1,j2,j3,j4⟩:=S4.get nd i1
    refine ⟨_,rfl,_,rfl,d,_,rfl,(show DGet H4 d (.str pr.1) (some (.ref l)) from j3 ▸ DGet.k (k:=Sum.inr pr.1) S4.hd),.inl ⟨rfl,_,SqL.of j4⟩,_,rfl,l,_,_,rfl,rfl,j4,?_,?_⟩
    ·rw [List.length_map]
     refine small1000 (Nat.le_trans (outs_len _ _) (Nat.le_trans ?_ many))
     rw [List.length_take];exact Nat.min_le_right _ _
    ·have hl0:H l=none:=(all l (List.mem_of_getElem? j2)).1
     refine ⟨_,_,rfl,Same.upd_new s4 hl0,S4.len,S4.nd,?_,fun i' z' l' e1' e2'=>?_⟩
     ·rw [upd_ne (ne_of S4.hd j4 (by intro z;cases z))];exact S4.hd
     ·rw [List.take_add_one,ep]
      show _=some (HO.lst ((outs (ps.take i++[pr]) z').map V.str))
      rw [outs_snoc]
      by_cases e:i'=j
      ·subst e
       rw [j1] at e1';rw [j2] at e2'
       cases e1';cases e2'
       rw [upd_same,if_pos rfl];simp
      ·have nl':l'≠l:=fun q=>e (nd_at nl (q ▸ e2') j2)
       have nz':¬ pr.1=z':=fun q=>e (nd_at nd (q ▸ e1') j1)
       rw [upd_ne nl',if_neg nz']
       exact S4.at_ i' z' l' e1' e2'
   ·rintro σ H4 ⟨v3,v4,rfl,s4,S4⟩
    rw [List.length_map,hT.len,List.take_of_length_le (Nat.le_refl _)] at S4
    exact ⟨_,rfl,k d ls H4 S4 s4⟩
end
structure Fl (ns:List Str) (ps:List (Str × Str)) (a:Str) (zs hs:List Str):Prop where
 nd:zs.Nodup
 sub:∀ z∈zs,z∈ns
 rch:∀ z∈zs,Rch ps a z
 hsub:∀ z∈hs,z∈zs
 hnd:hs.Nodup
theorem Fl.more {ns:List Str} {ps:List (Str × Str)} {a b c:Str} {zs hs:List Str} (F:Fl ns ps a zs hs) (hi:InP ns ps) (hb:b∈zs) (t:(b,c)∈ps) (n:c ∉ zs):Fl ns ps a (zs++[c]) (hs++[c]) where
 nd:=nd_snoc F.nd n
 sub:=fun z hz=>(List.mem_append.mp hz).elim (F.sub z) fun e=>by rw [List.mem_singleton.mp e];exact (hi _ t).2
 rch:=fun z hz=>(List.mem_append.mp hz).elim (F.rch z) fun e=>by rw [List.mem_singleton.mp e];exact (F.rch b hb).on t
 hsub:=fun z hz=>(List.mem_append.mp hz).elim (fun h=>List.mem_append_left _ (F.hsub z h)) fun e=>List.mem_append_right _ e
 hnd:=nd_snoc F.hnd fun m=>n (F.hsub c m)
def kz (zs:List Str):List (Key × V):=zs.map fun z=>(Sum.inr z,V.bl true)
theorem kz_val (zs:List Str) (z:Str):valV (kz zs) (Sum.inr z:Key)=if z∈zs then some (.bl true) else none:=by
 induction zs with
 | nil=>rfl
 | cons y r ih =>
  by_cases e:y=z
  ·subst e
   rw [if_pos List.mem_cons_self]
   exact valV_pos rfl
  ·show valV ((Sum.inr y,V.bl true)::kz r) _=_
   rw [valV_neg (fun q=>e (Sum.inr.inj q)),ih]
   have:z∈y::r ↔ z∈r:=by
    rw [List.mem_cons]
    exact ⟨fun h=>h.resolve_left fun q=>e q.symm,Or.inr⟩
   by_cases h:z∈r
   ·rw [if_pos h,if_pos (this.mpr h)]
   ·rw [if_neg h,if_neg fun q=>h (this.mp q)]
theorem kz_put {zs:List Str} {z:Str} (h:z ∉ zs):putK (kz zs) (Sum.inr z:Key) (.bl true)=kz (zs++[z]):=by
 rw [putK_new _ (by rw [kz_val,if_neg h])]
 simp [kz]
theorem kz_txt (zs:List Str):KTxt (kz zs) zs:=by simp [KTxt,kz]
section
variable {P:Program} {w:World} {K:PySem.W.Frag} {mg:Str->Option Value} {base:Heap}
def spSpread:Sp:=fun vs H Q _=>∃ (d:Addr) (a:Str) (ns:List Str) (ps:List (Str × Str)) (ls:List Addr),vs=[.ref d,.str a]/\StepsL H d ns ps ls/\ns.Nodup/\ns.length<=12/\InP ns ps/\ps.length<=1000/\a∈ns /\
 ∀ (l:Addr) (H':Hp),H l=none->H' l=some (.lst ((rch ns ps a).map V.str))->Same H H'->Q (.ref l) H'
abbrev nSp:List Str:=["steps","start","seen","ahead","place","after"]
theorem scSp:FnScope nSp ["steps","start"] (defScope sSpread):=⟨rfl,rfl,rfl,by decide +kernel,rfl,by decide +kernel,by decide +kernel⟩
def SpW (d se ah:Addr) (a:Str) (ns:List Str) (ps:List (Str × Str)) (H:Hp) (m:Nat) (σ:L2.St) (H2:Hp):Prop :=
 ∃ (v4 v5:Option V) (zs hs:List Str),σ=[some (.ref d),some (.str a),some (.ref se),some (.ref ah),v4,v5]/\Same H H2/\H2 se=some (.dK (kz zs))/\H2 ah=some (.lst (hs.map V.str))/\Fl ns ps a zs hs/\a∈zs /\
  (∀ z∈zs,z ∉ hs->∀ b∈outs ps z,b∈zs)/\m=2 * (ns.length - zs.length)+hs.length
theorem ok_spread {f:Addr} {fd:FuncData} (F:Fun K "spread" "spread" sSpread f fd) (T:Glb mg):FnOk P w K mg base CX0 1 f fd ["steps","start"] spSpread:=by
 refine F.ok scSp (fun vs H Q E h=>?_) (fun cdv A outer s H vs Q E hr h=>?_)
 ·obtain ⟨d,a,ns,ps,ls,rfl,_⟩:=h
  rfl
 ·obtain ⟨d,a,ns,ps,ls,rfl,hS,nd,few,hI,many,ha,k⟩:=h
  have hu:=hu_of hr
  refine ⟨_,pss_cons (ps_set (i:=2) scSp.nd rfl (Or.inl rfl) (pe_disp (pps_cons (pv 1) pe_bl pps_nil) rfl rfl (by intro z;cases z) (by decide)))
   (pss_cons (ps_set (i:=3) scSp.nd rfl (Or.inl rfl) (pe_lst (pa_cons (pv 1) pa_nil)))
   (pss_cons (ps_while PassesOwn.never (pt_truth (pv 3) (fun _=>rfl))
    (pss_cons (ps_set (i:=4) scSp.nd rfl (Or.inl rfl) (pe_bm0 PySem.F.plainAttrs_list PySem.F.slot_list_pop PySem.F.type_list_pop mt_pop (pv 3)))
    (pss_one (ps_for PassesOwn.never rfl (pi_list (pe_dget hu (pv 0) (pv 4) (fun _ _=>rfl))) (pg_name (i:=5) scSp.nd rfl (Or.inl rfl))
     (pss_one (ps_if (pt_cmp (pc_dnotin hu (pv 5) (pv 2)))
      (pss_cons (ps_dput hu (pv 2) (pv 5) pe_bl rfl)
      (pss_one (ps_expr (pe_bm PySem.F.plainAttrs_list PySem.F.slot_list_append PySem.F.type_list_append mt_append (pv 3) (pa_cons (pv 5) pa_nil))))) pss_nil))))))
   (pss_one (ps_ret (pe_callB (call_sorted_dk rfl) (by rfl) T.sorted boot_sorted (pa_cons (pv 2) pa_nil)))))),?_⟩
  intro se hse
  refine ⟨_,rfl,upd_same,[(Sum.inr a,V.bl true)],rfl,(by show 1<=15;decide),?_⟩
  rw [upd_upd,show mergeK [] [((Sum.inr a:Key),V.bl true)]=kz [a] from rfl]
  have s1:=same_upd (o:=.dK (kz [a])) hse
  have hse1:=upd_same (H:=H) (a:=se) (o:=.dK (kz [a]))
  generalize upd H se (.dK (kz [a]))=H1 at s1 hse1 ⊢
  refine ⟨_,rfl,(by show 1<=sizeLine;decide),fun ah hah=>?_⟩
  have hah0:H ah=none:=s1.free hah
  have nsa:se≠ah:=ne_of_none hse1 hah
  refine ⟨SpW d se ah a ns ps H,⟨_,_,_,[a],[a],rfl,s1.trans (same_upd hah),by rw [upd_ne nsa];exact hse1,upd_same,?_,List.mem_singleton.mpr rfl,fun z hz n=>absurd hz n,rfl⟩,?_⟩
  ·exact ⟨by simp,fun z hz=>by rw [List.mem_singleton.mp hz];exact ha,fun z hz=>by rw [List.mem_singleton.mp hz];exact .here _,fun z hz=>hz,by simp⟩
  rintro m σ H2 ⟨v4,v5,zs,hs,rfl,s2,hse2,hah2,FL,az,cl,rfl⟩
  refine ⟨_,rfl,_,.inl ⟨_,SqL.of hah2,rfl⟩,?_⟩
  have S2:=hS.same s2
  have zle:zs.length<=ns.length:=nd_le FL.nd FL.sub
  have hnodup:True:=trivial
  refine ite2 (fun hne=>?_) (fun hem=>?_)
  ·-- a turn
   have hpos:hs≠[]:=fun e=>by rw [e] at hne;simp at hne
   obtain ⟨hs0,pl,rfl⟩:∃ hs0 pl,hs=hs0++[pl]:=⟨hs.dropLast,hs.getLast hpos,(List.dropLast_concat_getLast hpos).symm⟩
   refine ⟨fun σ' H'=>∃ m',m' < 2 * (ns.length - zs.length)+(hs0++[pl]).length/\SpW d se ah a ns ps H m' σ' H',fun σ' H' h=>h,?_⟩
   refine ⟨_,rfl,.inl ⟨rfl,_,SqL.of hah2⟩,ah,_,.str pl,rfl,rfl,hah2,(by simp),?_⟩
   have eh:((hs0++[pl]).map V.str).dropLast=hs0.map V.str:=by simp
   rw [eh]
   have nah:se≠ah:=ne_of hse2 hah2 (by intro z;cases z)
   have s3:Same H (upd H2 ah (.lst (hs0.map V.str))):=Same.upd_new s2 hah0
   have hse3:(upd H2 ah (.lst (hs0.map V.str))) se=some (.dK (kz zs)):=by rw [upd_ne nah];exact hse2
   have hah3:=upd_same (H:=H2) (a:=ah) (o:=.lst (hs0.map V.str))
   generalize upd H2 ah (.lst (hs0.map V.str))=H3 at s3 hse3 hah3 ⊢
   have plz:pl∈zs:=FL.hsub pl (by simp)
   have S3:=hS.same s3
   obtain ⟨j,l,j1,j2,j3,j4⟩:=S3.get nd (FL.sub pl plz)
   refine ⟨_,rfl,_,rfl,d,_,rfl,(show DGet H3 d (.str pl) (some (.ref l)) from j3 ▸ DGet.k (k:=Sum.inr pl) S3.hd),l,rfl,⟨_,SqL.of j4⟩,?_⟩
   have hl0:=hS.at_ j pl l j1 j2
   refine for_list (K:=K) (xs:=(outs ps pl).map V.str) (fun i σ H4=>∃ (v5:Option V) (zs4 hs4:List Str),σ=[some (.ref d),some (.str a),some (.ref se),some (.ref ah),some (.str pl),v5]/\Same H H4/\H4 se=some (.dK (kz zs4))/\H4 ah=some (.lst (hs4.map V.str))/\Fl ns ps a zs4 hs4/\(∀ z∈zs,z∈zs4) /\
     (∀ z∈zs4,z ∉ hs4->z≠pl->∀ b∈outs ps z,b∈zs4)/\(∀ b∈(outs ps pl).take i,b∈zs4)/\2 * (ns.length - zs4.length)+hs4.length < 2 * (ns.length - zs.length)+(hs0++[pl]).length/\zs4.length<=ns.length)
    ⟨_,zs,hs0,rfl,s3,hse3,hah3,⟨FL.nd,FL.sub,FL.rch,fun z hz=>FL.hsub z (List.mem_append_left _ hz),(List.nodup_append.mp FL.hnd).1⟩,fun z hz=>hz,?_,fun b hb=>by simp at hb,by simp,zle⟩ ?_ ?_ ?_
   ·intro z hz n1 n2
    exact cl z hz fun q=>(List.mem_append.mp q).elim n1 fun e=>n2 (List.mem_singleton.mp e)
   ·rintro i σ H4 _ ⟨v5,zs4,hs4,rfl,s4,_⟩
    exact SqL.of (s4 _ _ hl0)
   ·rintro i y σ H4 hy ⟨v5,zs4,hs4,rfl,s4,hse4,hah4,F4,sub4,cl4,seen4,m4,le4⟩
    rw [List.getElem?_map] at hy
    obtain ⟨b,eb,rfl⟩:=Option.map_eq_some_iff.mp hy
    have hb:b∈outs ps pl:=List.mem_of_getElem? eb
    have tb:(pl,b)∈ps:=outs_mem.mp hb
    have ebt:(outs ps pl).take (i+1)=(outs ps pl).take i++[b]:=by rw [List.take_add_one,eb];rfl
    refine ⟨_,rfl,_,rfl,se,_,rfl,DGet.k (k:=Sum.inr b) hse4,_,rfl,?_⟩
    rw [kz_val]
    by_cases hin:b∈zs4
    ·rw [if_pos hin]
     refine iteF ⟨_,zs4,hs4,rfl,s4,hse4,hah4,F4,sub4,cl4,fun y hy=>?_,m4,le4⟩
     rw [ebt] at hy
     exact (List.mem_append.mp hy).elim (seen4 y) fun e=>by rw [List.mem_singleton.mp e];exact hin
    ·rw [if_neg hin]
     have le5:(zs4++[b]).length<=ns.length:=nd_le (F4.more hI (sub4 pl plz) tb hin).nd (F4.more hI (sub4 pl plz) tb hin).sub
     refine iteT ⟨_,rfl,_,rfl,se,_,rfl,DPut.k (k:=Sum.inr b) hse4 (by simp only [kz,List.length_map];exact small1000 (by omega)),?_⟩
     rw [kz_put hin]
     have nsa4:se≠ah:=nah
     have hah5:(upd H4 se (.dK (kz (zs4++[b])))) ah=some (.lst (hs4.map V.str)):=by rw [upd_ne (Ne.symm nsa4)];exact hah4
     have hl4:hs4.length<=1000:=by
      have:=nd_le F4.hnd F4.hsub
      omega
     refine ⟨_,rfl,.inl ⟨rfl,_,SqL.of hah5⟩,_,rfl,ah,_,_,rfl,rfl,hah5,(by rw [List.length_map];exact small1000 hl4),?_⟩
     refine ⟨_,zs4++[b],hs4++[b],rfl,Same.upd_new (Same.upd_new s4 hse) hah0,by rw [upd_ne nsa4,upd_same],by rw [upd_same];simp,F4.more hI (sub4 pl plz) tb hin,fun z hz=>List.mem_append_left _ (sub4 z hz),fun z hz n1 n2 c hc=>?_,fun y hy=>?_,?_,le5⟩
     ·rcases List.mem_append.mp hz with q | q
      ·exact List.mem_append_left _ (cl4 z q (fun e=>n1 (List.mem_append_left _ e)) n2 c hc)
      ·exact absurd (List.mem_append_right _ q) n1
     ·rw [ebt] at hy
      exact (List.mem_append.mp hy).elim (fun q=>List.mem_append_left _ (seen4 y q)) fun e=>List.mem_append_right _ e
     ·simp only [List.length_append,List.length_singleton] at m4 le5 ⊢
      omega
   ·rintro σ H4 ⟨v5,zs4,hs4,rfl,s4,hse4,hah4,F4,sub4,cl4,seen4,m4,le4⟩
    rw [List.length_map,List.take_of_length_le (Nat.le_refl _)] at seen4
    refine ⟨_,m4,_,_,zs4,hs4,rfl,s4,hse4,hah4,F4,sub4 a az,fun z hz n b hb=>?_,rfl⟩
    by_cases e:z=pl
    ·subst e;exact seen4 b hb
    ·exact cl4 z hz n e b hb
  ·-- the end
   have he:hs=[]:=by
    cases hs with
    | nil=>rfl
    | cons x r=>simp at hem
   subst he
   have all:∀ z,z∈zs ↔ Rch ps a z:=fun z=>⟨FL.rch z,fun r=>r.stays (S:=(·∈zs)) az fun p hp h1=>cl p.1 h1 (by simp) p.2 (outs_mem.mpr hp)⟩
   refine ⟨_,rfl,se,_,zs,rfl,hse2,kz_txt zs,by omega,fun l hl=>?_⟩
   rw [rch_of nd FL.nd hI ha all]
   exact k l _ (s2.free hl) upd_same (s2.trans (same_upd hl))
end
abbrev sTurned:Stmt:=top 21 -- turned_pairs
def turn (ps:List (Str × Str)):List (Str × Str):=ps.map fun p=>(p.2,p.1)
theorem turn_mem {ps:List (Str × Str)} {a b:Str}:(a,b)∈turn ps ↔ (b,a)∈ps:=by
 unfold turn
 rw [List.mem_map]
 constructor
 ·rintro ⟨p,hp,e⟩
  cases e
  exact hp
 ·intro h
  exact ⟨_,h,rfl⟩
theorem Rch.turned {ps:List (Str × Str)} {a b:Str} (h:Rch ps a b):Rch (turn ps) b a:=by
 induction h with
 | here=>exact .here _
 | on h t ih=>exact (Rch.one (turn_mem.mpr t)).trans ih
theorem turn_in {ns:List Str} {ps:List (Str × Str)} (h:InP ns ps):InP ns (turn ps):=fun p hp=>by
 obtain ⟨q,hq,rfl⟩:=List.mem_map.mp hp
 exact ⟨(h q hq).2,(h q hq).1⟩
theorem turn_len (ps:List (Str × Str)):(turn ps).length=ps.length:=List.length_map ..
section
variable {P:Program} {w:World} {K:PySem.W.Frag} {mg:Str->Option Value} {base:Heap}
def spTurned:Sp:=fun vs H Q _=>∃ (b:Addr) (ts:List Addr) (ps:List (Str × Str)),vs=[.ref b]/\H b=some (.lst (ts.map V.ref))/\TiesAt H ts ps/\ps.length<=1000 /\
 ∀ (l:Addr) (us:List Addr) (H':Hp),H l=none->H' l=some (.lst (us.map V.ref))->TiesAt H' us (turn ps)->Same H H'->Q (.ref l) H'
theorem scTu:FnScope ["ties"] ["ties"] (defScope sTurned):=⟨rfl,rfl,rfl,by decide +kernel,rfl,by decide +kernel,by decide +kernel⟩
theorem lc_turn {b:Addr} {ts:List Addr} {ps:List (Str × Str)} {H:Hp} {Q:VK} {σ:L2.St} {fr:List Nat} {o1 o2:Str} (hb:H b=some (.lst (ts.map V.ref))) (hT:TiesAt H ts ps) (few:ps.length<=1000)
  (k:∀ (l:Addr) (us:List Addr) (H':Hp),H l=none->H' l=some (.lst (us.map V.ref))->TiesAt H' us (turn ps)->Same H H'->Q (.ref l) H') :
  lcLoop [o1,o2] fr (gTup K 2 (gCons (gName 0) (gCons (gName 1) gNil))) tYes (tTup (tCons (tVar 1) (tCons (tVar 0) tNil))) σ Q (Itl K b) H:=by
 have le:(ts.map V.ref).length=ps.length:=by rw [List.length_map,hT.len]
 refine lc_list (K:=K) (xs:=ts.map V.ref) (fun i ys H5=>Same H H5/\∃ us:List Addr,ys=us.map V.ref/\us.length=i/\TiesAt H5 us (turn (ps.take i))) ⟨Same.refl _,[],rfl,rfl,.nil⟩ ?_ ?_ ?_ ?_
 ·rintro i ys H5 hi ⟨_,us,rfl,e,_⟩
  rw [List.length_map,e]
  rw [le] at hi
  exact Nat.le_trans hi (Nat.le_trans few (by decide))
 ·rintro i ys H5 _ ⟨s5,_⟩
  exact SqL.of (s5 _ _ hb)
 ·rintro i y ys H5 R hy ⟨s5,us,rfl,e,hU⟩ kR
  rw [List.getElem?_map] at hy
  obtain ⟨t,et,rfl⟩:=Option.map_eq_some_iff.mp hy
  obtain ⟨p,ep,ht⟩:=hT.get et
  refine ⟨t,_,rfl,SqT.of (s5 _ _ ht),rfl,_,_,rfl,_,_,rfl,rfl,?_⟩
  simp only [tYes,if_true]
  refine ⟨_,rfl,_,rfl,(by show 2<=sizeLine;decide),fun u hu=>?_⟩
  have e2:us.map V.ref++[V.ref u]=(us++[u]).map V.ref:=by simp
  refine kR _ _ ⟨s5.trans (same_upd hu),us++[u],e2,by simp [e],?_⟩
  rw [List.take_add_one,ep]
  unfold turn
  rw [List.map_append]
  exact TiesAt.snoc (hU.same (same_upd hu)) upd_same
 ·rintro ys H5 ⟨s5,us,rfl,e,hU⟩ D hD
  rw [le,List.take_length] at hU
  exact k D us _ (s5.free hD) upd_same (hU.same (same_upd hD)) (s5.trans (same_upd hD))
theorem ok_turned {f:Addr} {fd:FuncData} (F:Fun K "turned_pairs" "turned_pairs" sTurned f fd) (T:Glb mg):FnOk P w K mg base CX0 1 f fd ["ties"] spTurned:=by
 refine F.ok scTu (fun vs H Q E h=>?_) (fun cdv A outer s H vs Q E hr h=>?_)
 ·obtain ⟨b,ts,ps,rfl,_⟩:=h
  rfl
 ·obtain ⟨b,ts,ps,rfl,hb,hT,few,k⟩:=h
  refine ⟨_,pss_one (ps_ret (pe_lc ["a","b"] [] rfl (compSc (osc:=(defScope sTurned).names) (N:=["ties"]) rfl rfl (by decide +kernel)) (gk_two (k:=2) (by decide) (by decide)) (pi_list (pv 0))
    (fun _ _ _=>pg_tup (n:=2) rfl (pgs_cons (pg_name (i:=0) (show (["a","b"]:List Str).Nodup by decide +kernel) rfl (Or.inl rfl)) (pgs_cons (pg_name (i:=1) (show (["a","b"]:List Str).Nodup by decide +kernel) rfl (Or.inl rfl)) pgs_nil))) (fun _ _ _=>pifs_nil)
    (fun _ _ _=>pe_tup (pa_cons (pv 1) (pa_cons (pv 0) pa_nil))))),?_⟩
  exact ⟨_,rfl,b,rfl,⟨_,SqL.of hb⟩,lc_turn hb hT few k⟩
end
end K41
namespace L3
open PySem
def adv (m:Nat) (p:Probe):Probe :=
 if p.more > 0 then { p with j:=p.j+1,more:=p.more - 1 } else
 let (i,perturb):=SetTable.leap m p.i p.perturb
 { p with j:=i,more:=SetTable.runEnd m i - i,i,perturb }
def start (m:Nat) (h:Int):Probe:={ j:=SetTable.bits h % (m+1),more:=SetTable.runEnd m (SetTable.bits h % (m+1)) - SetTable.bits h % (m+1),i:=SetTable.bits h % (m+1),perturb:=SetTable.bits h,dummy:=none }
def st (m:Nat) (h:Int):Nat->Probe
 | 0=>start m h
 | k+1=>adv m (st m h k)
def sl (m:Nat) (h:Int) (k:Nat):Nat:=(st m h k).j
theorem adv_dummy (m:Nat) (p:Probe) (h:p.dummy=none):(adv m p).dummy=none:=by
 unfold adv;split<;>exact h
theorem st_dummy (m:Nat) (h:Int):∀ k,(st m h k).dummy=none
 | 0=>rfl
 | k+1=>adv_dummy m _ (st_dummy m h k)
def lp (m:Nat) (h:Int):Nat->Nat × Nat
 | 0=>(SetTable.bits h % (m+1),SetTable.bits h)
 | k+1=>SetTable.leap m (lp m h k).1 (lp m h k).2
def at_ (m:Nat) (h:Int) (L r:Nat):Probe:={ j:=(lp m h L).1+r,more:=SetTable.runEnd m (lp m h L).1 - (lp m h L).1 - r,i:=(lp m h L).1,perturb:=(lp m h L).2,dummy:=none }
def run (m:Nat) (h:Int) (L:Nat):Nat:=SetTable.runEnd m (lp m h L).1 - (lp m h L).1
theorem run_le (m:Nat) (h:Int) (L:Nat):run m h L<=9:=by unfold run SetTable.runEnd;split<;>omega
def off (m:Nat) (h:Int):Nat->Nat
 | 0=>0
 | L+1=>off m h L+run m h L+1
theorem off_le (m:Nat) (h:Int):∀ L,off m h L<=10 * L
 | 0=>Nat.le_refl _
 | L+1=>by have:=off_le m h L;have:=run_le m h L;unfold off;omega
theorem st_off (m:Nat) (h:Int):∀ (L r:Nat),r<=run m h L->st m h (off m h L+r)=at_ m h L r
 | 0,0,_=>by simp [off,st,start,at_,lp]
 | L+1,0,_=>by
  show adv m (st m h (off m h L+run m h L))=_
  rw [st_off m h L (run m h L) (Nat.le_refl _)]
  unfold adv at_
  rw [if_neg (by unfold run;simp)]
  simp [lp]
 | L,r+1,hr=>by
  show adv m (st m h (off m h L+r))=_
  rw [st_off m h L r (by omega)]
  unfold adv at_
  rw [if_pos (by unfold run at hr;simp;omega)]
  simp
  omega
theorem sl_off {m:Nat} {h:Int} {L r:Nat} (hr:r<=run m h L):sl m h (off m h L+r)=(lp m h L).1+r:=by unfold sl;rw [st_off m h L r hr];rfl
theorem bits_lt (h:Int):SetTable.bits h < 2 ^ 64:=by
 unfold SetTable.bits
 have a:=Int.emod_nonneg h (show (2 ^ 64:Int)≠0 by decide)
 have b:=Int.emod_lt_of_pos h (show (0:Int) < 2 ^ 64 by decide)
 omega
theorem lp_per (m:Nat) (h:Int):∀ k,(lp m h k).2=SetTable.bits h / 32 ^ k
 | 0=>by simp [lp]
 | k+1=>by
  show (lp m h k).2 / 32=_
  rw [lp_per m h k,Nat.div_div_eq_div_mul,Nat.pow_succ]
theorem lp_zero (m:Nat) (h:Int) (k:Nat):(lp m h (13+k)).2=0:=by
 rw [lp_per]
 refine Nat.div_eq_of_lt (Nat.lt_of_lt_of_le (bits_lt h) ?_)
 rw [Nat.pow_add]
 exact Nat.le_trans (by decide:2 ^ 64<=32 ^ 13) (Nat.le_mul_of_pos_right _ (Nat.pow_pos (by decide)))
theorem lp_lt (m:Nat) (h:Int):∀ k,(lp m h k).1 < m+1
 | 0=>Nat.mod_lt _ (Nat.succ_pos _)
 | k+1=>Nat.mod_lt _ (Nat.succ_pos _)
def it (m:Nat) (i:Nat):Nat->Nat
 | 0=>i
 | k+1=>(it m i k * 5+1) % (m+1)
theorem lp_it (m:Nat) (h:Int):∀ k,(lp m h (13+k)).1=it m (lp m h 13).1 k
 | 0=>rfl
 | k+1=>by
  show (SetTable.leap m (lp m h (13+k)).1 (lp m h (13+k)).2).1=_
  have z:(lp m h (13+k)).2 / 32=0:=by rw [lp_zero]
  unfold SetTable.leap
  rw [z,lp_it m h k]
  rfl
theorem it7:∀ i j:Fin 8,∃ k:Fin 8,it 7 i.val k.val=j.val:=by decide +kernel
theorem it31:∀ i j:Fin 32,∃ k:Fin 32,it 31 i.val k.val=j.val:=by decide +kernel
theorem leaps {m:Nat} (hm:m=7\/m=31) (h:Int) {j:Nat} (hj:j<=m):∃ L,L < m+15/\(lp m h L).1=j:=by
 have i:=lp_lt m h 13
 rcases hm with rfl | rfl
 ·obtain ⟨k,e⟩:=it7 ⟨_,i⟩ ⟨j,by omega⟩
  exact ⟨13+k.val,by omega,by rw [lp_it];exact e⟩
 ·obtain ⟨k,e⟩:=it31 ⟨_,i⟩ ⟨j,by omega⟩
  exact ⟨13+k.val,by omega,by rw [lp_it];exact e⟩
theorem cover {m:Nat} (hm:m=7\/m=31) (h:Int) {j:Nat} (hj:j<=m):∃ k,k < 10 * SetTable.turns m/\sl m h k=j:=by
 obtain ⟨L,hL,e⟩:=leaps hm h hj
 refine ⟨off m h L+0,?_,by rw [sl_off (Nat.zero_le _)];exact e⟩
 have:=off_le m h L
 unfold SetTable.turns
 omega
theorem least {P:Nat->Prop}:∀ n,P n->∃ m,m<=n/\P m/\∀ k,k < m->¬ P k:=by
 intro n
 induction n using Nat.strongRecOn with
 | ind n ih =>
  intro h
  by_cases q:∃ k,k < n/\P k
  ·obtain ⟨k,hk,pk⟩:=q
   obtain ⟨m,a,b,c⟩:=ih k hk pk
   exact ⟨m,by omega,b,c⟩
  ·exact ⟨n,Nat.le_refl _,h,fun k hk pk=>q ⟨k,hk,pk⟩⟩
theorem nd_len {α:Type} [DecidableEq α]:∀ {l m:List α},l.Nodup->(∀ x∈l,x∈m)->l.length<=m.length
 | [],m,_,_=>Nat.zero_le _
 | x::l,m,h,k=>by
  obtain ⟨h1,h2⟩:=List.nodup_cons.mp h
  have mx:=k x List.mem_cons_self
  have:=nd_len (m:=m.erase x) h2 fun y hy=>(List.mem_erase_of_ne (a:=y) (b:=x) (fun e=>h1 (by rw [<- e];exact hy))).mpr (k y (List.mem_cons_of_mem _ hy))
  rw [List.length_erase_of_mem mx] at this
  have pos:=List.length_pos_of_mem mx
  rw [List.length_cons]
  omega
theorem ins_get {α:Type} (xs:Array α) {p:Nat} (hp:p<=xs.size) (x:α) (i:Nat):(SetTable.insertAt xs p x)[i]?=if i < p then xs[i]? else if i=p then some x else xs[i - 1]?:=by
 rw [<- Array.getElem?_toList,SetTable.toList_insertAt]
 have lt:(xs.toList.take p).length=p:=by rw [List.length_take];simp;omega
 by_cases h:i < p
 ·rw [if_pos h,List.getElem?_append_left (by omega),List.getElem?_take,if_pos h,Array.getElem?_toList]
 ·rw [if_neg h,List.getElem?_append_right (by omega),lt]
  by_cases e:i=p
  ·subst e;simp
  ·rw [if_neg e]
   obtain ⟨d,rfl⟩:∃ d,i=p+1+d:=⟨i - (p+1),by omega⟩
   rw [show p+1+d - p=d+1 by omega,List.getElem?_cons_succ,List.getElem?_drop,Array.getElem?_toList]
   congr 1
   omega
structure Tab (t:SetTable) (es:Array (Int × Value)):Prop where
 rise:Rising t.place
 size:t.place.size=es.size
 nod:t.dummies=#[]
 msk:t.mask=7\/t.mask=31
 le:∀ i j:Nat,t.place[i]?=some j->j<=t.mask
 few:es.size<=t.mask
 wp:∀ (i j:Nat) (e:Int × Value),t.place[i]?=some j->es[i]?=some e->∃ k,k < 10 * SetTable.turns t.mask/\sl t.mask e.1 k=j/\∀ k',k' < k->∃ i':Nat,t.place[i']?=some (sl t.mask e.1 k')
theorem Tab.fits {t:SetTable} {es:Array (Int × Value)} (T:Tab t es):t.fits es.size=true:=by
 unfold SetTable.fits SetTable.fill
 rw [T.size,T.nod]
 have:=T.few
 simp
 omega
theorem Tab.gave {t:SetTable} {es:Array (Int × Value)} (T:Tab t es):t.gaveWay=false:=by
 unfold SetTable.gaveWay
 rcases T.msk with e | e<;>rw [e]<;>rfl
theorem Tab.free {t:SetTable} {es:Array (Int × Value)} (T:Tab t es):∃ j,j<=t.mask/\∀ i:Nat,t.place[i]?≠some j:=by
 refine Classical.byContradiction fun no=>?_
 have all:∀ j,j<=t.mask->∃ i:Nat,t.place[i]?=some j:=fun j hj=>Classical.byContradiction fun q=>no ⟨j,hj,fun i e=>q ⟨i,e⟩⟩
 have l:=nd_len (l:=List.range (t.mask+1)) (m:=t.place.toList) List.nodup_range fun j hj=>by
  obtain ⟨i,e⟩:=all j (by have:=List.mem_range.mp hj;omega)
  rw [<- Array.getElem?_toList] at e
  exact List.mem_of_getElem? e
 rw [List.length_range,Array.length_toList,T.size] at l
 have:=T.few
 omega
theorem Tab.first {t:SetTable} {es:Array (Int × Value)} (T:Tab t es) (h:Int):∃ K,K < 10 * SetTable.turns t.mask/\(∀ i:Nat,t.place[i]?≠some (sl t.mask h K))/\∀ k,k < K->∃ i:Nat,t.place[i]?=some (sl t.mask h k):=by
 obtain ⟨j,hj,e⟩:=T.free
 obtain ⟨k,hk,es⟩:=cover T.msk h hj
 obtain ⟨K,a,b,c⟩:=least (P:=fun k=>∀ i:Nat,t.place[i]?≠some (sl t.mask h k)) k (by rw [es];exact e)
 exact ⟨K,by omega,b,fun k' hk'=>Classical.byContradiction fun q=>c k' hk' fun i e=>q ⟨i,e⟩⟩
theorem go_spec {t : SetTable} {es : Array (Int × Value)} (T : Tab t es) (hashAt : Nat → Int) (h : Int) : ∀ (f k : Nat), (∃ K, k ≤ K ∧ K < k + f ∧ ∀ i : Nat, t.place[i]? ≠ some (sl t.mask h K)) →
    ∃ n, k ≤ n ∧ (∀ k', k ≤ k' → k' < n → ∃ i : Nat, t.place[i]? = some (sl t.mask h k') ∧ (hashAt i == h) = false) ∧
      (((∀ i : Nat, t.place[i]? ≠ some (sl t.mask h n)) ∧ SetTable.probe.go t hashAt h f (st t.mask h k) = some (.empty (sl t.mask h n) none)) ∨
       ∃ i : Nat, t.place[i]? = some (sl t.mask h n) ∧ (hashAt i == h) = true ∧ SetTable.probe.go t hashAt h f (st t.mask h k) = some (.candidate (sl t.mask h n) i (st t.mask h (n + 1))))
  | 0, k, ⟨K, a, b, _⟩ => by omega
  | f + 1, k, ⟨K, a, b, c⟩ => by
    have ej : (st t.mask h k).j = sl t.mask h k := rfl
    by_cases em : ∃ i : Nat, t.place[i]? = some (sl t.mask h k)
    · obtain ⟨i, ei⟩ := em
      cases hh : hashAt i == h with
      | true =>
        refine ⟨k, Nat.le_refl _, fun k' x y => by omega, .inr ⟨i, ei, hh, ?_⟩⟩
        rw [SetTable.probe.go, ej, slot_live T.rise ei]
        dsimp only
        rw [hh]
        rfl
      | false =>
        have ne : k ≠ K := fun e => c i (e ▸ ei)
        obtain ⟨n, n1, n2, n3⟩ := go_spec T hashAt h f (k + 1) ⟨K, by omega, by omega, c⟩
        have e : SetTable.probe.go t hashAt h (f + 1) (st t.mask h k) = SetTable.probe.go t hashAt h f (st t.mask h (k + 1)) := by
          rw [SetTable.probe.go, ej, slot_live T.rise ei]
          dsimp only
          rw [hh]
          rfl
        rw [e]
        refine ⟨n, by omega, fun k' x y => ?_, n3⟩
        by_cases q : k' = k
        · subst q; exact ⟨i, ei, hh⟩
        · exact n2 k' (by omega) y
    · refine ⟨k, Nat.le_refl _, fun k' x y => by omega, .inl ⟨fun i e => em ⟨i, e⟩, ?_⟩⟩
      rw [SetTable.probe.go, ej, slot_empty T.nod (fun i e => em ⟨i, e⟩)]
      dsimp only
      rw [st_dummy]
theorem Tab.put {t:SetTable} {es:Array (Int × Value)} (T:Tab t es) {h:Int} {x:Value} {K:Nat} (room:es.size+1<=t.mask) (hK:K < 10 * SetTable.turns t.mask) (hj:∀ i:Nat,t.place[i]?≠some (sl t.mask h K)) (hb:∀ k,k < K->∃ i:Nat,t.place[i]?=some (sl t.mask h k)) (sle:sl t.mask h K<=t.mask) :
  Tab (t.put (sl t.mask h K)).1 (SetTable.insertAt es (t.put (sl t.mask h K)).2 (h,x)):=by
 obtain ⟨b1,b2,b3⟩:=below_is T.rise (sl t.mask h K)
 have ep:(t.put (sl t.mask h K)).2=SetTable.below t.place (sl t.mask h K):=rfl
 have em:(t.put (sl t.mask h K)).1.mask=t.mask:=rfl
 have epl:(t.put (sl t.mask h K)).1.place=SetTable.insertAt t.place (SetTable.below t.place (sl t.mask h K)) (sl t.mask h K):=rfl
 have ed:(t.put (sl t.mask h K)).1.dummies=#[]:=by
  show (if SetTable.has t.dummies (sl t.mask h K) then _ else t.dummies)=#[]
  have e:SetTable.has t.dummies (sl t.mask h K)=false:=by rw [T.nod];rfl
  rw [e]
  exact T.nod
 rw [ep]
 generalize hp:SetTable.below t.place (sl t.mask h K)=p at b1 b2 b3 epl ⊢
 generalize (t.put (sl t.mask h K)).1=t' at em epl ed ⊢
 have size':∀ {α:Type} (xs:Array α) (x:α),(SetTable.insertAt xs p x).size=xs.size+1:=fun xs x=>by
  rw [<- Array.length_toList,(SetTable.insertAt_perm xs p x).length_eq];simp
 have pe:p<=es.size:=by rw [<- T.size];exact b1
 have get':∀ i:Nat,t'.place[i]?=if i < p then t.place[i]? else if i=p then some (sl t.mask h K) else t.place[i - 1]?:=fun i=>by rw [epl,ins_get _ b1]
 have gete:∀ i:Nat,(SetTable.insertAt es p (h,x))[i]?=if i < p then es[i]? else if i=p then some (h,x) else es[i - 1]?:=fun i=>ins_get _ pe _ i
 have up:∀ {s:Nat},(∃ i:Nat,t.place[i]?=some s)->∃ i:Nat,t'.place[i]?=some s:=fun {s} ⟨i,e⟩=>by
  by_cases q:i < p
  ·exact ⟨i,by rw [get',if_pos q];exact e⟩
  ·exact ⟨i+1,by rw [get',if_neg (by omega),if_neg (by omega),Nat.add_sub_cancel];exact e⟩
 refine ⟨fun i j hi hj' ij=>?_,by rw [epl,size',size',T.size],ed,by rw [em];exact T.msk,fun i j e=>?_,by rw [em,size'];exact room,fun i j e e1 e2=>?_⟩
 ·have g1:=get' i
  have g2:=get' j
  rw [Array.getElem?_eq_getElem hi] at g1
  rw [Array.getElem?_eq_getElem hj'] at g2
  have sz:t'.place.size=t.place.size+1:=by rw [epl,size']
  have lo:∀ a (ha:a < t.place.size),a < p->t.place[a] < sl t.mask h K:=fun a ha q=>b2 a ha q
  have hi':∀ a (ha:a < t.place.size),p<=a->sl t.mask h K < t.place[a]:=fun a ha q=>by
   have:=b3 a ha q
   have ne:t.place[a]≠sl t.mask h K:=fun e=>hj a (by rw [Array.getElem?_eq_getElem ha,e])
   omega
  by_cases c1:i < p
  ·rw [if_pos c1,Array.getElem?_eq_getElem (show i < t.place.size by omega)] at g1
   have v1:=Option.some.inj g1
   rw [v1]
   by_cases c2:j < p
   ·rw [if_pos c2,Array.getElem?_eq_getElem (show j < t.place.size by omega)] at g2
    rw [Option.some.inj g2];exact T.rise _ _ _ _ ij
   ·rw [if_neg c2] at g2
    by_cases c3:j=p
    ·rw [if_pos c3] at g2;rw [Option.some.inj g2];exact lo i _ c1
    ·rw [if_neg c3,Array.getElem?_eq_getElem (show j - 1 < t.place.size by omega)] at g2
     rw [Option.some.inj g2];exact Nat.lt_trans (lo i _ c1) (hi' (j - 1) _ (by omega))
  ·rw [if_neg c1] at g1
   rw [if_neg (show ¬ j < p by omega),if_neg (show j≠p by omega),Array.getElem?_eq_getElem (show j - 1 < t.place.size by omega)] at g2
   rw [Option.some.inj g2]
   by_cases c3:i=p
   ·rw [if_pos c3] at g1;rw [Option.some.inj g1];exact hi' (j - 1) _ (by omega)
   ·rw [if_neg c3,Array.getElem?_eq_getElem (show i - 1 < t.place.size by omega)] at g1
    rw [Option.some.inj g1];exact T.rise _ _ _ _ (by omega)
 ·rw [get'] at e
  rw [em]
  split at e
  ·exact T.le _ _ e
  ·split at e
   ·cases e;exact sle
   ·exact T.le _ _ e
 ·rw [get'] at e1
  rw [gete] at e2
  rw [em]
  have old:∀ {i:Nat},t.place[i]?=some j->es[i]?=some e->∃ k,k < 10 * SetTable.turns t.mask/\sl t.mask e.1 k=j/\∀ k',k' < k->∃ i':Nat,t'.place[i']?=some (sl t.mask e.1 k'):=fun {i} a b=>by
   obtain ⟨k,x1,x2,x3⟩:=T.wp i j e a b
   exact ⟨k,x1,x2,fun k' hk'=>up (x3 k' hk')⟩
  split at e1
  ·rename_i c;rw [if_pos c] at e2;exact old e1 e2
  ·rename_i c
   rw [if_neg c] at e2
   split at e1
   ·rename_i c2
    rw [if_pos c2] at e2
    cases e1;cases e2
    exact ⟨K,hK,rfl,fun k' hk'=>up (hb k' hk')⟩
   ·rename_i c2;rw [if_neg c2] at e2;exact old e1 e2
theorem runEnd_le {m i:Nat} (h:i<=m):SetTable.runEnd m i<=m:=by unfold SetTable.runEnd;split<;>omega
theorem runEnd_ge (m i:Nat):i<=SetTable.runEnd m i:=by unfold SetTable.runEnd;split<;>omega
theorem st_le (m:Nat) (h:Int):∀ k,(st m h k).j+(st m h k).more<=m
 | 0=>by
  have a:SetTable.bits h % (m+1)<=m:=Nat.le_of_lt_succ (Nat.mod_lt _ (Nat.succ_pos m))
  have b:=runEnd_le a
  have c:=runEnd_ge m (SetTable.bits h % (m+1))
  show SetTable.bits h % (m+1)+(SetTable.runEnd m (SetTable.bits h % (m+1)) - SetTable.bits h % (m+1))<=m
  omega
 | k+1=>by
  have ih:=st_le m h k
  show (adv m (st m h k)).j+(adv m (st m h k)).more<=m
  unfold adv
  split
  ·dsimp only;omega
  ·have a:(SetTable.leap m (st m h k).i (st m h k).perturb).1<=m:=Nat.le_of_lt_succ (Nat.mod_lt _ (Nat.succ_pos m))
   have b:=runEnd_le a
   have c:=runEnd_ge m (SetTable.leap m (st m h k).i (st m h k).perturb).1
   dsimp only
   omega
theorem sl_le (m:Nat) (h:Int) (k:Nat):sl m h k<=m:=by have:=st_le m h k;unfold sl;omega
structure Own (m:Nat) (hs:List Int) (ow:Array (Option Nat)):Prop where
 size:ow.size=m+1
 has:∀ a,a < hs.length->∃ j:Nat,ow[j]?=some (some a)
 lt:∀ (j a:Nat),ow[j]?=some (some a)->a < hs.length
 inj:∀ (i j a:Nat),ow[i]?=some (some a)->ow[j]?=some (some a)->i=j
 wp:∀ (j a:Nat) (h:Int),ow[j]?=some (some a)->hs[a]?=some h->∃ k,k < 10 * SetTable.turns m/\sl m h k=j/\∀ k',k' < k->∃ b:Nat,ow[sl m h k']?=some (some b)
theorem own_get {m:Nat} {hs:List Int} {ow:Array (Option Nat)} (O:Own m hs ow) {j:Nat} (h:j<=m):ow[j]?=some none\/∃ a,ow[j]?=some (some a):=by
 have hj:j < ow.size:=by rw [O.size];omega
 rw [Array.getElem?_eq_getElem hj]
 cases e:ow[j] with
 | none=>exact .inl rfl
 | some a=>exact .inr ⟨a,rfl⟩
theorem nd_map {α β:Type} {f:α->β}:∀ {l:List α},l.Nodup->(∀ i∈l,∀ j∈l,f i=f j->i=j)->(l.map f).Nodup
 | [],_,_=>List.nodup_nil
 | x::l,h,k=>by
  obtain ⟨h1,h2⟩:=List.nodup_cons.mp h
  refine List.nodup_cons.mpr ⟨fun m=>?_,nd_map h2 fun i hi j hj=>k i (List.mem_cons_of_mem _ hi) j (List.mem_cons_of_mem _ hj)⟩
  obtain ⟨y,hy,e⟩:=List.mem_map.mp m
  have:=k y (List.mem_cons_of_mem _ hy) x List.mem_cons_self e
  exact h1 (this ▸ hy)
theorem own_free {m:Nat} {hs:List Int} {ow:Array (Option Nat)} (O:Own m hs ow) (l:hs.length<=m):∃ j,j<=m/\ow[j]?=some none:=by
 refine Classical.byContradiction fun no=>?_
 have all:∀ j,j<=m->∃ a,ow[j]?=some (some a):=fun j hj=>(own_get O hj).elim (fun e=>absurd ⟨j,hj,e⟩ no) id
 have f:=nd_len (l:=(List.range (m+1)).map fun j=>((ow[j]?).join).getD 0) (m:=List.range hs.length) (by
   refine nd_map List.nodup_range fun i hi j hj e=>?_
   obtain ⟨a,ea⟩:=all i (by have:=List.mem_range.mp hi;omega)
   obtain ⟨b,eb⟩:=all j (by have:=List.mem_range.mp hj;omega)
   rw [ea,eb] at e
   have e':a=b:=by simpa using e
   subst e'
   exact O.inj i j a ea eb) fun x hx=>by
  obtain ⟨j,hj,rfl⟩:=List.mem_map.mp hx
  obtain ⟨a,ea⟩:=all j (by have:=List.mem_range.mp hj;omega)
  rw [ea]
  exact List.mem_range.mpr (O.lt j a ea)
 rw [List.length_map,List.length_range,List.length_range] at f
 omega
theorem free_spec {m:Nat} {hs:List Int} {ow:Array (Option Nat)} (O:Own m hs ow) (h:Int):∀ (f L:Nat),(∃ L',L<=L'/\L' < L+f/\ow[(lp m h L').1]?=some none)->(∀ k,k < off m h L->∃ b:Nat,ow[sl m h k]?=some (some b)) ->
  ∃ K,SetTable.layClean.free m ow f (lp m h L).1 (lp m h L).2=some (sl m h K)/\K < 10 * (L+f)/\ow[sl m h K]?=some none/\∀ k,k < K->∃ b:Nat,ow[sl m h k]?=some (some b)
 | 0,L,⟨L',a,b,_⟩,_=>by omega
 | f+1,L,⟨L',a,b,c⟩,hb=>by
  have il:(lp m h L).1<=m:=by have:=lp_lt m h L;omega
  have re:SetTable.runEnd m (lp m h L).1+1 - (lp m h L).1=run m h L+1:=by have:=runEnd_ge m (lp m h L).1;unfold run;omega
  have inb:∀ r,r<=run m h L->(lp m h L).1+r<=m:=fun r hr=>by have:=runEnd_le il;have:=runEnd_ge m (lp m h L).1;unfold run at hr;omega
  have gd:∀ r,r<=run m h L->((ow.getD ((lp m h L).1+r) (some 0)).isNone=true ↔ ow[(lp m h L).1+r]?=some none):=fun r hr=>by
   have hj:(lp m h L).1+r < ow.size:=by rw [O.size];have:=inb r hr;omega
   rw [Array.getElem?_eq_getElem hj]
   simp [Array.getD,hj]
  rw [SetTable.layClean.free,re]
  cases hf:(List.range (run m h L+1)).find? fun k=>(ow.getD ((lp m h L).1+k) (some 0)).isNone with
  | some r =>
   dsimp only
   obtain ⟨h1,h2,h3⟩:=List.find?_range_eq_some.mp hf
   have hr:r<=run m h L:=by have:=List.mem_range.mp h2;omega
   refine ⟨off m h L+r,by rw [sl_off hr],?_,by rw [sl_off hr];exact (gd r hr).mp h1,fun k hk=>?_⟩
   ·have:=off_le m h L;have:=run_le m h L;omega
   ·by_cases q:k < off m h L
    ·exact hb k q
    ·obtain ⟨r',rfl⟩:∃ r',k=off m h L+r':=⟨k - off m h L,by omega⟩
     have hr':r'<=run m h L:=by omega
     rw [sl_off hr']
     have nn:=h3 r' (by omega)
     rcases own_get O (inb r' hr') with e | e
     ·have:=(gd r' hr').mpr e
      rw [this] at nn;cases nn
     ·exact e
  | none =>
   dsimp only
   have all:=List.find?_range_eq_none.mp hf
   have occ:∀ r,r<=run m h L->∃ b:Nat,ow[(lp m h L).1+r]?=some (some b):=fun r hr=>by
    have nn:=all r (by omega)
    rcases own_get O (inb r hr) with e | e
    ·have:=(gd r hr).mpr e
     rw [this] at nn;cases nn
    ·exact e
   have ne:L≠L':=fun e=>by
    subst e
    obtain ⟨b,eb⟩:=occ 0 (Nat.zero_le _)
    rw [Nat.add_zero,c] at eb;cases eb
   obtain ⟨K,k1,k2,k3,k4⟩:=free_spec O h f (L+1) ⟨L',by omega,by omega,c⟩ fun k hk=>by
    by_cases q:k < off m h L
    ·exact hb k q
    ·obtain ⟨r,rfl⟩:∃ r,k=off m h L+r:=⟨k - off m h L,by omega⟩
     have hr:r<=run m h L:=by have hk':off m h L+r < off m h L+run m h L+1:=hk;omega
     rw [sl_off hr]
     exact occ r hr
   exact ⟨K,k1,by omega,k3,k4⟩
theorem own_more {m:Nat} {hs:List Int} {ow:Array (Option Nat)} (O:Own m hs ow) {h:Int} {K:Nat} (hK:K < 10 * SetTable.turns m) (e:ow[sl m h K]?=some none) (hb:∀ k,k < K->∃ b:Nat,ow[sl m h k]?=some (some b)):Own m (hs++[h]) (ow.setIfInBounds (sl m h K) (some hs.length)):=by
 have hj:sl m h K < ow.size:=by rw [O.size];have:=sl_le m h K;omega
 have get:∀ j:Nat,(ow.setIfInBounds (sl m h K) (some hs.length))[j]?=if sl m h K=j then some (some hs.length) else ow[j]?:=fun j=>by
  rw [Array.getElem?_setIfInBounds]
  by_cases q:sl m h K=j
  ·rw [if_pos q,if_pos q,if_pos hj]
  ·rw [if_neg q,if_neg q]
 have keep:∀ {j a:Nat},ow[j]?=some (some a)->(ow.setIfInBounds (sl m h K) (some hs.length))[j]?=some (some a):=fun {j a} q=>by
  rw [get,if_neg (fun z=>by rw [z,q] at e;cases e)];exact q
 refine ⟨by rw [Array.size_setIfInBounds];exact O.size,fun a ha=>?_,fun j a q=>?_,fun i j a p q=>?_,fun j a g p q=>?_⟩
 ·rw [List.length_append,List.length_singleton] at ha
  by_cases q:a < hs.length
  ·obtain ⟨j,ej⟩:=O.has a q;exact ⟨j,keep ej⟩
  ·exact ⟨sl m h K,by rw [get,if_pos rfl,show a=hs.length by omega]⟩
 ·rw [get] at q
  rw [List.length_append,List.length_singleton]
  split at q
  ·cases q;omega
  ·have:=O.lt j a q;omega
 ·rw [get] at p q
  split at p
  ·cases p
   split at q
   ·rename_i x y;omega
   ·exact absurd (O.lt _ _ q) (Nat.lt_irrefl _)
  ·split at q
   ·cases q;exact absurd (O.lt _ _ p) (Nat.lt_irrefl _)
   ·exact O.inj i j a p q
 ·rw [get] at p
  split at p
  ·rename_i x
   cases p
   rw [List.getElem?_append_right (Nat.le_refl _),Nat.sub_self] at q
   cases q
   exact ⟨K,hK,x,fun k' hk'=>let ⟨b,eb⟩:=hb k' hk';⟨b,keep eb⟩⟩
  ·have la:=O.lt j a p
   rw [List.getElem?_append_left la] at q
   obtain ⟨k,a1,a2,a3⟩:=O.wp j a g p q
   exact ⟨k,a1,a2,fun k' hk'=>let ⟨b,eb⟩:=a3 k' hk';⟨b,keep eb⟩⟩
def lay1 (m:Nat) (acc:Option (Array (Option Nat) × Nat)) (h:Int):Option (Array (Option Nat) × Nat):=do
 let (owner,k) <- acc
 let j <- SetTable.layClean.free m owner (SetTable.turns m) (SetTable.bits h % (m+1)) (SetTable.bits h)
 pure (owner.setIfInBounds j (some k),k+1)
theorem lay_all {m:Nat} (hm:m=7\/m=31):∀ (more hs:List Int) (ow:Array (Option Nat)),Own m hs ow->hs.length+more.length<=m->∃ ow',more.foldl (lay1 m) (some (ow,hs.length))=some (ow',(hs++more).length)/\Own m (hs++more) ow'
 | [],hs,ow,O,_=>⟨ow,by simp,by simpa using O⟩
 | h::more,hs,ow,O,l=>by
  rw [List.length_cons] at l
  obtain ⟨j,hj,ej⟩:=own_free O (by omega)
  obtain ⟨L',l1,l2⟩:=leaps hm h hj
  obtain ⟨K,k1,k2,k3,k4⟩:=free_spec O h (SetTable.turns m) 0 ⟨L',Nat.zero_le _,by unfold SetTable.turns;omega,by rw [l2];exact ej⟩ fun k hk=>absurd hk (Nat.not_lt_zero _)
  rw [Nat.zero_add] at k2
  have O':=own_more O k2 k3 k4
  have e:lay1 m (some (ow,hs.length)) h=some (ow.setIfInBounds (sl m h K) (some hs.length),(hs++[h]).length):=by
   unfold lay1
   have k1':SetTable.layClean.free m ow (SetTable.turns m) (SetTable.bits h % (m+1)) (SetTable.bits h)=some (sl m h K):=k1
   simp [k1']
  obtain ⟨ow',a,b⟩:=lay_all hm more (hs++[h]) _ O' (by rw [List.length_append,List.length_singleton];omega)
  refine ⟨ow',?_,by simpa using b⟩
  rw [List.foldl_cons,e,a]
  simp
theorem lay_clean {m:Nat} (hm:m=7\/m=31) (hs:Array Int) (l:hs.size<=m):∃ ow,SetTable.layClean m hs=some ow/\Own m hs.toList ow:=by
 have O0:Own m [] (Array.replicate (m+1) (none:Option Nat)):=by
  have no:∀ (j a:Nat),(Array.replicate (m+1) (none:Option Nat))[j]?≠some (some a):=fun j a e=>by
   rw [Array.getElem?_replicate] at e
   split at e<;>cases e
  exact ⟨by simp,fun a ha=>absurd ha (Nat.not_lt_zero _),fun j a e=>absurd e (no j a),fun i j a e=>absurd e (no i a),fun j a h e=>absurd e (no j a)⟩
 obtain ⟨ow,a,b⟩:=lay_all hm hs.toList [] _ O0 (by simpa using l)
 refine ⟨ow,?_,by simpa using b⟩
 unfold SetTable.layClean
 rw [<- Array.foldl_toList]
 have a':List.foldl (lay1 m) (some (Array.replicate (m+1) none,0)) hs.toList=some (ow,([]++hs.toList).length):=a
 show Option.map (·.1) (List.foldl (lay1 m) (some (Array.replicate (m+1) none,0)) hs.toList)=some ow
 rw [a']
 rfl
theorem fm_fst {g:Nat->Option Nat}:∀ l:List Nat,(l.filterMap fun j=>(g j).map fun a=>(j,a)).map (·.1)=l.filter fun j=>(g j).isSome
 | []=>rfl
 | j::l=>by
  cases e:g j with
  | none=>rw [List.filterMap_cons_none (by simp [e]),fm_fst l,List.filter_cons_of_neg (by simp [e])]
  | some a=>rw [List.filterMap_cons_some (b:=(j,a)) (by simp [e]),List.map_cons,fm_fst l,List.filter_cons_of_pos (by simp [e])]
theorem fm_all {α:Type} {f:Nat->Option α}:∀ {l:List Nat},(∀ a∈l,∃ x,f a=some x)->∀ i:Nat,(l.filterMap f)[i]?=(l[i]?).bind f
 | [],_,i=>by simp
 | a::l,h,i=>by
  obtain ⟨x,e⟩:=h a List.mem_cons_self
  rw [List.filterMap_cons_some e]
  cases i with
  | zero=>simp [e]
  | succ i=>simpa using fm_all (fun b hb=>h b (List.mem_cons_of_mem _ hb)) i
theorem nd_of_map {α β:Type} {f:α->β}:∀ {l:List α},(l.map f).Nodup->l.Nodup
 | [],_=>List.nodup_nil
 | x::l,h=>by
  obtain ⟨h1,h2⟩:=List.nodup_cons.mp h
  exact List.nodup_cons.mpr ⟨fun m=>h1 (List.mem_map.mpr ⟨x,m,rfl⟩),nd_of_map h2⟩
theorem laid_tab {m:Nat} (hm:m=7\/m=31) (es:Array (Int × Value)) (l:es.size<=m) (finger moves:Nat) (led plain:Bool):∃ (t:SetTable) (order:Array Nat),SetTable.laid m finger moves led plain (es.map (·.1))=some (t,order)/\t.mask=m/\t.led=led/\t.plain=plain /\
  Tab t (order.filterMap fun i=>es[i]?)/\(order.filterMap fun i=>es[i]?).toList.Perm es.toList/\(order.filterMap fun i=>es[i]?).size=es.size:=by
 obtain ⟨ow,e,O⟩:=lay_clean hm (es.map (·.1)) (by rw [Array.size_map];exact l)
 have hl:(es.map (·.1)).toList.length=es.size:=by simp
 have gd:∀ j a:Nat,ow.getD j none=some a ↔ ow[j]?=some (some a):=fun j a=>by
  by_cases hj:j < ow.size
  ·simp [Array.getD,hj]
  ·simp [Array.getD,hj]
 refine ⟨_,_,by unfold SetTable.laid;rw [e];rfl,rfl,rfl,rfl,?_⟩
 generalize hL:(List.range (m+1)).filterMap (fun j=>(ow.getD j none).map fun x=>(j,x))=live
 have mem:∀ {j a:Nat},(j,a)∈live ↔ j<=m/\ow[j]?=some (some a):=fun {j a}=>by
  rw [<- hL,List.mem_filterMap]
  constructor
  ·rintro ⟨j',hj',q⟩
   cases g:ow.getD j' none with
   | none=>rw [g] at q;cases q
   | some a' =>
    rw [g] at q
    cases q
    exact ⟨by have:=List.mem_range.mp hj';omega,(gd _ _).mp g⟩
  ·rintro ⟨hj,q⟩
   exact ⟨j,List.mem_range.mpr (by omega),by rw [(gd j a).mpr q];rfl⟩
 have e1:live.map (·.1)=(List.range (m+1)).filter fun j=>(ow.getD j none).isSome:=by rw [<- hL];exact fm_fst _
 have ge:∀ a∈live.map (·.2),∃ x,es[a]?=some x:=fun a ha=>by
  obtain ⟨⟨j,a'⟩,hp,rfl⟩:=List.mem_map.mp ha
  have:=O.lt j a' (mem.mp hp).2
  rw [hl] at this
  exact ⟨es[a'],Array.getElem?_eq_getElem this⟩
 have nd2:(live.map (·.2)).Nodup:=by
  have nd1:live.Nodup:=by
   have:(live.map (·.1)).Nodup:=by rw [e1];exact List.nodup_range.filter _
   exact nd_of_map this
  refine nd_map nd1 fun p hp q hq ee=>?_
  obtain ⟨j1,a1⟩:=p
  obtain ⟨j2,a2⟩:=q
  have ee':a1=a2:=ee
  subst ee'
  rw [O.inj j1 j2 a1 (mem.mp hp).2 (mem.mp hq).2]
 have pm:(live.map (·.2)).Perm (List.range es.size):=(List.perm_ext_iff_of_nodup nd2 List.nodup_range).mpr fun a=>by
  rw [List.mem_range]
  constructor
  ·intro h
   obtain ⟨⟨j,a'⟩,hp,rfl⟩:=List.mem_map.mp h
   have:=O.lt j a' (mem.mp hp).2
   rw [hl] at this;exact this
  ·intro h
   obtain ⟨j,ej⟩:=O.has a (by rw [hl];exact h)
   have hj:j < ow.size:=(Array.getElem?_eq_some_iff.mp ej).1
   exact List.mem_map.mpr ⟨(j,a),mem.mpr ⟨by rw [O.size] at hj;omega,ej⟩,rfl⟩
 have tl:((live.map (·.2)).toArray.filterMap fun i=>es[i]?).toList=(live.map (·.2)).filterMap fun i=>es[i]?:=by rw [Array.toList_filterMap]
 have perm:((live.map (·.2)).toArray.filterMap fun i=>es[i]?).toList.Perm es.toList:=by
  rw [tl]
  exact (pm.filterMap _).trans (by rw [filterMap_getElem?_range])
 have size:((live.map (·.2)).toArray.filterMap fun i=>es[i]?).size=es.size:=by rw [<- Array.length_toList,perm.length_eq,Array.length_toList]
 have gete:∀ i:Nat,((live.map (·.2)).toArray.filterMap fun i=>es[i]?)[i]?=(live[i]?).bind fun p=>es[p.2]?:=fun i=>by
  rw [<- Array.getElem?_toList,tl,fm_all ge,List.getElem?_map]
  cases live[i]?<;>rfl
 have getp:∀ i:Nat,((live.map (·.1)).toArray)[i]?=(live[i]?).map (·.1):=fun i=>by rw [List.getElem?_toArray,List.getElem?_map]
 have inn:∀ {j:Nat},(∃ b:Nat,ow[j]?=some (some b))->j<=m->∃ i:Nat,((live.map (·.1)).toArray)[i]?=some j:=fun {j} ⟨b,eb⟩ hj=>by
  obtain ⟨i,hi,ei⟩:=List.getElem_of_mem (mem.mpr ⟨hj,eb⟩)
  exact ⟨i,by rw [getp,List.getElem?_eq_getElem hi,ei];rfl⟩
 refine ⟨⟨fun i j hi hj ij=>?_,?_,rfl,hm,fun i j q=>?_,by rw [size];exact l,fun i j x q1 q2=>?_⟩,perm,size⟩
 ·have pw:(live.map (·.1)).Pairwise (· < ·):=by rw [e1];exact List.pairwise_lt_range.filter _
  have:=List.pairwise_iff_getElem.mp pw i j (by simpa using hi) (by simpa using hj) ij
  simpa using this
 ·rw [size]
  have:=pm.length_eq
  rw [List.length_map,List.length_range] at this
  simp [this]
 ·rw [getp] at q
  obtain ⟨⟨j',a⟩,e1',e2'⟩:=Option.map_eq_some_iff.mp q
  cases e2'
  exact (mem.mp (List.mem_of_getElem? e1')).1
 ·rw [getp] at q1
  rw [gete] at q2
  obtain ⟨⟨j',a⟩,e1',e2'⟩:=Option.map_eq_some_iff.mp q1
  cases e2'
  rw [e1'] at q2
  have q2':es[a]?=some x:=q2
  have mm:=mem.mp (List.mem_of_getElem? e1')
  obtain ⟨k,k1,k2,k3⟩:=O.wp j' a x.1 mm.2 (by rw [Array.getElem?_toList,Array.getElem?_map,q2'];rfl)
  exact ⟨k,k1,k2,fun k' hk'=>inn (k3 k' hk') (sl_le _ _ _)⟩
theorem above20:SetTable.sizeAbove 20 - 1=31:=by decide
end L3
namespace L2
open PySem PySem.Spec PyProof.Rows
section
variable {prog:Program} {w:World} {A:Around} {E:Value->Shared->Prop} {s:Shared} {src:Array Keyed} {kd:SortKind} {κ:PyProof.Rows.KeyKind}
structure Sts (src:Array Keyed) (kd:SortKind) (st:SortSt):Prop where
 pm:(arrOf st).Perm src
 kn:kindOf st=kd
 pn:pendingOf st=#[]
 fl:failedOf st=none
theorem Sts.len {st:SortSt} (q:Sts src kd st):(arrOf st).size=src.size:=q.pm.size_eq
theorem Sts.put {st:SortSt} {xs:Array Keyed} (q:Sts src kd st) (p:xs.Perm (arrOf st)):Sts src kd (setArr st xs):=⟨p.trans q.pm,q.kn,q.pn,q.fl⟩
abbrev ky (κ:PyProof.Rows.KeyKind) (st:SortSt) (i:Nat):κ.α:=KK κ (arrOf st) i
def Cmp (prog:Program) (w:World) (A:Around) (E:Value->Shared->Prop) (s:Shared) (src:Array Keyed) (kd:SortKind) (κ:PyProof.Rows.KeyKind):Prop :=
 ∀ (st:SortSt) (i j:Nat) (R:Option Bool->SortSt->Prop),Sts src kd st->i < src.size->j < src.size->R (some (κ.blt (ky κ st i) (ky κ st j))) st->wpS (model prog w) A E s (ltAt' i j) R st
theorem run_more {st:SortSt} {n:Nat} (up:SortedToK κ (arrOf st) n) (last:0 < n->κ.kle (ky κ st (n - 1)) (ky κ st n)):SortedToK κ (arrOf st) (n+1):=by
 intro i j ij jn
 rcases Nat.lt_or_ge j n with q | q
 ·exact up i j ij q
 ·obtain rfl:j=n:=by omega
  rcases Nat.lt_or_ge i j with r | r
  ·exact KeyOrd.kle_trans (up i (j - 1) (by omega) (by omega)) (last (by omega))
  ·obtain rfl:i=j:=by omega
   exact KeyOrd.kle_refl _
theorem fall_more {xs:Array Keyed} {n:Nat} (dn:NonIncK κ xs n) (last:0 < n->κ.kle (KK κ xs n) (KK κ xs (n - 1))):NonIncK κ xs (n+1):=by
 intro i j ij jn
 rcases Nat.lt_or_ge j n with q | q
 ·exact dn i j ij q
 ·obtain rfl:j=n:=by omega
  rcases Nat.lt_or_ge i j with r | r
  ·exact KeyOrd.kle_trans (last (by omega)) (dn i (j - 1) (by omega) (by omega))
  ·obtain rfl:i=j:=by omega
   exact KeyOrd.kle_refl _
theorem run_one {xs:Array Keyed}:SortedToK κ xs 1:=fun i j ij j1=>by
 obtain rfl:i=j:=by omega
 exact KeyOrd.kle_refl _
theorem go_up {st:SortSt} {b n:Nat} {R:AscSt->SortSt->Prop} (C:Cmp prog w A E s src kd κ) (q:Sts src kd st) (b1:1<=b) (bn:b<=n) (nn:n<=src.size) (up:SortedToK κ (arrOf st) b)
  (k:∀ m,b<=m->m<=n->SortedToK κ (arrOf st) m->(m < n->κ.klt (ky κ st m) (ky κ st (m - 1)))->R (none,m) st):wpS (model prog w) A E s (ascLoop b n) R st:=by
 unfold ascLoop
 refine wpS_forRange (I:=fun m c t=>t=st/\c=(none,m)/\SortedToK κ (arrOf st) m) (fun m c t bm mn h=>?_) (fun c t h=>?_) ⟨rfl,rfl,up⟩
 ·obtain ⟨e1,e2,um⟩:=h
  subst e1 e2
  refine wpS_bind (C _ _ _ _ q (by omega) (by omega) ?_)
  by_cases lt:κ.klt (ky κ t m) (ky κ t (m - 1))
  ·have lt':κ.blt (ky κ t m) (ky κ t (m - 1))=true:=lt
   rw [lt']
   exact wpS_pure (k m bm (by omega) um fun _=>lt)
  ·have lt':κ.blt (ky κ t m) (ky κ t (m - 1))=false:=KeyOrd.kle_of_not_klt lt
   rw [lt']
   exact wpS_pure ⟨rfl,rfl,run_more um fun _=>lt'⟩
 ·obtain ⟨e1,e2,um⟩:=h
  subst e1 e2
  rw [Nat.max_eq_right bn] at um ⊢
  exact k n bn (Nat.le_refl _) um fun z=>absurd z (Nat.lt_irrefl _)
theorem turn_up {st:SortSt} {m n:Nat} {R:Option Nat->SortSt->Prop} (C:Cmp prog w A E s src kd κ) (q:Sts src kd st) (m1:1<=m) (mn:m<=n) (nn:n<=src.size) (dn:NonIncK κ (arrOf st) m)
  (k:∀ l t,Sts src kd t->1<=l->l<=n->SortedToK κ (arrOf t) l->R (some l) t):wpS (model prog w) A E s (tail3 m n) R st:=by
 unfold tail3
 have ml:m<=(arrOf st).size:=by rw [q.len];omega
 refine wpS_bind (wpS_reverse ?_)
 have q2:=q.put (mirror_perm (arrOf st) 0 m ((m - 0) / 2))
 refine wpS_bind (go_up C q2 m1 mn nn (fun i j ij jm=>?_) fun l ml ln up _=>wpS_pure (k l _ q2 (by omega) ln up))
 have ei:KK κ (mirror (arrOf st) 0 m ((m - 0) / 2)) i=KK κ (arrOf st) (0+m - 1 - i):=by rw [KK_mirror ml,if_pos ⟨Nat.zero_le _,by omega⟩]
 have ej:KK κ (mirror (arrOf st) 0 m ((m - 0) / 2)) j=KK κ (arrOf st) (0+m - 1 - j):=by rw [KK_mirror ml,if_pos ⟨Nat.zero_le _,by omega⟩]
 show κ.kle (KK κ (mirror (arrOf st) 0 m ((m - 0) / 2)) i) (KK κ (mirror (arrOf st) 0 m ((m - 0) / 2)) j)
 rw [ei,ej]
 exact dn _ _ (by omega) (by omega)
def Flat' (κ:PyProof.Rows.KeyKind) (xs:Array Keyed) (m e:Nat):Prop:=e < m/\∀ i,m - (e+1)<=i->i < m->KK κ xs i=KK κ xs (m - 1)
theorem flat_0 {xs:Array Keyed} {m:Nat} (h:0 < m):Flat' κ xs m 0:=⟨h,fun i a b=>by
 have e:i=m - 1:=by omega
 rw [e]⟩
theorem go_down {st:SortSt} {b n:Nat} {R:DescSt->SortSt->Prop} (C:Cmp prog w A E s src kd κ) (q:Sts src kd st) (b1:1<=b) (bn:b<=n) (nn:n<=src.size) (dn:NonIncK κ (arrOf st) b)
  (k:∀ m e t,Sts src kd t->b<=m->m<=n->NonIncK κ (arrOf t) m->Flat' κ (arrOf t) m e->R (none,m,e) t):wpS (model prog w) A E s (descLoop b n) R st:=by
 unfold descLoop
 refine wpS_forRange (I:=fun m c t=>∃ e,c=(none,m,e)/\Sts src kd t/\NonIncK κ (arrOf t) m/\Flat' κ (arrOf t) m e) (fun m c t bm mn h=>?_) (fun c t h=>?_) ⟨0,rfl,q,dn,flat_0 (by omega)⟩
 ·obtain ⟨e,rfl,qt,dt,fl⟩:=h
  have ml:m<=(arrOf t).size:=by rw [qt.len];omega
  dsimp only
  refine wpS_bind (C _ _ _ _ qt (by omega) (by omega) ?_)
  by_cases lt:κ.klt (ky κ t m) (ky κ t (m - 1))
  ·have lt':κ.blt (ky κ t m) (ky κ t (m - 1))=true:=lt
   rw [lt']
   dsimp only
   rw [if_pos rfl]
   by_cases e0:e > 0
   ·rw [if_pos e0]
    refine wpS_bind (wpS_reverse (wpS_pure ⟨0,rfl,qt.put (mirror_perm _ _ _ _),?_,flat_0 (by omega)⟩))
    have same:∀ i,KK κ (mirror (arrOf t) (m - (e+1)) m ((m - (m - (e+1))) / 2)) i=KK κ (arrOf t) i:=KK_mirror_equal ml fl.2
    refine fall_more (fun i j ij jm=>?_) fun _=>?_
    ·show κ.kle (KK κ (mirror (arrOf t) _ _ _) j) (KK κ (mirror (arrOf t) _ _ _) i)
     rw [same,same];exact dt i j ij jm
    ·show κ.kle (KK κ (mirror (arrOf t) _ _ _) m) (KK κ (mirror (arrOf t) _ _ _) (m - 1))
     rw [same,same];exact KeyOrd.kle_of_klt lt
   ·rw [if_neg e0]
    exact wpS_pure ⟨0,rfl,qt,fall_more dt fun _=>KeyOrd.kle_of_klt lt,flat_0 (by omega)⟩
  ·have lt':κ.blt (ky κ t m) (ky κ t (m - 1))=false:=KeyOrd.kle_of_not_klt lt
   rw [lt']
   dsimp only
   rw [if_neg Bool.false_ne_true]
   refine wpS_bind (C _ _ _ _ qt (by omega) (by omega) ?_)
   by_cases gt:κ.klt (ky κ t (m - 1)) (ky κ t m)
   ·have gt':κ.blt (ky κ t (m - 1)) (ky κ t m)=true:=gt
    rw [gt']
    exact wpS_pure (k m e t qt bm (by omega) dt fl)
   ·have gt':κ.blt (ky κ t (m - 1)) (ky κ t m)=false:=KeyOrd.kle_of_not_klt gt
    rw [gt']
    have alike:ky κ t m=ky κ t (m - 1):=KeyOrd.kle_antisymm gt' lt'
    refine wpS_pure ⟨e+1,rfl,qt,fall_more dt fun _=>gt',by have:=fl.1;omega,fun i a b=>?_⟩
    rw [Nat.add_sub_cancel]
    rcases Nat.lt_or_ge i m with r | r
    ·exact (fl.2 i (by omega) r).trans alike.symm
    ·obtain rfl:i=m:=by omega
     rfl
 ·obtain ⟨e,rfl,qt,dt,fl⟩:=h
  rw [Nat.max_eq_right bn] at dt fl ⊢
  exact k n e t qt bn (Nat.le_refl _) dt fl
theorem down_part {st:SortSt} {m n:Nat} {R:Option Nat->SortSt->Prop} (C:Cmp prog w A E s src kd κ) (q:Sts src kd st) (mn:m+1<=n) (nn:n<=src.size) (dn:NonIncK κ (arrOf st) (m+1))
  (k:∀ l t,Sts src kd t->1<=l->l<=n->SortedToK κ (arrOf t) l->R (some l) t):wpS (model prog w) A E s (descPart m n) R st:=by
 unfold descPart
 refine wpS_bind (wpS_lift (wpAny_rule ⟨rfl,?_⟩))
 refine wpS_bind (go_down C q (by omega) mn nn dn fun l e t qt bl ln dt fl=>?_)
 dsimp only
 by_cases e0:e > 0
 ·rw [if_pos e0]
  have ll:l<=(arrOf t).size:=by rw [qt.len];omega
  have same:∀ i,KK κ (mirror (arrOf t) (l - (e+1)) l ((l - (l - (e+1))) / 2)) i=KK κ (arrOf t) i:=KK_mirror_equal ll fl.2
  refine wpS_bind (wpS_reverse (turn_up C (qt.put (mirror_perm _ _ _ _)) (by omega) ln nn (fun i j ij jl=>?_) k))
  show κ.kle (KK κ (mirror (arrOf t) _ _ _) j) (KK κ (mirror (arrOf t) _ _ _) i)
  rw [same,same];exact dt i j ij jl
 ·rw [if_neg e0]
  exact turn_up C qt (by omega) ln nn dt k
theorem first_run {st:SortSt} {n:Nat} {R:Option Nat->SortSt->Prop} (C:Cmp prog w A E s src kd κ) (q:Sts src kd st) (n1:1<=n) (nn:n<=src.size)
  (k:∀ l t,Sts src kd t->1<=l->l<=n->SortedToK κ (arrOf t) l->R (some l) t):wpS (model prog w) A E s (countRun' 0 n) R st:=by
 rw [countRun0_eq]
 refine wpS_bind (go_up C q (Nat.le_refl 1) n1 nn run_one fun m m1 mn up low=>?_)
 dsimp only
 by_cases whole:m=n
 ·rw [if_pos (by simpa using whole)]
  exact wpS_pure (k m st q m1 mn up)
 rw [if_neg (by simpa using whole)]
 have less:=low (by omega)
 by_cases long:m > 1
 ·rw [if_pos long]
  refine wpS_bind (C _ _ _ _ q (by omega) (by omega) ?_)
  by_cases rose:κ.klt (ky κ st 0) (ky κ st (m - 1))
  ·have rose':κ.blt (ky κ st 0) (ky κ st (m - 1))=true:=rose
   rw [rose']
   exact wpS_pure (k m st q m1 mn up)
  ·have rose':κ.blt (ky κ st 0) (ky κ st (m - 1))=false:=KeyOrd.kle_of_not_klt rose
   rw [rose']
   have ml:m<=(arrOf st).size:=by rw [q.len];omega
   have alike:∀ i,0<=i->i < m->KK κ (arrOf st) i=KK κ (arrOf st) (m - 1):=fun i _ im =>
    KeyOrd.kle_antisymm (up i (m - 1) (by omega) (by omega)) (KeyOrd.kle_trans rose' (up 0 i (Nat.zero_le _) im))
   have same:∀ i,KK κ (mirror (arrOf st) 0 m ((m - 0) / 2)) i=KK κ (arrOf st) i:=KK_mirror_equal ml alike
   dsimp only
   rw [if_neg Bool.false_ne_true]
   refine wpS_bind (wpS_reverse (down_part C (q.put (mirror_perm _ _ _ _)) (by omega) nn (fall_more (fun i j ij jm=>?_) fun _=>?_) k))
   ·show κ.kle (KK κ (mirror (arrOf st) _ _ _) j) (KK κ (mirror (arrOf st) _ _ _) i)
    rw [same,same,alike i (Nat.zero_le _) (by omega),alike j (Nat.zero_le _) jm]
    exact KeyOrd.kle_refl _
   ·show κ.kle (KK κ (mirror (arrOf st) _ _ _) m) (KK κ (mirror (arrOf st) _ _ _) (m - 1))
    rw [same,same];exact KeyOrd.kle_of_klt less
 ·rw [if_neg long]
  obtain rfl:m=1:=by omega
  refine down_part C q (by omega) nn (fall_more (fun i j ij j1=>?_) fun _=>KeyOrd.kle_of_klt less) k
  obtain rfl:i=j:=by omega
  exact KeyOrd.kle_refl _
theorem seek {st:SortSt} {k:Nat} {R:Option Bool × Nat × Nat->SortSt->Prop} (C:Cmp prog w A E s src kd κ) (q:Sts src kd st) (kn:k < src.size) (up:SortedToK κ (arrOf st) k)
  (f:Nat->Option Bool × Nat × Nat->StateT SortSt Sem (ForInStep (Option Bool × Nat × Nat)))
  (hf:∀ x l r,f x (none,l,r)=if l ≥ r then pure (.done (none,l,r)) else ltAt' k ((l+r) / 2) >>= fun b=>match b with
   | some true=>pure (.yield (none,l,(l+r) / 2))
   | some false=>pure (.yield (none,(l+r) / 2+1,r))
   | none=>pure (.done (some false,l,r)))
  (h:∀ l r,l<=k->(∀ i,i < l->κ.kle (ky κ st i) (ky κ st k))->(∀ i,l<=i->i < k->κ.klt (ky κ st k) (ky κ st i))->R (none,l,r) st) :
  wpS (model prog w) A E s (forIn [0:k] (none,0,k) f) R st:=by
 refine wpS_forRange (I:=fun x c t=>t=st/\∃ l r,c=(none,l,r)/\l<=r/\r<=k/\r<=l+(k - x)/\(∀ i,i < l->κ.kle (ky κ st i) (ky κ st k))/\∀ i,r<=i->i < k->κ.klt (ky κ st k) (ky κ st i))
  (fun x c t _ xk z=>?_) (fun c t z=>?_) ⟨rfl,0,k,rfl,Nat.zero_le _,Nat.le_refl _,by omega,fun i z=>absurd z (Nat.not_lt_zero _),fun i a b=>by omega⟩
 ·obtain ⟨e,l,r,rfl,lr,rk,gap,lo,hi⟩:=z
  subst e
  rw [hf]
  by_cases met:l ≥ r
  ·rw [if_pos met]
   obtain rfl:l=r:=by omega
   exact wpS_pure (h l l rk lo hi)
  ·rw [if_neg met]
   refine wpS_bind (C _ _ _ _ q kn (by omega) ?_)
   by_cases lt:κ.klt (ky κ t k) (ky κ t ((l+r) / 2))
   ·have lt':κ.blt (ky κ t k) (ky κ t ((l+r) / 2))=true:=lt
    rw [lt']
    exact wpS_pure ⟨rfl,l,(l+r) / 2,rfl,by omega,by omega,by omega,lo,fun i a b=>KeyOrd.klt_of_klt_of_kle lt (up _ _ a b)⟩
   ·have lt':κ.blt (ky κ t k) (ky κ t ((l+r) / 2))=false:=KeyOrd.kle_of_not_klt lt
    rw [lt']
    exact wpS_pure ⟨rfl,(l+r) / 2+1,r,rfl,by omega,rk,by omega,fun i a=>KeyOrd.kle_trans (up i ((l+r) / 2) (by omega) (by omega)) lt',hi⟩
 ·obtain ⟨e,l,r,rfl,lr,rk,gap,lo,hi⟩:=z
  subst e
  obtain rfl:l=r:=by omega
  exact h l l rk lo hi
theorem moved_down {st:SortSt} {k l:Nat} (kn:k < (arrOf st).size) (lk:l<=k) (up:SortedToK κ (arrOf st) k) (lo:∀ i,i < l->κ.kle (ky κ st i) (ky κ st k)) (hi:∀ i,l<=i->i < k->κ.klt (ky κ st k) (ky κ st i)) :
  SortedToK κ (bubble (arrOf st) k (k - l)) (k+1):=by
 have at_:∀ i,KK κ (bubble (arrOf st) k (k - l)) i=if i=l then ky κ st k else if l < i/\i<=k then ky κ st (i - 1) else ky κ st i:=fun i=>by
  rw [KK_bubble kn (by omega),show k - (k - l)=l by omega]
 intro i j ij jk
 rw [at_,at_]
 rcases Nat.lt_trichotomy i l with a | a | a
 ·rw [if_neg (by omega),if_neg (by omega)]
  rcases Nat.lt_trichotomy j l with b | b | b
  ·rw [if_neg (by omega),if_neg (by omega)];exact up i j ij (by omega)
  ·rw [if_pos b];exact lo i a
  ·rw [if_neg (by omega),if_pos ⟨b,by omega⟩];exact up i (j - 1) (by omega) (by omega)
 ·rw [if_pos a]
  rcases Nat.lt_or_ge l j with b | b
  ·rw [if_neg (by omega),if_pos ⟨b,by omega⟩];exact KeyOrd.kle_of_klt (hi _ (by omega) (by omega))
  ·rw [if_pos (by omega)];exact KeyOrd.kle_refl _
 ·rw [if_neg (by omega),if_pos ⟨a,by omega⟩,if_neg (by omega),if_pos ⟨by omega,by omega⟩]
  exact up (i - 1) (j - 1) (by omega) (by omega)
theorem insert_all {st:SortSt} {n m:Nat} {R:Bool->SortSt->Prop} (C:Cmp prog w A E s src kd κ) (q:Sts src kd st) (nn:n<=src.size) (mn:m<=n) (up:SortedToK κ (arrOf st) m)
  (k:∀ t,Sts src kd t->SortedToK κ (arrOf t) n->R true t):wpS (model prog w) A E s (binarySort' 0 n m) R st:=by
 rw [binarySort'_eq]
 simp only [Nat.zero_add]
 refine wpS_bind (wpS_mono (wpS_forRange (I:=fun x c t=>c=(none,())/\Sts src kd t/\SortedToK κ (arrOf t) (min x n)) (Q:=fun c t=>c=(none,())/\Sts src kd t/\SortedToK κ (arrOf t) n)
  (fun x c t mx xn z=>?_) (fun c t z=>?_) ⟨rfl,q,?_⟩) fun c t z=>?_)
 ·obtain ⟨rfl,qt,ut⟩:=z
  rw [Nat.min_eq_left (by omega)] at ut
  have xs:x < (arrOf t).size:=by rw [qt.len];omega
  refine wpS_bind (seek (k:=x) C qt (by omega) ut _ (fun y l r=>?_) fun l r lx lo hi=>?_)
  ·split
   ·rfl
   ·congr 1
    funext b
    match b with
    | some true=>rfl
    | some false=>rfl
    | none=>rfl
  ·show wpS _ _ _ _ (moveDown' x l >>= fun _=>pure (ForInStep.yield (none,()))) _ _
   rw [moveDown'_eq]
   refine wpS_bind (wpS_modify (wpS_pure ⟨rfl,qt.put (bubble_perm _ _ _),?_⟩))
   rw [Nat.min_eq_left (by omega)]
   exact moved_down xs lx ut lo hi
 ·obtain ⟨rfl,qt,ut⟩:=z
  refine ⟨rfl,qt,?_⟩
  rw [Nat.min_eq_right (by omega)] at ut
  exact ut
 ·rcases Nat.eq_zero_or_pos m with e | e
  ·intro i j ij j1
   obtain rfl:i=j:=by omega
   exact KeyOrd.kle_refl _
  ·rw [Nat.max_eq_left e,Nat.min_eq_left mn];exact up
 ·obtain ⟨rfl,qt,ut⟩:=z
  exact wpS_pure (k t qt ut)
structure Ended (src:Array Keyed) (κ:PyProof.Rows.KeyKind) (st:SortSt):Prop where
 pm:(arrOf st).Perm src
 fl:failedOf st=none
 pn:(pendingOf st).size=1
 up:SortedToK κ (arrOf st) src.size
theorem all_runs {st:SortSt} {R:Unit->SortSt->Prop} (C:Cmp prog w A E s src kd κ) (q:Sts src kd st) (two:2<=src.size) (few:src.size < 64) (k:∀ t,Ended src κ t->R () t):wpS (model prog w) A E s sortRuns' R st:=by
 rw [sortRuns'_eq]
 refine wpS_bind (wpS_get ?_)
 dsimp only
 have one:minRun' src.size src.size 0=src.size:=by
  match hs:src.size,two with
  | n+1,_=>rw [minRun'_succ,if_pos (by omega)]
 simp only [q.len,one]
 refine wpS_bind (wpS_mono (wpS_forRange (I:=fun x c t=>(x=0/\c=(none,0)/\Sts src kd t)\/(0 < x/\c=(none,src.size)/\Ended src κ t)) (Q:=fun c t=>c=(none,src.size)/\Ended src κ t)
  (fun x c t _ xn z=>?_) (fun c t z=>?_) (.inl ⟨rfl,rfl,q⟩)) fun c t z=>?_)
 ·rcases z with ⟨rfl,rfl,qt⟩ | ⟨x0,rfl,en⟩
  ·dsimp only
   rw [if_neg (by omega)]
   simp only [Nat.sub_zero,Nat.min_self,Nat.zero_add]
   have push:∀ t2,Sts src kd t2->SortedToK κ (arrOf t2) src.size->Ended src κ (setPending t2 ((pendingOf t2).push (0,src.size,0))):=fun t2 q2 u2=>⟨q2.pm,q2.fl,by show ((pendingOf t2).push _).size=1;rw [q2.pn];rfl,u2⟩
   refine wpS_bind (first_run C qt (by omega) (Nat.le_refl _) fun l t1 q1 l1 ln u1=>?_)
   dsimp only
   by_cases short:l < src.size
   ·rw [if_pos short]
    refine wpS_bind (wpS_lift (wpAny_rule ⟨rfl,?_⟩))
    refine wpS_bind (insert_all C q1 (Nat.le_refl _) ln u1 fun t2 q2 u2=>?_)
    simp only [Bool.not_true,Bool.false_eq_true,if_false]
    refine wpS_bind (wpS_get ?_)
    rw [show (pendingOf t2).back?=none by rw [q2.pn];rfl]
    exact wpS_bind (wpS_modify (wpS_pure (.inr ⟨Nat.zero_lt_one,rfl,push t2 q2 u2⟩)))
   ·rw [if_neg short]
    obtain rfl:l=src.size:=by omega
    refine wpS_bind (wpS_get ?_)
    rw [show (pendingOf t1).back?=none by rw [q1.pn];rfl]
    exact wpS_bind (wpS_modify (wpS_pure (.inr ⟨Nat.zero_lt_one,rfl,push t1 q1 u1⟩)))
  ·dsimp only
   rw [if_pos (Nat.le_refl _)]
   exact wpS_pure ⟨rfl,en⟩
 ·rcases z with ⟨z,_⟩ | ⟨_,e,en⟩
  ·omega
  ·exact ⟨e,en⟩
 ·obtain ⟨rfl,en⟩:=z
  dsimp only
  refine wpS_bind (wpS_mono (wpS_forRange (I:=fun _ c t'=>t'=t/\c=(none,())) (Q:=fun c t'=>t'=t/\c=(none,())) (fun x c t' _ _ z=>?_) (fun _ _ z=>z) ⟨rfl,rfl⟩) fun c t' z=>?_)
  ·obtain ⟨e,rfl⟩:=z
   subst e
   refine wpS_bind (wpS_get ?_)
   rw [if_pos (by rw [en.pn];exact Nat.le_refl 1)]
   exact wpS_pure ⟨rfl,rfl⟩
  ·obtain ⟨e,rfl⟩:=z
   subst e
   exact wpS_pure (k _ en)
theorem sort_any {h:Heap} {us:List Value} {P:Fin->Shared->Prop} (hs:s.heap=h.push (seqObj "list" us.toArray 0)) (few:us.length < 64) (kd:SortKind) (κ:PyProof.Rows.KeyKind)
  (hk:∀ (t:Shared),(∀ b o,h.get? b=some o->t.heap.get? b=some o)->2<=us.length->∀ (R:SortKind->Shared->Prop),R kd t->wpAny (model prog w) A (keyKind' us.toArray) R E t)
  (C:∀ (t:Shared),(∀ b o,h.get? b=some o->t.heap.get? b=some o)->Cmp prog w A E t (pairsOf us) kd κ)
  (k:∀ (out:Array Keyed) (n:Nat) (h2:Heap),out.Perm (pairsOf us)->SortedToK κ out us.length->(∀ b o,h.get? b=some o->h2.get? b=some o)->h2.get? h.objs.size=some (seqObj "list" (out.map (·.2)) n)->P (.done (.ret .none)) { s with heap:=h2 }) :
  wpAny (model prog w) A (Builtin.«list.sort» ⟨[.ref h.objs.size],[]⟩) P E s:=by
 have ho:s.heap.get? h.objs.size=some (seqObj "list" us.toArray 0):=by rw [hs];exact Heap.get?_push_size _ rfl
 have old:∀ b o,h.get? b=some o->b≠h.objs.size:=fun b o e=>Nat.ne_of_lt (Heap.lt_size e)
 have k0:∀ b o,h.get? b=some o->s.heap.get? b=some o:=fun b o e=>by rw [hs];exact Heap.get?_push_of_some _ e
 rw [list_sort_plain]
 refine wpAny_bind (listItems_at ho rfl ?_)
 refine wpAny_bind (listUpdate_at ho rfl ?_)
 have ho1:=get?_update_seq ho (fun _=>#[])
 have k1:∀ b o,h.get? b=some o->(s.heap.update h.objs.size (Obj.mapSeq fun _=>#[])).get? b=some o:=fun b o e=>(Heap.get?_update_other _ _ (Ne.symm (old b o e))).trans (k0 b o e)
 generalize s.heap.update h.objs.size (Obj.mapSeq fun _=>#[])=h1 at ho1 k1 ⊢
 generalize (if ((fun _=>#[]) us.toArray).size == us.toArray.size then 0 else 0+1)=e1 at ho1
 refine wpAny_bind (seqEpoch_at ho1 rfl ?_)
 refine wpAny_bind (wpAny_newTuple ?_ (Nat.le_trans (Nat.le_of_lt few) (by decide)))
 refine wpAny_bind (wpAny_newList ?_)
 refine wpAny_holding ?_
 dsimp only
 have lt1:@LT.lt Nat _ h.objs.size h1.objs.size:=Heap.lt_size ho1
 have k2:∀ b o,h1.get? b=some o->((h1.push (seqObj "tuple" us.toArray.toList.toArray 0)).push (seqObj "list" #[] 0)).get? b=some o:=fun b o e=>Heap.get?_push_of_some _ (Heap.get?_push_of_some _ e)
 have ho2:=k2 _ _ ho1
 show wpAny (model prog w) A _ P E { s with heap:=(h1.push (seqObj "tuple" us.toArray.toList.toArray 0)).push (seqObj "list" #[] 0) }
 generalize (h1.push (seqObj "tuple" us.toArray.toList.toArray 0)).push (seqObj "list" #[] 0)=h2 at k2 ho2 ⊢
 have us2:us.toArray.size=us.length:=List.size_toArray ..
 by_cases two:us.length < 2
 ·rw [if_pos (by rw [us2];exact two)]
  refine wpAny_bind (wpAny_pure ?_)
  rw [if_pos (by rw [us2];exact two),StateT.run_pure]
  refine wpAny_bind (wpAny_pure ?_)
  have up:SortedToK κ (pairsOf us) us.length:=fun i j ij j1=>by
   obtain rfl:i=j:=by omega
   exact KeyOrd.kle_refl _
  obtain ⟨st,es,ef,pm⟩:∃ st,st=SortSt.mk' general' (us.toArray.zip us.toArray) #[] 7 none/\failedOf st=none/\arrOf st=pairsOf us:=⟨_,rfl,rfl,rfl⟩
  rw [<- es]
  dsimp only
  have len:((arrOf st).map (·.2)).size=us.length:=by rw [Array.size_map,((by rw [pm]:(arrOf st).Perm (pairsOf us))).size_eq,pairsOf_size]
  refine wpAny_bind (seqEpoch_at ho2 rfl ?_)
  refine wpAny_bind (listUpdate_at ho2 rfl ?_ (hsz2:=by rw [len];exact Nat.le_trans (Nat.le_of_lt few) (by decide)))
  rw [ef]
  dsimp only
  rw [if_neg (by simp)]
  have ho3:=get?_update_seq ho2 (fun _=>(arrOf st).map (·.2))
  exact wpAny_pure (k (arrOf st) _ _ ((by rw [pm]:(arrOf st).Perm (pairsOf us))) (by rw [pm];exact up) (fun b o e=>(Heap.get?_update_other _ _ (Ne.symm (old b o e))).trans (k2 b o (k1 b o e))) ho3)
 ·rw [if_neg (by rw [us2];exact two)]
  refine wpAny_bind (hk _ (fun b o e=>k2 b o (k1 b o e)) (by omega) _ ?_)
  rw [if_neg (by rw [us2];exact two)]
  refine wpAny_bind (wpAny_mono (all_runs (R:=fun _ t=>Ended (pairsOf us) κ t) (C _ (fun b o e=>k2 b o (k1 b o e))) (st:=SortSt.mk' kd (us.toArray.zip us.toArray) #[] 7 none) ⟨Array.Perm.refl _,rfl,rfl,rfl⟩ (by rw [pairsOf_size];omega) (by rw [pairsOf_size];exact few) fun t en=>en) (fun r s' z=>?_) fun _ _ z=>z)
  obtain ⟨u,st⟩:=r
  obtain ⟨e,en⟩:=z
  subst e
  have up:=en.up
  rw [pairsOf_size] at up
  dsimp only
  have len:((arrOf st).map (·.2)).size=us.length:=by rw [Array.size_map,(en.pm).size_eq,pairsOf_size]
  refine wpAny_bind (seqEpoch_at ho2 rfl ?_)
  refine wpAny_bind (listUpdate_at ho2 rfl ?_ (hsz2:=by rw [len];exact Nat.le_trans (Nat.le_of_lt few) (by decide)))
  rw [en.fl]
  dsimp only
  rw [if_neg (by simp)]
  have ho3:=get?_update_seq ho2 (fun _=>(arrOf st).map (·.2))
  exact wpAny_pure (k (arrOf st) _ _ (en.pm) (up) (fun b o e=>(Heap.get?_update_other _ _ (Ne.symm (old b o e))).trans (k2 b o (k1 b o e))) ho3)
end
def ltT:List Str->List Str->Bool
 | [],[]=>false
 | [],_::_=>true
 | _::_,[]=>false
 | a::as,b::bs=>if a=b then ltT as bs else decide (a.cps.toList < b.cps.toList)
theorem cps_inj {a b:Str} (h:a.cps.toList=b.cps.toList):a=b:=by
 cases a;cases b
 simp only [Str.mk.injEq]
 exact Array.toList_inj.mp h
theorem ltT_irrefl:∀ a:List Str,ltT a a=false
 | []=>rfl
 | x::xs=>by rw [ltT,if_pos rfl];exact ltT_irrefl xs
theorem ltT_trans:∀ a b c:List Str,ltT a b=true->ltT b c=true->ltT a c=true
 | [],[],_,h,_=>by cases h
 | [],_::_,[],_,h=>by cases h
 | [],_::_,_::_,_,_=>rfl
 | _::_,[],_,h,_=>by cases h
 | _::_,_::_,[],_,h=>by cases h
 | x::xs,y::ys,z::zs,h1,h2=>by
  rw [ltT] at h1 h2 ⊢
  by_cases e1:x=y
  ·subst e1
   rw [if_pos rfl] at h1
   by_cases e2:x=z
   ·subst e2;rw [if_pos rfl] at h2 ⊢;exact ltT_trans xs ys zs h1 h2
   ·rw [if_neg e2] at h2 ⊢;exact h2
  ·rw [if_neg e1,decide_eq_true_iff] at h1
   by_cases e2:y=z
   ·subst e2;rw [if_neg e1];exact decide_eq_true h1
   ·rw [if_neg e2,decide_eq_true_iff] at h2
    have lt:=List.lt_trans h1 h2
    have ne:x≠z:=fun q=>by rw [q] at lt;exact List.lt_irrefl _ lt
    rw [if_neg ne];exact decide_eq_true lt
theorem ltT_neg:∀ a b c:List Str,ltT a c=true->ltT a b=true\/ltT b c=true
 | [],[],_,h=>.inr h
 | [],_::_,_,_=>.inl rfl
 | _::_,_,[],h=>by cases h
 | _::_,[],_::_,_=>.inr rfl
 | x::xs,y::ys,z::zs,h=>by
  rw [ltT] at h
  rw [ltT,ltT]
  by_cases e:x=z
  ·subst e
   rw [if_pos rfl] at h
   by_cases e1:x=y
   ·subst e1;rw [if_pos rfl,if_pos rfl];exact ltT_neg xs ys zs h
   ·rw [if_neg e1,if_neg (Ne.symm e1)]
    rcases Std.lt_trichotomy x.cps.toList y.cps.toList with q | q | q
    ·exact .inl (decide_eq_true q)
    ·exact absurd (cps_inj q) e1
    ·exact .inr (decide_eq_true q)
  ·rw [if_neg e,decide_eq_true_iff] at h
   by_cases e1:x=y
   ·subst e1;rw [if_neg e];exact .inr (decide_eq_true h)
   ·by_cases e2:y=z
    ·subst e2;rw [if_neg e1];exact .inl (decide_eq_true h)
    ·rw [if_neg e1,if_neg e2]
     by_cases q:x.cps.toList < y.cps.toList
     ·exact .inl (decide_eq_true q)
     ·exact .inr (decide_eq_true (List.lt_of_le_of_lt (List.not_lt.mp q) h))
theorem ltT_total:∀ a b:List Str,ltT a b=false->ltT b a=false->a=b
 | [],[],_,_=>rfl
 | [],_::_,h,_=>by cases h
 | _::_,[],_,h=>by cases h
 | x::xs,y::ys,h1,h2=>by
  rw [ltT] at h1 h2
  by_cases e:x=y
  ·subst e;rw [if_pos rfl] at h1 h2;rw [ltT_total xs ys h1 h2]
  ·rw [if_neg e,decide_eq_false_iff_not] at h1
   rw [if_neg (Ne.symm e),decide_eq_false_iff_not] at h2
   exact absurd (cps_inj (List.le_antisymm (List.not_lt.mp h2) (List.not_lt.mp h1))) e
def tupOrd (f:Addr->List Str):PyProof.Rows.KeyKind where
 α:=List Str
 blt:=ltT
 irrefl:=ltT_irrefl
 trans:=ltT_trans
 negTrans:=ltT_neg
 total:=ltT_total
 keyOf v:=match v with | .ref a=>some (f a) | _=>none
 dflt:=[]
theorem keyLt_tuples (b:Bool) (x y:Value):keyLt' (tuples' b) x y=(do
  let xs <- Builtin.List.listItems x;let ys <- Builtin.List.listItems y
  for ((p,q),i) in (xs.toList.zip ys.toList).zipIdx do
   if !(<- eqBool p q) then return <- oneLt' (b && i == 0) p q
  return xs.size < ys.size):=rfl
section
variable {prog:Program} {w:World} {A:Around} {E:Value->Shared->Prop} {s:Shared}
theorem oneLt_any {a b:Str} {t u:Tok} {o:Bool} {Q:Bool->Shared->Prop} (h:Q (decide (a.cps.toList < b.cps.toList)) s):wpAny (model prog w) A (oneLt' o (.str a t) (.str b u)) Q E s:=by
 cases o with
 | true=>exact oneLt_str h
 | false =>
  rw [oneLt'_eq]
  simp only [Bool.false_eq_true,if_false]
  refine wpAny_bind ?_
  show wpAny _ _ (compareOp .Lt (.str a t) (.str b u)) _ _ _
  exact lt_str (wpAny_truthy_bool h)
theorem lt_loop {o:Bool} {f:(Value × Value) × Nat->Option Bool × Unit->Sem (ForInStep (Option Bool × Unit))}
  (hf:∀ p q i,f ((p,q),i) (none,())=eqBool p q >>= fun e=>if (!e)=true then oneLt' (o && i == 0) p q >>= fun r=>pure (.done (some r,())) else pure (.yield (none,()))) :
  ∀ {xs:List Value} {as:List Str},StrsAre xs as->∀ {ys:List Value} {bs:List Str},StrsAre ys bs->∀ (k:Nat) (Q:Option Bool × Unit->Shared->Prop),
   (∀ r,(match r with | some b=>b=ltT as bs | none=>ltT as bs=decide (as.length < bs.length))->Q (r,()) s)->wpAny (model prog w) A (forIn ((xs.zip ys).zipIdx k) (none,()) f) Q E s:=by
 intro xs as sx
 induction sx with
 | nil =>
  intro ys bs sy k Q h
  rw [List.zip_nil_left,List.zipIdx_nil,List.forIn_nil]
  refine wpAny_pure (h none ?_)
  cases bs<;>simp [ltT]
 | cons a ta sx ih =>
  intro ys bs sy k Q h
  cases sy with
  | nil =>
   rw [List.zip_nil_right,List.zipIdx_nil,List.forIn_nil]
   exact wpAny_pure (h none (by simp [ltT]))
  | cons b tb sy =>
   rw [List.zip_cons_cons,List.zipIdx_cons,List.forIn_cons,hf]
   refine wpAny_bind (wpAny_bind (wpAny_eqBool_str ?_))
   by_cases e:a=b
   ·rw [decide_eq_true e,if_neg (by simp)]
    refine wpAny_pure (ih sy (k+1) Q fun r z=>h r ?_)
    cases r with
    | some v=>rw [show v=_ from z,ltT,if_pos e]
    | none =>
     show ltT (a::_) (b::_)=_
     rw [ltT,if_pos e,show ltT _ _=_ from z]
     simp
   ·rw [decide_eq_false e,if_pos (by simp)]
    refine wpAny_bind (oneLt_any (wpAny_pure (wpAny_pure (h (some _) ?_))))
    show _=ltT (a::_) (b::_)
    rw [ltT,if_neg e]
theorem lt_tups {x y:Addr} {xs ys:List Value} {as bs:List Str} {o:Bool} {Q:Bool->Shared->Prop} (hx:IsTup s.heap x xs.toArray) (hy:IsTup s.heap y ys.toArray) (sx:StrsAre xs as) (sy:StrsAre ys bs) (h:Q (ltT as bs) s) :
  wpAny (model prog w) A (keyLt' (tuples' o) (.ref x) (.ref y)) Q E s:=by
 obtain ⟨ox,hox,_,nx,dx⟩:=hx
 obtain ⟨oy,hoy,_,ny,dy⟩:=hy
 rw [keyLt_tuples]
 refine wpAny_bind (listItems_at hox dx ?_)
 refine wpAny_bind (listItems_at hoy dy ?_)
 refine wpAny_bind ?_
 refine lt_loop (o:=o) (fun p q i=>rfl) (by simpa using sx) (by simpa using sy) 0 _ fun r z=>?_
 cases r with
 | some v=>rw [show v=_ from z];exact wpAny_pure h
 | none =>
  refine wpAny_pure ?_
  have lx:=strs_len sx
  have ly:=strs_len sy
  rw [List.size_toArray,List.size_toArray,lx,ly,<- show ltT as bs=_ from z]
  exact h
def TupsV (h:Heap):List Value->List (List Str)->Prop:=Paired fun v zs=>∃ a its,v=.ref a/\IsTup h a its.toArray/\StrsAre its zs
theorem first_tup {a:Addr} {its:List Value} {z:Str} {zs:List Str} {Q:Option Value->Shared->Prop} (ha:IsTup s.heap a its.toArray) (q:StrsAre its (z::zs)) (h:∀ t,Q (some (.str z t)) s):wpAny (model prog w) A (firstOfTuple' (.ref a)) Q E s:=by
 obtain ⟨o,ho,hc,n,hd⟩:=id ha
 cases q with
 | cons _ t r =>
  show wpAny _ _ (typeOf (.ref a) >>= fun t=>if (t != .type "tuple")=true then pure none else Builtin.List.listItems (.ref a) >>= fun xs=>pure xs[0]?) _ _ _
  refine wpAny_bind (wpAny_typeOf ha.typeIs ?_)
  rw [if_neg (by decide)]
  exact wpAny_bind (listItems_at ho hd (wpAny_pure (h t)))
theorem firsts:∀ {us:List Value} {zss:List (List Str)} {Q:List (Option Value)->Shared->Prop},TupsV s.heap us zss->(∀ zs∈zss,zs≠[])->(∀ vs ss,StrsAre vs ss->vs.length=us.length->Q (vs.map some) s)->wpAny (model prog w) A (us.mapM firstOfTuple') Q E s
 | [],_,Q,.nil,_,h=>by rw [List.mapM_nil];exact wpAny_pure (h [] [] .nil rfl)
 | u::us,_,Q,.cons (b:=zs) ⟨a,its,e,ha,q⟩ t,ne,h=>by
  subst e
  rw [List.mapM_cons]
  match zs,q,ne zs List.mem_cons_self with
  | z::zr,q,_ =>
   refine wpAny_bind (first_tup ha q fun tk=>wpAny_bind (firsts t (fun zs' hz=>ne zs' (List.mem_cons_of_mem _ hz)) fun vs ss sv lv=>wpAny_pure ?_))
   exact h (.str z tk::vs) (z::ss) (.cons z tk sv) (by simp [lv])
  | [],_,z=>exact absurd rfl z
theorem kind_tups {us:List Value} {zss:List (List Str)} {R:SortKind->Shared->Prop} (t:TupsV s.heap us zss) (ne:∀ zs∈zss,zs≠[]) (two:2<=us.length) (h:R (tuples' true) s):wpAny (model prog w) A (keyKind' us.toArray) R E s:=by
 rw [keyKind'_eq,List.mapM_toArray]
 refine wpAny_bind ?_
 show wpAny _ _ (List.toArray <$> us.mapM firstOfTuple') _ _ _
 rw [map_eq_pure_bind]
 refine wpAny_bind (firsts t ne fun vs ss sv lv=>wpAny_pure ?_)
 rw [if_pos (by simp)]
 refine wpAny_bind (wpAny_rule ?_)
 have e:((vs.map some).toArray.filterMap id)=vs.toArray:=by simp
 rw [e,oneTypeOnly'_eq,List.mapM_toArray,mapM_typeOf_strs sv]
 simp only [map_pure,pure_bind]
 match vs,lv,sv with
 | v::r,lv,sv =>
  have all:((List.map (fun _=>Value.type "str") (v::r)).toArray.all fun x=>x == Value.type "str")=true:=by
   simp only [List.all_toArray,List.all_map,List.all_eq_true]
   intro _ _;rfl
  have h0:(List.map (fun _=>Value.type "str") (v::r)).toArray[0]?=some (Value.type "str"):=by simp
  rw [h0]
  simp only [all,if_true,pure_bind]
  exact wpAny_pure h
 | [],lv,_=>simp at lv;omega
end
end L2
namespace L3
open PySem PySem.Spec PyProof.Rows L2
section
variable {prog:Program} {w:World} {A:Around} {E:Value->Shared->Prop} {s:Shared}
abbrev KT (prog:Program) (w:World) (h:Heap) (zs:List Str) (a:Addr):Prop:=IsTupleKey (PySem.strKind prog w) h zs a
abbrev hT (prog:Program) (w:World) (zs:List Str):Int:=tupleKeyHash (PySem.strKind prog w) zs
theorem items_str {ks:List Str} {vs:List Value} (h:ItemsAre (PySem.strKind prog w) ks vs):∀ v∈vs,∃ z t,v=.str z t:=by
 induction h with
 | nil=>intro v hv;exact nomatch hv
 | @cons k v' ks vs h1 _ ih =>
  intro v hv
  rcases List.mem_cons.mp hv with rfl | hv
  ·have h1':Value.isStrOf k v=true:=h1
   cases v with
   | str z t=>exact ⟨z,t,rfl⟩
   | _=>simp [Value.isStrOf] at h1'
  ·exact ih v hv
theorem ofClass_tup {ks:List Str} {a:Addr} {Q:Bool->Shared->Prop} (hk:KT prog w s.heap ks a) (h:Q false s):wpAny (model prog w) A (ofAClassStatement 8 (.ref a)) Q E s:=by
 have hT:=hk.typeIs
 obtain ⟨o,items,n,ho,_,hd,hi⟩:=hk
 unfold ofAClassStatement
 refine wpAny_bind (wpAny_typeOf hT ?_)
 dsimp only
 rw [if_pos (by decide)]
 refine wpAny_bind (wpAny_pure ?_)
 simp only [Bool.not_true,Bool.false_eq_true,if_false]
 refine wpAny_bind (wpAny_seqItems ho hd ?_)
 dsimp only
 refine wpAny_bind ?_
 rw [<- Array.forIn_toList]
 refine wpAny_forIn_list _ (fun rest r s'=>r.1=none/\s'=s/\∀ v∈rest,∃ z t,v=.str z t) _ ?_ ?_ _ _ ⟨rfl,rfl,items_str hi⟩
 ·rintro v rest r s' ⟨hr,rfl,hall⟩
  obtain ⟨z,t,rfl⟩:=hall v List.mem_cons_self
  have e:ofAClassStatement 7 (.str z t)=pure false:=rfl
  rw [e]
  refine wpAny_bind (wpAny_pure ?_)
  simp only [Bool.false_eq_true,if_false]
  exact wpAny_pure ⟨rfl,rfl,fun u hu=>hall u (List.mem_cons_of_mem _ hu)⟩
 ·rintro ⟨r1,r2⟩ s' ⟨hr,rfl,_⟩
  simp only at hr
  subst hr
  exact wpAny_pure h
theorem unseen {ks:List Str} {b:Addr} {Q:Bool->Shared->Prop} (hk:KT prog w s.heap ks b) {stored:List Value} (hs:∀ v∈stored,∃ c ys,v=.ref c/\KT prog w s.heap ys c) (h:Q false s):wpAny (model prog w) A (searchCouldBeSeen (.ref b) stored) Q E s:=by
 unfold searchCouldBeSeen
 refine wpAny_bind ?_
 refine wpAny_forIn_list _ (fun rest r s'=>r.1=none/\s'=s/\∀ v∈rest,∃ c ys,v=.ref c/\KT prog w s.heap ys c) _ ?_ ?_ _ _ ⟨rfl,rfl,hs⟩
 ·rintro v rest r s' ⟨hr,rfl,hall⟩
  obtain ⟨c,ys,rfl,hc⟩:=hall v List.mem_cons_self
  have rest':∀ u∈rest,∃ c ys,u=.ref c/\KT prog w s'.heap ys c:=fun u hu=>hall u (List.mem_cons_of_mem _ hu)
  dsimp only
  by_cases q:(b == c || carriedByValue (.ref b) && carriedByValue (.ref c))=true
  ·rw [if_pos q]
   exact wpAny_pure ⟨rfl,rfl,rest'⟩
  ·rw [if_neg q]
   refine wpAny_bind (wpAny_eqIsQuiet_tuple hk ?_)
   simp only [Bool.not_true,Bool.false_eq_true,if_false]
   refine wpAny_bind (wpAny_eqIsQuiet_tuple hc ?_)
   simp only [Bool.not_true,Bool.false_eq_true,if_false]
   refine wpAny_bind (ofClass_tup hk ?_)
   simp only [Bool.false_eq_true,if_false]
   refine wpAny_bind (ofClass_tup hc ?_)
   simp only [Bool.false_eq_true,if_false]
   exact wpAny_pure ⟨rfl,rfl,rest'⟩
 ·rintro ⟨r1,r2⟩ s' ⟨hr,rfl,_⟩
  simp only at hr
  subst hr
  exact wpAny_pure h
def Elems (prog:Program) (w:World) (h:Heap) (es:Array (Int × Value)):Prop:=∀ e∈es.toList,∃ c ys,e.2=.ref c/\KT prog w h ys c/\e.1=hT prog w ys
def Among (prog:Program) (w:World) (h:Heap) (es:Array (Int × Value)) (zs:List Str):Prop:=∃ e∈es.toList,∃ c,e.2=.ref c/\KT prog w h zs c
theorem arr_mem {α:Type} {es:Array α} {i:Nat} {e:α} (h:es[i]?=some e):e∈es.toList:=by
 rw [<- Array.getElem?_toList] at h
 exact List.mem_of_getElem? h
theorem search_from {a b:Addr} {o:Obj} {es:Array (Int × Value)} {ep:Nat} {t:SetTable} {zs:List Str} {K:Nat} {Q:SetFound->Shared->Prop} (hu:A.units < cLine) (ho:s.heap.get? a=some o) (hd:o.data=.set es ep t) (T:Tab t es) (el:Elems prog w s.heap es) (hk:KT prog w s.heap zs b)
  (hK:K < 10 * SetTable.turns t.mask) (emp:∀ i:Nat,t.place[i]?≠some (sl t.mask (hT prog w zs) K)) (bef:∀ k,k < K->∃ i:Nat,t.place[i]?=some (sl t.mask (hT prog w zs) k))
  (q1:Among prog w s.heap es zs->Q (.there none) s) (q2:¬ Among prog w s.heap es zs->Q (.free (sl t.mask (hT prog w zs) K) false) s) :
  ∀ (fuel k:Nat) (stand:Option SetTable.Probe),K - k < fuel->k<=K->stand.getD (t.probeStart (hT prog w zs))=st t.mask (hT prog w zs) k ->
   (∀ (k' i:Nat) (e:Int × Value),k' < k->t.place[i]?=some (sl t.mask (hT prog w zs) k')->es[i]?=some e->∀ c,e.2=.ref c->¬ KT prog w s.heap zs c) ->
   wpAny (model prog w) A (setSearchFrom a (.ref b) (hT prog w zs) true fuel stand) Q E s
 | 0,k,stand,lt,_,_,_=>by omega
 | fuel+1,k,stand,lt,le,est,no=>by
  unfold setSearchFrom
  refine wpAny_bind (wpAny_setState_of ho hd T.fits ?_)
  dsimp only
  rw [T.gave]
  simp only [Bool.false_eq_true,if_false]
  rw [est]
  have hg:=go_spec T (fun i=>((es[i]?).map (·.1)).getD 0) (hT prog w zs) (10 * SetTable.turns t.mask) k ⟨K,le,by omega,emp⟩
  obtain ⟨n,kn,mid,res⟩:=hg
  have nK:n<=K:=by
   refine Nat.le_of_not_lt fun q=>?_
   obtain ⟨i,e,_⟩:=mid K le q
   exact emp i e
  rcases res with ⟨ne,pe⟩ | ⟨i,pi,hh,pe⟩
  ·have en:n=K:=by
    refine Nat.le_antisymm nK (Nat.le_of_not_lt fun q=>?_)
    obtain ⟨i,e⟩:=bef n q
    exact ne i e
   subst en
   have pe':t.probe (fun i=>((es[i]?).map (·.1)).getD 0) (hT prog w zs) (st t.mask (hT prog w zs) k)=some (.empty (sl t.mask (hT prog w zs) n) none):=pe
   have fin:¬ Among prog w s.heap es zs:=by
    intro am
    obtain ⟨e,he,c,ec,hc⟩:=am
    obtain ⟨i,hi,rfl⟩:=List.getElem_of_mem he
    have hi':i < es.size:=by simpa using hi
    have ei:es[i]?=some es[i]:=Array.getElem?_eq_getElem hi'
    have hpi:i < t.place.size:=by rw [T.size];exact hi'
    obtain ⟨ke,b1,b2,b3⟩:=T.wp i t.place[i] es[i] (Array.getElem?_eq_getElem hpi) ei
    obtain ⟨c',ys,ec',hys,hsh⟩:=el _ he
    have ec2:es.toList[i]=es[i]:=by simp
    rw [ec2] at ec ec' hsh
    rw [ec] at ec'
    cases ec'
    have ez:zs=ys:=hc.inj hys
    subst ez
    rw [hsh] at b2 b3
    have kK:ke < n:=by
     refine Nat.lt_of_not_le fun q=>?_
     by_cases eq:n=ke
     ·subst eq;exact ne i (by rw [b2];exact Array.getElem?_eq_getElem hpi)
     ·obtain ⟨i',e'⟩:=b3 n (by omega);exact ne i' e'
    by_cases kk:ke < k
    ·exact no ke i es[i] kk (by rw [b2];exact Array.getElem?_eq_getElem hpi) ei c ec hc
    ·obtain ⟨i',e1,e2⟩:=mid ke (by omega) kK
     have ii:i'=i:=by
      have x1:=below_at T.rise e1
      have x2:=below_at T.rise (show t.place[i]?=some (sl t.mask (hT prog w zs) ke) by rw [b2];exact Array.getElem?_eq_getElem hpi)
      omega
     subst ii
     rw [ei] at e2
     simp [hsh] at e2
   split
   ·rename_i met heq
    have em:=Option.some.inj (heq.symm.trans pe')
    subst em
    exact wpAny_pure (q2 fin)
   ·rename_i heq
    exact (heq _ pe').elim
  ·have hi:i < es.size:=by rw [<- T.size];exact (Array.getElem?_eq_some_iff.mp pi).1
   have ei:es[i]?=some es[i]:=Array.getElem?_eq_getElem hi
   obtain ⟨c,ys,ec,hys,hsh⟩:=el _ (arr_mem ei)
   have pe':t.probe (fun i=>((es[i]?).map (·.1)).getD 0) (hT prog w zs) (st t.mask (hT prog w zs) k)=some (.candidate (sl t.mask (hT prog w zs) n) i (st t.mask (hT prog w zs) (n+1))):=pe
   have nlt:n < K:=by
    refine Nat.lt_of_le_of_ne nK fun e=>?_
    subst e;exact emp i pi
   split
   rotate_left
   ·rename_i heq
    exact (heq _ pe').elim
   rename_i met heq
   have em:=Option.some.inj (heq.symm.trans pe')
   subst em
   dsimp only
   have hl:t.led=true\/t.led=false:=by cases t.led<;>simp
   rcases hl with ld | ld
   all_goals rw [ld]
   all_goals simp only [Bool.not_true,Bool.not_false,Bool.false_eq_true,if_false,if_true]
   rotate_left
   refine wpAny_bind (unseen hk (fun v hv=>?hv) ?_)
   case hv =>
    obtain ⟨e,he,rfl⟩:=List.mem_map.mp hv
    have he':e∈es.toList:=by
     rw [Array.toList_filter] at he
     exact (List.mem_filter.mp he).1
    obtain ⟨c2,ys2,g1,g2,_⟩:=el e he'
    exact ⟨c2,ys2,g1,g2⟩
   simp only [Bool.false_eq_true,if_false]
   all_goals (
    rw [ei]
    generalize es[i]=en at ec hsh ei
    obtain ⟨hh0,y⟩:=en
    dsimp only at ec hsh
    subst ec
    dsimp only
    refine wpAny_bind (wpAny_holding (wpAny_eqBool_tuple hu hys hk ?_))
    refine wpAny_bind (wpAny_setState_of ho hd T.fits ?_)
    dsimp only
    by_cases ez:ys=zs
    ·rw [decide_eq_true ez]
     subst ez
     simp only [Bool.true_and,if_true]
     exact wpAny_pure (q1 ⟨_,arr_mem ei,c,rfl,hys⟩)
    ·rw [decide_eq_false ez]
     simp only [Bool.true_and,Bool.false_eq_true,if_false]
     have sm:t.sameMemory t.moves t.mask=some true:=by unfold SetTable.sameMemory;rw [if_pos (by simp)]
     rw [sm]
     dsimp only
     rw [if_pos rfl,slot_live T.rise pi]
     dsimp only
     rw [ei]
     dsimp only
     refine wpAny_bind (wpAny_isSame_ref_self ?_)
     refine wpAny_bind (wpAny_pure ?_)
     simp only [if_true]
     refine search_from hu ho hd T el hk hK emp bef q1 q2 fuel (n+1) _ (by omega) (by omega) rfl fun k' i' e' hk' p' e1 c' ec' kt=>?_
     by_cases k1:k' < k
     ·exact no k' i' e' k1 p' e1 c' ec' kt
     ·by_cases k2:k'=n
      ·subst k2
       have ii:i'=i:=by have x1:=below_at T.rise p';have x2:=below_at T.rise pi;omega
       subst ii
       rw [ei] at e1
       cases e1
       cases ec'
       exact ez (hys.inj kt)
      ·obtain ⟨i2,f1,f2⟩:=mid k' (by omega) (by omega)
       have ii:i'=i2:=by have x1:=below_at T.rise p';have x2:=below_at T.rise f1;omega
       subst ii
       obtain ⟨c2,ys2,g1,g2,g3⟩:=el _ (arr_mem e1)
       rw [ec'] at g1
       cases g1
       have:zs=ys2:=kt.inj g2
       subst this
       rw [e1] at f2
       simp [g3] at f2)
end
section
variable {α:Type} [DecidableEq α]
end
section
variable {prog:Program} {w:World} {A:Around} {E:Value->Shared->Prop} {s:Shared}
theorem hashVal_tup {ks:List Str} {a:Addr} {Q:Bool->Shared->Prop} (hk:KT prog w s.heap ks a) (ne:ks≠[]) (h:Q false s):wpAny (model prog w) A (hashByValue 8 (.ref a)) Q E s:=by
 have hT:=hk.typeIs
 obtain ⟨o,items,n,ho,_,hd,hi⟩:=hk
 unfold hashByValue
 refine wpAny_bind (wpAny_specialOf hT F.slot_tuple_hash.lookup ?_)
 dsimp only
 refine wpAny_bind (wpAny_seqItems ho hd ?_)
 refine wpAny_bind ?_
 show wpAny _ _ (forIn items _ _) _ _ s
 rw [<- Array.forIn_toList]
 have st:=items_str hi
 have nil:items.toList≠[]:=fun e=>by rw [e] at hi;cases hi;exact ne rfl
 cases hl:items.toList with
 | nil=>exact absurd hl nil
 | cons v r =>
  rw [hl] at st
  obtain ⟨z,t,rfl⟩:=st v List.mem_cons_self
  rw [List.forIn_cons]
  have e:hashByValue 7 (.str z t)=pure false:=rfl
  rw [e]
  refine wpAny_bind (wpAny_bind (wpAny_pure ?_))
  simp only [Bool.not_false,if_true]
  exact wpAny_pure (wpAny_pure (wpAny_pure h))
abbrev ent1 (prog:Program) (w:World) (p:Addr × List Str):Int × Value:=(hT prog w p.2,.ref p.1)
structure SetQ (prog:Program) (w:World) (h:Heap) (a:Addr) (ps:List (Addr × List Str)) (led:Bool) (o:Obj) (es:Array (Int × Value)) (ep:Nat) (t:SetTable):Prop where
 ho:h.get? a=some o
 ex:o.ExactSet
 hd:o.data=.set es ep t
 tab:Tab t es
 pm:es.toList.Perm (ps.map (ent1 prog w))
 four:t.mask=7->es.size<=4
 led:t.led=led
 pl:es.size≠0->t.plain=false
def addP (ps:List (Addr × List Str)) (p:Addr × List Str):List (Addr × List Str):=if p.2∈ps.map (·.2) then ps else ps++[p]
theorem SetQ.size {h:Heap} {a:Addr} {ps:List (Addr × List Str)} {led:Bool} {o:Obj} {es:Array (Int × Value)} {ep:Nat} {t:SetTable} (x:SetQ prog w h a ps led o es ep t):es.size=ps.length:=by
 rw [<- Array.length_toList,x.pm.length_eq,List.length_map]
theorem SetQ.keep {h h':Heap} {a:Addr} {ps:List (Addr × List Str)} {led:Bool} {o:Obj} {es:Array (Int × Value)} {ep:Nat} {t:SetTable} (x:SetQ prog w h a ps led o es ep t) (k:∀ o,h.get? a=some o->h'.get? a=some o):SetQ prog w h' a ps led o es ep t:={ x with ho:=k _ x.ho }
theorem SetQ.elems {h:Heap} {a:Addr} {ps:List (Addr × List Str)} {led:Bool} {o:Obj} {es:Array (Int × Value)} {ep:Nat} {t:SetTable} (x:SetQ prog w h a ps led o es ep t) (ks:∀ p∈ps,KT prog w h p.2 p.1):Elems prog w h es:=fun e he=>by
 obtain ⟨p,hp,rfl⟩:=List.mem_map.mp (x.pm.mem_iff.mp he)
 exact ⟨p.1,p.2,rfl,ks p hp,rfl⟩
theorem SetQ.among {h:Heap} {a:Addr} {ps:List (Addr × List Str)} {led:Bool} {o:Obj} {es:Array (Int × Value)} {ep:Nat} {t:SetTable} (x:SetQ prog w h a ps led o es ep t) (ks:∀ p∈ps,KT prog w h p.2 p.1) {zs:List Str}:Among prog w h es zs ↔ zs∈ps.map (·.2):=by
 constructor
 ·rintro ⟨e,he,c,ec,hc⟩
  obtain ⟨p,hp,rfl⟩:=List.mem_map.mp (x.pm.mem_iff.mp he)
  cases ec
  exact List.mem_map.mpr ⟨p,hp,(ks p hp).inj hc⟩
 ·intro hz
  obtain ⟨p,hp,rfl⟩:=List.mem_map.mp hz
  exact ⟨_,x.pm.mem_iff.mpr (List.mem_map.mpr ⟨p,hp,rfl⟩),p.1,rfl,ks p hp⟩
theorem Tab.plain {t:SetTable} {es:Array (Int × Value)} (T:Tab t es) (p:Bool):Tab { t with plain:=p } es:=⟨T.rise,T.size,T.nod,T.msk,T.le,T.few,T.wp⟩
theorem putSet_get {h:Heap} {a:Addr} {o:Obj} {es:Array (Int × Value)} {ep:Nat} {t:SetTable} (ho:h.get? a=some o) (hd:o.data=.set es ep t) (es':Array (Int × Value)) (t':SetTable):(h.update a (Obj.putSet es' t')).get? a=some { o with data:=.set es' (ep+1) t' }:=by
 have:=Heap.get?_update_self (Obj.putSet es' t') ho (by rw [putSet_of es' t' hd];rfl)
 rw [putSet_of es' t' hd] at this
 exact this
theorem SetQ.add {a b:Addr} {zs:List Str} {ps:List (Addr × List Str)} {led:Bool} {o:Obj} {es:Array (Int × Value)} {ep:Nat} {t:SetTable} {Q:Bool->Shared->Prop} (hu:A.units < cLine) (x:SetQ prog w s.heap a ps led o es ep t) (ks:∀ p∈ps,KT prog w s.heap p.2 p.1) (hk:KT prog w s.heap zs b) (ne:zs≠[]) (room:ps.length+1<=12)
  (k:∀ (bb:Bool) h' o' es' ep' t',Heap.SameBut a s.heap h'->SetQ prog w h' a (addP ps (b,zs)) led o' es' ep' t'->Q bb { s with heap:=h' }) :
  wpAny (model prog w) A (setAddHashed a (.ref b) (hT prog w zs)) Q E s:=by
 obtain ⟨K,hK,emp,bef⟩:=x.tab.first (hT prog w zs)
 have big:es.size+1<=12:=by rw [x.size];exact room
 have roomy:es.size+1<=t.mask:=by
  rcases x.tab.msk with e | e
  ·have:=x.four e;omega
  ·omega
 unfold setAddHashed
 refine wpAny_holding ?_
 show wpAny _ _ (setAddHashedIn a (.ref b) (hT prog w zs) (99999+1)) _ _ _
 unfold setAddHashedIn
 refine wpAny_bind (wpAny_setState_of x.ho x.hd x.tab.fits ?_)
 dsimp only
 have bs:byScan (.ref b) es=false:=rfl
 rw [bs]
 simp only [Bool.false_eq_true,if_false]
 refine wpAny_bind ?_
 refine search_from hu x.ho x.hd x.tab (x.elems ks) hk hK emp bef (fun am=>?_) (fun nam=>?_) 100000 0 none (by have:SetTable.turns t.mask<=46:=by { unfold SetTable.turns;rcases x.tab.msk with e | e<;>omega };omega) (Nat.zero_le _) rfl (fun k' i e hk'=>absurd hk' (Nat.not_lt_zero _))
 ·have e2:addP ps (b,zs)=ps:=by unfold addP;rw [if_pos ((x.among ks).mp am)]
  refine wpAny_pure ?_
  exact k false s.heap o es ep t (Heap.SameBut.refl a s.heap) (by rw [e2];exact x)
 ·have e2:addP ps (b,zs)=ps++[(b,zs)]:=by unfold addP;rw [if_neg fun q=>nam ((x.among ks).mpr q)]
  rw [e2] at k
  dsimp only
  refine wpAny_bind (wpAny_setState_of x.ho x.hd x.tab.fits ?_)
  dsimp only
  have T1:=x.tab.put (x:=.ref b) roomy hK emp bef (sl_le _ _ _)
  have em:(t.put (sl t.mask (hT prog w zs) K)).1.mask=t.mask:=rfl
  have el1:(t.put (sl t.mask (hT prog w zs) K)).1.led=t.led:=rfl
  have epl1:(t.put (sl t.mask (hT prog w zs) K)).1.plain=t.plain:=rfl
  have perm:(SetTable.insertAt es (t.put (sl t.mask (hT prog w zs) K)).2 (hT prog w zs,Value.ref b)).toList.Perm (es.toList++[(hT prog w zs,Value.ref b)]):=by
   have:=SetTable.insertAt_perm es (t.put (sl t.mask (hT prog w zs) K)).2 (hT prog w zs,Value.ref b)
   rw [Array.toList_push] at this
   exact this
  generalize (t.put (sl t.mask (hT prog w zs) K)).1=t1 at T1 em el1 epl1 ⊢
  generalize SetTable.insertAt es (t.put (sl t.mask (hT prog w zs) K)).2 (hT prog w zs,Value.ref b)=es1 at T1 perm ⊢
  have sz1:es1.size=es.size+1:=by rw [<- Array.length_toList,perm.length_eq,List.length_append,Array.length_toList];rfl
  have pm1:es1.toList.Perm ((ps++[(b,zs)]).map (ent1 prog w)):=by
   rw [List.map_append]
   exact perm.trans (x.pm.append_right _)
  have tail:∀ t2:SetTable,Tab t2 es1->t2.mask=t.mask->t2.led=led->t2.plain=false->wpAny (model prog w) A (do
    storeSet a es1 t2
    if (!false && t2.tooFull)=true then do
      setRelay a (SetTable.grown (es.size+1))
      pure true
     else pure true) Q E s:=fun t2 T2 m2 l2 p2=>by
   refine wpAny_bind (wpAny_storeSet_of x.ho x.hd ?_ (Nat.le_trans (by omega:es1.size<=12) (by decide)))
   have g1:=putSet_get x.ho x.hd es1 t2
   have sb1:=Heap.SameBut.update s.heap a (Obj.putSet es1 t2)
   generalize s.heap.update a (Obj.putSet es1 t2)=h1 at g1 sb1 ⊢
   by_cases tf:t2.tooFull=true
   ·rw [tf]
    simp only [Bool.not_false,Bool.true_and,if_true]
    have five:t.mask=7/\es.size=4:=by
     unfold SetTable.tooFull SetTable.fill at tf
     rw [T2.nod,T2.size,m2,sz1] at tf
     have tf':(es.size+1+0) * 5 ≥ t.mask * 3:=by simpa using tf
     rcases x.tab.msk with e | e
     ·have:=x.four e;exact ⟨e,by omega⟩
     ·omega
    rw [five.2]
    refine wpAny_bind ?_
    unfold setRelay
    refine wpAny_bind (wpAny_setState_of (s:={ s with heap:=h1 }) g1 rfl T2.fits ?_)
    dsimp only
    have gr:SetTable.grown (4+1)=20:=rfl
    rw [gr,if_neg (by decide)]
    obtain ⟨t3,order,er,m3,l3,p3,T3,pm3,sz3⟩:=laid_tab (m:=31) (.inr rfl) es1 (by omega) t2.finger (t2.movedTo 31) t2.led t2.plain
    have er':t2.relaid (es1.map (·.1)) 20=some (t3,order):=by unfold SetTable.relaid;rw [above20];exact er
    rw [er']
    refine wpAny_bind ?_
    obtain ⟨es3,he3⟩:∃ es3,es3=order.filterMap (fun i=>es1[i]?):=⟨_,rfl⟩
    rw [<- he3] at T3 pm3 sz3
    refine wpAny_of_eq (Eq.trans (b:=if (es3.size != es1.size)=true then (unsupported "internal:set-table-lost-an-element" >>= fun (_:PUnit)=>pure (es3,t3)) else pure (es3,t3)) ?_ (if_neg (by rw [sz3];simp))) ?_
    ·rw [he3];rfl
    dsimp only
    refine wpAny_storeSet_of (s:={ s with heap:=h1 }) g1 rfl ?_ (Nat.le_trans (by omega:es3.size<=12) (by decide))
    have g2:=putSet_get (es':=es3) (t':=t3) g1 rfl
    have sb2:=sb1.trans (Heap.SameBut.update h1 a (Obj.putSet es3 t3))
    exact wpAny_pure (k true _ _ es3 _ t3 sb2 ⟨g2,x.ex,rfl,T3,pm3.trans pm1,fun e=>by rw [m3] at e;omega,by rw [l3];exact l2,fun _=>by rw [p3];exact p2⟩)
   ·have tf':t2.tooFull=false:=by simpa using tf
    rw [tf']
    simp only [Bool.and_false,Bool.false_eq_true,if_false]
    refine wpAny_pure (k true _ _ es1 _ t2 sb1 ⟨g1,x.ex,rfl,T2,pm1,fun e=>?_,l2,fun _=>p2⟩)
    have q:¬ (es.size+1+0) * 5 ≥ t.mask * 3:=by
     intro q
     have:t2.tooFull=true:=by
      unfold SetTable.tooFull SetTable.fill
      rw [T2.nod,T2.size,m2,sz1]
      simpa using q
     rw [this] at tf';cases tf'
    rw [m2] at e
    omega
  by_cases tp:t1.plain=true
  ·rw [if_pos tp]
   refine wpAny_bind (hashVal_tup hk ne ?_)
   simp only [Bool.false_eq_true,if_false]
   exact tail { t1 with plain:=false } (T1.plain false) em (el1.trans x.led) rfl
  ·rw [if_neg tp]
   refine wpAny_bind (wpAny_pure ?_)
   simp only [if_true]
   exact tail t1 T1 em (el1.trans x.led) (by simpa using tp)
end
section
variable {prog:Program} {w:World} {A:Around} {E:Value->Shared->Prop} {s:Shared} {R:Result->Shared->Prop}
theorem items_of {zs:List Str} {us:List Value} (h:Vals (zs.map V.str) us):ItemsAre (PySem.strKind prog w) zs us:=by
 induction zs generalizing us with
 | nil=>cases h;exact .nil
 | cons z zs ih =>
  cases h with
  | cons r t =>
   obtain ⟨k,rfl⟩:=(show ∃ k,_=Value.str z k from r)
   exact .cons (by show Value.isStrOf z (.str z k)=true;simp [Value.isStrOf]) (ih t)
theorem set_add {a b:Addr} {zs:List Str} {ps:List (Addr × List Str)} {led:Bool} {o:Obj} {es:Array (Int × Value)} {ep:Nat} {t:SetTable} {Q:Value->Shared->Prop} (hu:A.units+1 < cLine) (x:SetQ prog w s.heap a ps led o es ep t) (ks:∀ p∈ps,KT prog w s.heap p.2 p.1) (hk:KT prog w s.heap zs b) (ne:zs≠[]) (room:ps.length+1<=12)
  (k:∀ h' o' es' ep' t',Heap.SameBut a s.heap h'->SetQ prog w h' a (addP ps (b,zs)) led o' es' ep' t'->Q .none { s with heap:=h',toks:=s.toks+(zs.length+1) }) :
  wpAny (model prog w) A (call (.builtin "set.add") [.ref a,.ref b]) Q E s:=by
 have hT':s.TypeIs (.ref a) "set" := ⟨o,x.ho,x.ex.1⟩
 refine wpAny_call_entry F.slot_set_add hT' F.entry_set_add ?_ (F.args_set_add_2 _ _)
 unfold Builtin.«set.add» Builtin.Frozenset.oneOther
 simp only [List.isEmpty_nil,bind_assoc]
 unfold Builtin.Frozenset.addrOf setAdd
 refine wpAny_bind (wpAny_pure ?_)
 try dsimp only
 refine wpAny_bind (wpAny_pure ?_)
 try dsimp only
 refine wpAny_bind ?_
 refine wpAny_holding ?_
 refine wpAny_bind (wpAny_pyHash_tuple (by show A.units+1 < cLine;exact hu) hk ?_)
 refine SetQ.add (s:={ s with toks:=s.toks+(zs.length+1) }) (by show A.units+1 < cLine;exact hu) x ks hk ne room fun bb h' o' es' ep' t' sb x'=>?_
 show wpAny _ _ (ret Value.none) _ _ _
 exact wpAny_pure ⟨_,rfl,k h' o' es' ep' t' sb x'⟩
theorem turn_set (elt tg iter:Expr) (ifs:List Expr) (sc:Scope) (pos:Pos) (it acc:Value) (env:Env) :
  compTurn (.SetComp elt [⟨tg,iter,ifs,0⟩] sc pos) 0 it acc env=(do
   standAt iter.pos
   match <- pyNext it with
   | none=>pure (.done .next)
   | some v =>
    letOwnedTupleGo tg it v
    assign tg env v
    let mut ok:=true
    for c in ifs do
     if ok then ok <- isTrue c env (eval c env)
    if ok then
     (do let v <- eval elt env;standAt elt.pos;let _ <- call (.builtin "set.add") [acc,v])
    again (.compLoop (.SetComp elt [⟨tg,iter,ifs,0⟩] sc pos) 0 it acc env)):=by rfl
theorem start_set {elt target iter ifs rest scope pos it acc env}
  (h0:codeAny (model prog w) A (.compLoop (.SetComp elt (⟨target,iter,ifs,0⟩::rest) scope pos) 0 it acc env) R s)
  (h:wpAny (model prog w) A (pyIter it) (fun it' s'=>codeAny (model prog w) A (.compLoop (.SetComp elt (⟨target,iter,ifs,0⟩::rest) scope pos) 0 it' acc env) R s')
   (notedBy (model prog w) A env fun x s'=>R (.error x) s') s) :
  codeAny (model prog w) A (.compStart (.SetComp elt (⟨target,iter,ifs,0⟩::rest) scope pos) 0 it acc env) R s:=by
 refine codeAny_of_tree ?_
 show wpAny _ A ((compStart (.SetComp elt (⟨target,iter,ifs,0⟩::rest) scope pos) 0 it acc env).onRaise (fun x=>do noteFrame x env;standAt theWindowsPlace)) _ _ s
 refine wpAny_notedAt ?_
 unfold compStart
 show wpAny _ A (ask >>= _) _ _ s
 refine wpAny_bind (wpAny_askSetting (wpAny_ite ?_))
 split
 ·first
   | exact wpAny_bind (wpAny_pure (wpAny_pure (And.intro rfl h0)))
   | exact wpAny_pure (And.intro rfl h0)
 ·first
   | exact wpAny_bind (wpAny_rule (wpAny_bind (wpAny_standAt (wpAny_bind (wpAny_mono h (fun it' s' h'=>wpAny_pure (And.intro rfl h')) fun _ _ x=>x)))))
   | (refine wpAny_bind (wpAny_rule ?_);show wpAny _ _ (standAt iter.pos >>= _) _ _ s;exact wpAny_bind (wpAny_standAt (wpAny_bind (wpAny_mono h (fun it' s' h'=>wpAny_pure (And.intro rfl h')) fun _ _ x=>x))))
theorem loops_set {elt tg iter:Expr} {ifs:List Expr} {sc:Scope} {pos:Pos} {env:Env} {it:Value} {acc:Value} (G:Nat->Shared->Prop)
  (turn:∀ k t,G k t->Blk.Tame prog w A (pyNext it) (fun r t1=>match r with
   | none=>R (.ok .next) t1
   | some v=>Blk.Tame prog w A (letOwnedTupleGo tg it v) (fun _=>Blk.Tame prog w A (assign tg env v) fun _=>Blk.Tame prog w A (allTests env ifs) fun b t4=>match b with
     | false=>∃ j,j < k/\G j t4
     | true=>Blk.Tame prog w A (eval elt env) (fun y=>Blk.Tame prog w A (call (.builtin "set.add") [acc,y]) fun _ u=>∃ j,j < k/\G j u) t4) t1) t)
  {k:Nat} {t:Shared} (g:G k t):codeAny (model prog w) A (.compLoop (.SetComp elt [⟨tg,iter,ifs,0⟩] sc pos) 0 it acc env) R t:=by
 have one:∀ k t,G k t->Blk.Tame prog w A (compTurn (.SetComp elt [⟨tg,iter,ifs,0⟩] sc pos) 0 it acc env) (fun x t'=>match x with | .done r=>R (.ok r) t' | .again c=>c=.compLoop (.SetComp elt [⟨tg,iter,ifs,0⟩] sc pos) 0 it acc env/\∃ j,j < k/\G j t') t:=by
  intro k t g
  rw [turn_set]
  apply wpAny_bind;apply wpAny_standAt;apply wpAny_bind
  refine thn (turn k t g) fun x t1 h1=>?_
  match x,h1 with
  | none,h1=>exact wpAny_pure h1
  | some v,h1 =>
   apply wpAny_bind;refine thn h1 fun _ t2 h2=>?_
   apply wpAny_bind;refine thn h2 fun _ t3 h3=>?_
   apply wpAny_bind;refine thn h3 fun b t4 h4=>?_
   match b,h4 with
   | false,h4=>exact wpAny_pure ⟨rfl,h4⟩
   | true,h4 =>
    apply wpAny_bind;apply wpAny_bind
    refine thn h4 fun y t5 h5=>?_
    apply wpAny_bind;apply wpAny_standAt
    apply wpAny_bind
    refine thn h5 fun _ t6 h6=>?_
    exact wpAny_pure (wpAny_pure ⟨rfl,h6⟩)
 exact codeAny_loop rfl G (fun k t g=>wpAny_noted (wpAny_mono (one k t g) (fun _ _ q=>q) fun _ _ f=>f.elim)) k g
end
def TpO (P:Program) (w:World) (a:Addr) (ps:List (Addr × List Str)):HO:=.ext fun h=>∃ o es ep t,SetQ P w h a ps (!byTxt w) o es ep t
theorem tpO_ok {X:Cx} {H:Hp} {h:Heap} {a:Addr} {ps:List (Addr × List Str)} (x:∃ o es ep t,SetQ X.prog X.w h a ps (!byTxt X.w) o es ep t):ObjOk X.prog X.w H h a (TpO X.prog X.w a ps):=by
 refine ⟨x,?_,fun h1 h2 ⟨o,es,ep,t,q⟩ k=>⟨o,es,ep,t,q.keep fun o e=>k o e⟩⟩
 obtain ⟨o,es,ep,t,y⟩:=x
 exact ⟨o,y.ho⟩
def Hold (H:Hp) (ps:List (Addr × List Str)):Prop:=∀ p∈ps,H p.1=some (.tup (p.2.map V.str))
theorem kt_of {X:Cx} {pins:List (Addr × Obj)} {σ:L2.St} {H:Hp} {s:Shared} (I:Inv X pins σ H s) {c:Addr} {zs:List Str} (h:H c=some (.tup (zs.map V.str))):KT X.prog X.w s.heap zs c:=by
 obtain ⟨its,rv,⟨o,ho,hc,n,hd⟩,_⟩:=I.tuple (SqT.of (K:=X.K) h)
 exact ⟨o,its.toArray,n,ho,hc,hd,by simpa using items_of rv⟩
def scLoop (P : Program) (w : World) (own : List Str) (fr : List Nat) (g : TG) (tt : TT) (te : TE) (σ : L2.St) (Q : VK) (J : It) (H1 : Hp) : Prop :=
  ∃ W : Nat → Nat → List (Addr × List Str) → Hp → Prop, (∃ m, W 0 m [] H1) ∧ ∀ i m ps H2, W i m ps H2 → Hold H2 ps ∧
    ((J.stop i H2 ∧ ∀ D, H2 D = none → Q (.ref D) (upd H2 D (TpO P w D ps))) ∨
     (J.go i H2 ∧ ∀ x H3, J.yld i H2 x H3 → g x (cSt own fr σ) H3 fun σ4 H4 => tt σ4 H4 fun b H5 => if b = true then te σ4 H5 fun y H6 => ∃ c zs, y = .ref c ∧ zs ≠ [] ∧ H6 c = some (.tup (zs.map V.str)) ∧ Hold H6 ps ∧ ps.length + 1 ≤ 12 ∧ ∃ m', m' < m ∧ W (i + 1) m' (addP ps (c, zs)) H6 else ∃ m', m' < m ∧ W (i + 1) m' ps H5))
def tSC (P:Program) (w:World) (own:List Str) (fr:List Nat) (wi:TI) (g:TG) (tt:TT) (te:TE):TE:=fun σ H Q=>wi σ H (scLoop P w own fr g tt te σ Q)
section
variable {X:Cx} {own:List Str} {fr:List Nat} {sc:Scope} {tg iter elt:Expr} {ifs:List Expr} {pos:Pos} {wi:TI} {g:TG} {tt:TT} {te:TE}
theorem sc_core {pins:List (Addr × Obj)} {σ:L2.St} {H2:Hp} {s2:Shared} {Q:VK} {it:Addr} {fp:List Addr} {tn:Nat->Heap->Prop} {J:It} {RR:Value->Addr->Result->Shared->Prop} {E:Value->Shared->Prop} (hu:X.A.units+1 < cLine) (hc:X.calm=true) (S:CompSc X own fr sc) (gk:GK own.length g)
  (hg:∀ s H fp,PG (cxC X own fr sc s H fp) tg g) (ht:∀ s H fp,PIfs (cxC X own fr sc s H fp) ifs tt) (he:∀ s H fp,PE (cxC X own fr sc s H fp) elt te)
  (I2:Inv X pins σ H2 s2) (T:Turn X.prog X.w X.K tg J fp it tn) (st2:tn 0 s2.heap) (f2:∀ b∈fp,FpOk X pins H2 b) (L:scLoop X.prog X.w own fr g tt te σ Q J H2)
  (hRR:∀ D C s',(∃ m,s'.heap.Ns C m)->@LE.le Nat _ s2.heap.objs.size C->(∃ H',H' C=none/\Q (.ref D) H'/\∀ h' tk,Heap.SameBut C s'.heap h'->Inv X pins σ H' { s' with heap:=h',toks:=tk })->RR (.ref D) C (.ok .next) s') :
  wpAny (model X.prog X.w) X.A (newSet (.type "set")) (fun acc s₃=>wpAny (model X.prog X.w) X.A (newFunctionEnv sc X.env.globals (clOf X.env sc.names []) [] X.env.qual none .none (some X.env)) (fun cenv s₄ =>
   codeAny (model X.prog X.w) X.A (.compStart (.SetComp elt [⟨tg,iter,ifs,0⟩] sc pos) 0 (.ref it) acc { cenv with scope:=relabel sc X.env }) (RR acc cenv.locals) s₄) E s₃) E s2:=by
 obtain ⟨W,⟨m0,w0⟩,turn⟩:=L
 unfold newSet
 refine wpAny_bind (any_byText (wpAny_newObj_type (newEnv_comp ?_)))
 dsimp only
 generalize hh1:s2.heap.push { cls:=.type "set",dict:=none,data:=.set #[] 0 (.fresh 0 0 (!byTxt X.w)) }=h1
 have hz:h1.objs.size=s2.heap.objs.size+1:=by rw [<- hh1,Heap.size_push]
 have hk1:∀ b o,s2.heap.get? b=some o->h1.get? b=some o:=fun b o e=>by rw [<- hh1];exact Heap.get?_push_of_some _ e
 have hD1:h1.get? s2.heap.objs.size=some { cls:=.type "set",dict:=none,data:=.set #[] 0 (.fresh 0 0 (!byTxt X.w)) }:=by rw [<- hh1];exact Heap.get?_push_size _ rfl
 have hfl:∀ b∈fp,@LT.lt Nat _ b s2.heap.objs.size:=fun b hb=>by
  obtain ⟨o,e,_⟩:=T.obj _ _ st2 b hb
  exact Heap.lt_size e
 have I3:=inv_comp I2 S f2 hz hk1 hfl
 rw [hz]
 generalize hY:cxC X own fr sc s2 H2 fp=Y at I3
 have hD3:(hC s2 sc h1).get? s2.heap.objs.size=some { cls:=.type "set",dict:=none,data:=.set #[] 0 (.fresh 0 0 (!byTxt X.w)) }:=pushCells_keeps _ _ _ _ (Heap.get?_push_of_some _ hD1)
 have st3:tn 0 (hC s2 sc h1):=T.keep _ _ _ st2 fun b _ o e=>pushCells_keeps _ _ _ _ (Heap.get?_push_of_some _ (hk1 b o e))
 have eP:Y.prog=X.prog:=by rw [<- hY];rfl
 have eW:Y.w=X.w:=by rw [<- hY];rfl
 have eK:Y.K=X.K:=by rw [<- hY];rfl
 have eA:Y.A=X.A:=by rw [<- hY];rfl
 have eX:Y.xe=Nev:=by rw [<- hY];rfl
 have ecm:Y.calm=true:=by rw [<- hY];exact hc
 have eEnv:({ scope:=relabel sc X.env,locals:=s2.heap.objs.size+1,globals:=X.env.globals,cells:=cellsFrom (s2.heap.objs.size+1+1) sc.names (clOf X.env sc.names []),qual:=X.env.qual,func:=none,code:=X.env.code,frame:=X.env.frame,builtins:=X.env.builtins }:Env)=Y.env:=by rw [<- hY];rfl
 have eL:Y.env.locals=s2.heap.objs.size+1:=by rw [<- hY];rfl
 rw [eEnv]
 have hg':PG Y tg g:=hY ▸ hg s2 H2 fp
 have ht':PIfs Y ifs tt:=hY ▸ ht s2 H2 fp
 have he':PE Y elt te:=hY ▸ he s2 H2 fp
 have dfp:s2.heap.objs.size ∉ fp:=fun z=>Nat.lt_irrefl _ (hfl _ z)
 have dC:s2.heap.objs.size≠s2.heap.objs.size+1:=Nat.ne_of_lt (Nat.lt_succ_self _)
 have cellN:∀ x c,Y.env.cells.lookup x=some c->c≠s2.heap.objs.size:=fun x c e z=>by
  obtain ⟨v,o,q,d⟩:=I3.cell x c e
  rw [z] at q
  have q':=hD3.symm.trans q
  cases q'
  cases d
 have hDfs:s2.heap.objs.size ∉ Y.fs:=by
  rw [<- hY]
  intro z
  rcases List.mem_cons.mp (I2.stkSub _ z) with e | e
  ·exact Nat.lt_irrefl _ (by have:=I2.lt;rw [<- e] at this;exact this)
  ·exact I2.nofs (Nat.le_refl _) e
 have hD0:@LE.le Nat _ Y.s₀.heap.objs.size s2.heap.objs.size:=by rw [<- hY];exact Nat.le_refl _
 have fpY:∀ {H':Hp} {pp:List (Addr × Obj)},(∀ b∈fp,H' b=none)->(∀ p∈pp,p.1 ∉ fp)->∀ b∈fp,FpOk Y pp H' b:=fun {H' pp} hn hp b hb=>by
  refine ⟨hn b hb,?_,?_,?_,?_,fun p hq z=>?_⟩
  ·have:=hfl b hb;rw [eL];intro z;have z':@Eq Nat b (s2.heap.objs.size+1):=z;omega
  ·rw [<- hY]
   intro z
   rcases List.mem_cons.mp (I2.stkSub _ z) with e | e
   ·exact (f2 b hb).2.1 e
   ·exact (f2 b hb).2.2.1 e
  ·exact .inl (by rw [<- hY];exact hb)
  ·exact (I3.ok.exf b (by rw [<- hY];exact hb)).2
  ·rcases List.mem_append.mp hq with q | q
   ·have:p∈([]:List (Addr × Obj)):=by rw [<- hY] at q;exact q
    exact nomatch this
   ·exact hp p q (z ▸ hb)
 have pinD:∀ {H':Hp} {s':Shared} {σ':L2.St} {ob:Obj},Inv Y [] σ' H' s'->H' s2.heap.objs.size=none->s'.heap.get? s2.heap.objs.size=some ob->(∀ v,ob.data≠.cell v)->Inv Y [(s2.heap.objs.size,ob)] σ' H' s':=fun {H' s' σ' ob} J0 hn e d =>
  J0.pins_of fun p hp=>by
   have:p=(s2.heap.objs.size,ob):=by simpa using hp
   subst this
   exact ⟨e,hn,by rw [eL];exact dC,hDfs,d⟩
 have fpp:∀ {ob:Obj} (p:Addr × Obj),p∈[(s2.heap.objs.size,ob)]->p.1 ∉ fp:=fun {ob} p hp=>by
  have:p=(s2.heap.objs.size,ob):=by simpa using hp
  subst this;exact dfp
 have loop:codeAny (model X.prog X.w) X.A (.compLoop (.SetComp elt [⟨tg,iter,ifs,0⟩] sc pos) 0 (.ref it) (.ref s2.heap.objs.size) Y.env) (RR (.ref s2.heap.objs.size) (s2.heap.objs.size+1)) { s2 with heap:=hC s2 sc h1 }:=by
  have hD4:∃ o es ep t,SetQ X.prog X.w (hC s2 sc h1) s2.heap.objs.size [] (!byTxt X.w) o es ep t:=by
   refine ⟨_,_,_,_,hD3,⟨rfl,rfl,rfl⟩,rfl,⟨fun i j hi=>absurd hi (Nat.not_lt_zero _),rfl,rfl,.inl rfl,fun i j e=>?_,Nat.zero_le _,fun i j e e1=>?_⟩,.nil,fun _=>Nat.zero_le _,rfl,fun q=>absurd rfl q⟩
   ·have:(#[]:Array Nat)[i]?=some j:=e
    simp at this
   ·have:(#[]:Array Nat)[i]?=some j:=e1
    simp at this
  refine loops_set (fun n s'=>∃ i ps H',W i n ps H'/\Inv Y [] (cSt own fr σ) H' s'/\tn i s'.heap/\(∀ b∈fp,H' b=none)/\H' s2.heap.objs.size=none/\∃ o es ep t,SetQ X.prog X.w s'.heap s2.heap.objs.size ps (!byTxt X.w) o es ep t) ?_ (k:=m0)
   ⟨0,[],H2,w0,I3,st3,fun b hb=>(f2 b hb).1,I2.hok.fresh (Nat.le_refl _),hD4⟩
  rintro n s' ⟨i,ps,H',w',J0,st',fr',hDn,ob,es,ep,tb,hDo⟩
  obtain ⟨hold,cases'⟩:=turn i n ps H' w'
  have hnc:∀ v,ob.data≠.cell v:=fun v z=>by rw [hDo.hd] at z;cases z
  have J1:=pinD J0 hDn hDo.ho hnc
  rcases cases' with ⟨stop,fin⟩ | ⟨go,step⟩
  ·have d0:=T.done Y eP eW eK ecm i _ s' _ H' Nev J1 (fpY fr' fpp) st' stop
   rw [eA] at d0
   refine wpAny_mono d0 (fun r s4 ⟨hr,J4⟩=>?_) fun _ _ z=>z
   subst hr
   have pD:=(J4.pin (s2.heap.objs.size,_) (List.mem_append_right _ List.mem_cons_self)).1
   refine hRR _ _ s4 ?_ (Nat.le_succ _) ⟨upd H' s2.heap.objs.size (TpO X.prog X.w s2.heap.objs.size ps),?_,fin _ hDn,fun h' tk hs=>?_⟩
   ·obtain ⟨m,hn,_⟩:=J4.loc
    rw [eL] at hn
    exact ⟨m,hn⟩
   ·rw [L2.upd_ne (Ne.symm dC),<- eL];exact J4.free
   ·subst hY
    have hO:ObjOk X.prog X.w (upd H' s2.heap.objs.size (TpO X.prog X.w s2.heap.objs.size ps)) h' s2.heap.objs.size (TpO X.prog X.w s2.heap.objs.size ps):=tpO_ok ⟨ob,es,ep,tb,{ hDo with ho:=(hs.2 _ dC).trans pD }⟩
    exact inv_back I2 f2 J4 (Nat.le_refl _) hDn dC hs hO tk
  ·have d0:=T.item Y eP eW eK ecm i _ s' _ H' Nev J1 (fpY fr' fpp) st' go
   rw [eA] at d0
   refine wpAny_mono d0 (fun r s4 ⟨u,hr,h4⟩=>?_) fun _ _ z=>z
   subst hr
   refine wpAny_mono h4 (fun _ s5 ⟨x,H5,J5,r5,y5,st5,fr5⟩=>?_) fun _ _ z=>z
   have J5':=J5.pinned (fpY fr5 fpp) (T.obj _ _ st5)
   have s1:=hg' _ s5 _ H5 x u _ J5' r5 (gk _ _ _ _ (step x H5 y5))
   rw [eP,eW,eA,eX] at s1
   refine wpAny_mono s1 (fun _ s6 ⟨σ6,H6,J6,q6,kp6⟩=>?_) fun _ _ z=>z
   have s2':=ht' _ s6 σ6 H6 _ J6 q6
   rw [eP,eW,eA,eX] at s2'
   refine wpAny_mono s2' (fun ok s7 ⟨H7,J7,q7⟩=>?_) fun _ _ z=>z
   have low:∀ {H8:Hp} {s8:Shared},Inv Y ([(s2.heap.objs.size,ob)]++pinsAt fp s5.heap) σ6 H8 s8 ->
     Inv Y (pinsAt fp s5.heap) σ6 H8 s8/\H8 s2.heap.objs.size=none/\s8.heap.get? s2.heap.objs.size=some ob/\(∀ b∈fp,H8 b=none)/\tn (i+1) s8.heap:=fun {H8 s8} J8=>by
    have p8:=J8.pin (s2.heap.objs.size,_) (List.mem_append_right _ (List.mem_append_left _ List.mem_cons_self))
    refine ⟨J8.pins_of fun p hp=>J8.pin p (List.mem_append_right _ (List.mem_append_right _ hp)),p8.2.1,p8.1,fun b hb=>?_,T.keep _ _ _ st5 fun b hb o e=>(J8.pin (b,o) (List.mem_append_right _ (List.mem_append_right _ (mem_pinsAt hb e)))).1⟩
    obtain ⟨o,e,d⟩:=T.obj _ _ st5 b hb
    exact (J8.pin (b,o) (List.mem_append_right _ (List.mem_append_right _ (mem_pinsAt hb e)))).2.1
   have weak:∀ {H8:Hp} {s8:Shared} {pp:List (Addr × Obj)},Inv Y pp σ6 H8 s8->Inv Y [] (cSt own fr σ) H8 s8:=fun {H8 s8 pp} J8=>(J8.weak kp6.1.symm (fun j v e=>by
    by_cases hj:j < own.length
    ·exfalso
     unfold cSt at e
     rw [List.getElem?_append_left (by simpa using hj),List.getElem?_replicate] at e
     split at e<;>cases e
    ·rw [kp6.2 j (Nat.not_lt.mp hj)];exact e)).pins_of fun p hp=>nomatch hp
   cases ok with
   | false =>
    obtain ⟨m',hm,w7⟩:=(show ∃ m',m' < n/\W (i+1) m' ps H7 by simpa using q7)
    obtain ⟨_,l1,l2,l3,l4⟩:=low J7
    exact ⟨m',hm,i+1,ps,H7,w7,weak J7,l4,l3,l1,ob,es,ep,tb,{ hDo with ho:=l2 }⟩
   | true =>
    have q7':te σ6 H7 fun y H6=>∃ c zs,y=.ref c/\zs≠[]/\H6 c=some (.tup (zs.map V.str))/\Hold H6 ps/\ps.length+1<=12/\∃ m',m' < n/\W (i+1) m' (addP ps (c,zs)) H6:=by simpa using q7
    have s3:=he' _ s7 σ6 H7 _ J7 q7'
    rw [eP,eW,eA,eX] at s3
    show wpAny _ _ _ _ _ _
    refine wpAny_mono s3 (fun yv s8 ⟨y,H8,J8,r8,c,zs,ey,ne,hc8,hold8,room,m',hm,w8⟩=>?_) fun _ _ z=>z
    subst ey
    cases r8
    have hkc:=kt_of J8 hc8
    have hks:∀ p∈ps,KT X.prog X.w s8.heap p.2 p.1:=fun p hp=>by have:=kt_of J8 (hold8 p hp);rw [eP,eW] at this;exact this
    rw [eP,eW] at hkc
    obtain ⟨J8a,l1,l2,l3,l4⟩:=low J8
    refine set_add hu ({ hDo with ho:=l2 }:SetQ X.prog X.w s8.heap s2.heap.objs.size ps (!byTxt X.w) ob es ep tb) hks hkc ne room fun h' o' es' ep' t' hs' x'=>?_
    have J9:Inv Y [] (cSt own fr σ) H8 { s8 with heap:=h',toks:=s8.toks+(zs.length+1) }:=by
     refine (weak J8a).turned (t':=s8.toks+(zs.length+1)) (it:=s2.heap.objs.size) (fun b o hb e=>(hs'.2 b hb).trans e) l1 (by rw [eL];exact dC) (.inr hD0) cellN fun p hp=>?_
     have:p∈([]:List (Addr × Obj)):=by rw [<- hY] at hp;exact hp
     exact nomatch this
    refine ⟨m',hm,i+1,addP ps (c,zs),H8,w8,J9,?_,l3,l1,o',es',ep',t',x'⟩
    exact T.keep _ _ _ l4 fun b hb o e=>(hs'.2 b (fun z=>dfp (z ▸ hb))).trans e
 exact start_set loop (T.self X.A 0 _ _ _ st3 loop)
theorem pe_sc {P:Program} {w:World} (own:List Str) (fr:List Nat) (hu:X.A.units+1 < cLine) (hc:X.calm=true) (S:CompSc X own fr sc) (gk:GK own.length g) (hi:PI X tg iter wi)
  (hg:∀ s H fp,PG (cxC X own fr sc s H fp) tg g) (ht:∀ s H fp,PIfs (cxC X own fr sc s H fp) ifs tt) (he:∀ s H fp,PE (cxC X own fr sc s H fp) elt te) (hP:X.prog=P:=by rfl) (hw:X.w=w:=by rfl)
  (hs:∀ x,foldedSetIterable iter X.env x=pure x:=by intro _;rfl):PE X (.SetComp elt [⟨tg,iter,ifs,0⟩] sc pos) (tSC P w own fr wi g tt te):=by
 subst hP hw
 intro pins s σ H Q I h
 show wpAny _ _ (comprehension (.SetComp elt [⟨tg,iter,ifs,0⟩] sc pos) sc X.env (firstIterPos [⟨tg,iter,ifs,0⟩] pos) (newSet (.type "set")) (firstAsync [⟨tg,iter,ifs,0⟩]) (firstIter [⟨tg,iter,ifs,0⟩] X.env)) _ _ _
 have hclos:closureFor sc X.env=pure (clOf X.env sc.names []):=closureFor_of fun y hy hf=>I.ok.has y.1 (by
  rcases S.fre y hy hf with q | q
  ·exact .inl q
  ·exact .inr q)
 refine wpAny_comprehension_free (use:=none) rfl hs hclos S.kind (fun y hy hl=>lookup_of_mem_nd S.nd (by rw [<- hl];exact hy)) ?_
 refine thn (hi pins s σ H _ I h) fun v s1 h1=>thn h1 fun itv s2 h2=>?_
 obtain ⟨it,fp,tn,J,H2,e,I2,T,st2,f2,L⟩:=h2
 subst e
 exact sc_core hu hc S gk hg ht he I2 T st2 f2 L fun D C s' ⟨m,hn⟩ _ ⟨H',_,q,hi⟩=>⟨m,hn,fun h' hs'=>⟨.ref D,H',hi h' s'.toks hs',rfl,q⟩⟩
end
def keyAt (ps:List (Addr × List Str)) (a:Addr):List Str:=((ps.find? fun p=>decide (p.1=a)).map (·.2)).getD []
theorem str_inj:∀ {xs ys:List Str},xs.map V.str=ys.map V.str->xs=ys
 | [],[],_=>rfl
 | [],_::_,h=>by simp at h
 | _::_,[],h=>by simp at h
 | x::xs,y::ys,h=>by
  simp only [List.map_cons,List.cons.injEq,V.str.injEq] at h
  rw [h.1,str_inj h.2]
theorem keyAt_of {H:Hp} {ps:List (Addr × List Str)} (h:Hold H ps) {p:Addr × List Str} (hp:p∈ps):keyAt ps p.1=p.2:=by
 unfold keyAt
 cases e:ps.find? fun q=>decide (q.1=p.1) with
 | none =>
  have:=List.find?_eq_none.mp e p hp
  simp at this
 | some q =>
  have h1:=List.find?_some e
  have h2:=List.mem_of_find?_eq_some e
  have e1:q.1=p.1:=by simpa using h1
  have a:=h q h2
  rw [e1,h p hp] at a
  have a':p.2.map V.str=q.2.map V.str:=by injection a with a;injection a
  exact (str_inj a').symm
section
variable {prog:Program} {w:World} {A:Around} {E:Value->Shared->Prop} {s:Shared}
def TupF (h:Heap) (f:Addr->List Str) (v:Value):Prop:=∃ a its,v=.ref a/\IsTup h a its.toArray/\StrsAre its (f a)/\f a≠[]
theorem TupF.keep {h h':Heap} {f:Addr->List Str} {v:Value} (x:TupF h f v) (k:∀ b o,h.get? b=some o->h'.get? b=some o):TupF h' f v:=let ⟨a,its,e,⟨o,ho,r⟩,q⟩:=x;⟨a,its,e,⟨o,k _ _ ho,r⟩,q⟩
theorem tupsV_of {h:Heap} {f:Addr->List Str}:∀ {us:List Value},(∀ v∈us,TupF h f v)->∃ zss,TupsV h us zss/\∀ zs∈zss,zs≠[]
 | [],_=>⟨[],.nil,fun _ z=>nomatch z⟩
 | u::us,k=>by
  obtain ⟨zss,t,n⟩:=tupsV_of fun v hv=>k v (List.mem_cons_of_mem _ hv)
  obtain ⟨a,its,e,hi,hs,ne⟩:=k u List.mem_cons_self
  exact ⟨f a::zss,.cons ⟨a,its,e,hi,hs⟩ t,fun z hz=>(List.mem_cons.mp hz).elim (fun e=>e ▸ ne) (n z)⟩
theorem cmp_tups {us:List Value} {f:Addr->List Str} (k:∀ v∈us,TupF s.heap f v):Cmp prog w A E s (pairsOf us) (tuples' true) (tupOrd f):=by
 intro st i j R q hi hj hR
 have at_:∀ {i:Nat},i < (pairsOf us).size->∃ a its p,(arrOf st)[i]?=some (.ref a,p)/\IsTup s.heap a its.toArray/\StrsAre its (f a):=fun {i} hi=>by
  have hi':i < (arrOf st).size:=by rw [q.len];exact hi
  have m:(arrOf st)[i]∈(pairsOf us).toList:=by
   have:(arrOf st)[i]∈pairsOf us:=q.pm.mem_iff.mp (Array.getElem_mem hi')
   simpa using this
  have m2:((arrOf st)[i]).1∈us:=by
   have:(arrOf st)[i]∈us.zip us:=by simpa [pairsOf] using m
   exact (List.of_mem_zip this).1
  obtain ⟨a,its,e,h1,h2,_⟩:=k _ m2
  exact ⟨a,its,((arrOf st)[i]).2,by rw [Array.getElem?_eq_getElem hi',<- e],h1,h2⟩
 obtain ⟨a,ia,pa,ea,ta,sa⟩:=at_ hi
 obtain ⟨b,ib,pb,eb,tb,sb⟩:=at_ hj
 have ka:ky (tupOrd f) st i=f a:=by show KK _ _ _=_;unfold KK;rw [ea];rfl
 have kb:ky (tupOrd f) st j=f b:=by show KK _ _ _=_;unfold KK;rw [eb];rfl
 rw [ka,kb] at hR
 rw [ltAt'_eq]
 refine wpS_bind (wpS_get ?_)
 show wpS _ _ _ _ (do let x <- elem' (arrOf st) i;let y <- elem' (arrOf st) j;lt' x y) R st
 rw [elem'_eq,elem'_eq,ea,eb]
 refine wpS_bind (wpS_pure (wpS_bind (wpS_pure ?_)))
 rw [lt'_eq]
 refine wpS_bind (wpS_get ?_)
 rw [q.kn]
 refine wpS_bind (wpS_lift (wpAny_attempt (lt_tups ta tb sa sb ⟨rfl,?_⟩)))
 exact wpS_pure hR
theorem sorts_tups {h:Heap} {tk:Nat} {us:List Value} {f:Addr->List Str} {Q:Value->Shared->Prop} (hk:∀ v∈us,TupF h f v) (few:us.length < 64)
  (q:∀ (out:List Addr) (n:Nat) (h2:Heap),(out.map Value.ref).Perm us->out.Pairwise (fun a b=>ltT (f b) (f a)=false)->(∀ b o,h.get? b=some o->h2.get? b=some o)->h2.get? h.objs.size=some { cls:=.type "list",data:=.seq (out.map Value.ref).toArray n }->Q (.ref h.objs.size) { s with heap:=h2,toks:=tk }) :
  wpAny (model prog w) A (call (.builtin "list.sort") [.ref h.objs.size]) (fun _ s'=>Q (.ref h.objs.size) s') E { s with heap:=h.push { cls:=.type "list",data:=.seq us.toArray },toks:=tk }:=by
 have at0:(h.push { cls:=.type "list",data:=.seq us.toArray }).get? h.objs.size=some (seqObj "list" us.toArray 0):=Heap.get?_push_size _ rfl
 refine wpAny_call_entry PySem.F.slot_list_sort ⟨_,at0,rfl⟩ PySem.F.entry_list_sort ?_ (args_list_sort _)
 refine sort_any (h:=h) (us:=us) rfl few (tuples' true) (tupOrd f) (fun t kp two R r=>?_) (fun t kp=>cmp_tups fun v hv=>(hk v hv).keep kp) fun out n h2 pm srt kp g=>⟨_,rfl,?_⟩
 ·obtain ⟨zss,T,ne⟩:=tupsV_of fun v hv=>(hk v hv).keep kp
  exact kind_tups T ne two r
 ·have ln:out.size=us.length:=by rw [pm.size_eq,pairsOf_size]
  have pr:∀ x∈out.toList,x.1=x.2/\x.2∈us:=fun x hx=>by
   have m:x∈(pairsOf us).toList:=by
    have:x∈pairsOf us:=pm.mem_iff.mp (by simpa using hx)
    simpa using this
   have m':x∈us.zip us:=by simpa [pairsOf] using m
   obtain ⟨a,b⟩:=x
   refine ⟨?_,(List.of_mem_zip m').2⟩
   obtain ⟨i,hi,e⟩:=List.getElem_of_mem m'
   rw [List.getElem_zip] at e
   cases e
   rfl
  have ad:∃ outs:List Addr,out.toList.map (·.2)=outs.map Value.ref:=by
   have:∀ l:List Keyed,(∀ x∈l,x.2∈us)->∃ outs:List Addr,l.map (·.2)=outs.map Value.ref:=by
    intro l
    induction l with
    | nil=>intro _;exact ⟨[],rfl⟩
    | cons x l ih =>
     intro hx
     obtain ⟨outs,e⟩:=ih fun y hy=>hx y (List.mem_cons_of_mem _ hy)
     obtain ⟨a,its,ea,_⟩:=hk _ (hx x List.mem_cons_self)
     exact ⟨a::outs,by rw [List.map_cons,List.map_cons,e,ea]⟩
   exact this _ fun x hx=>(pr x hx).2
  obtain ⟨outs,eo⟩:=ad
  have lo:outs.length=us.length:=by
   have:=congrArg List.length eo
   simp at this
   omega
  have zu:(us.zip us).map (·.2)=us:=by
   have:∀ l:List Value,(l.zip l).map (·.2)=l:=fun l=>by induction l with | nil=>rfl | cons x l ih=>simp [ih]
   exact this us
  refine q outs n h2 ?_ ?_ kp ?_
  ·rw [<- eo]
   have p1:out.toList.Perm (pairsOf us).toList:=Array.perm_iff_toList_perm.mp pm
   have p2:=p1.map (·.2)
   have e2:(pairsOf us).toList.map (·.2)=us:=by
    have:(pairsOf us).toList=us.zip us:=by simp [pairsOf]
    rw [this,zu]
   rw [e2] at p2
   exact p2
  ·refine List.pairwise_iff_getElem.mpr fun i j hi hj ij=>?_
   have s0:=srt i j (by omega) (by omega)
   have kk:∀ {i:Nat} (hi:i < outs.length),KK (tupOrd f) out i=f outs[i]:=fun {i} hi=>by
    have hi':i < out.size:=by omega
    have e1:out[i]?=some out[i]:=Array.getElem?_eq_getElem hi'
    have m:=pr out[i] (by simp)
    have e2:out[i].2=Value.ref outs[i]:=by
     have:=congrArg (fun l=>l[i]?) eo
     simp [hi',hi] at this
     exact this
    unfold KK
    rw [e1]
    show ((tupOrd f).keyOf out[i].1).getD _=_
    rw [m.1,e2]
    rfl
   rw [kk hi,kk hj] at s0
   exact s0
  ·rw [g]
   have:(out.map (·.2))=(outs.map Value.ref).toArray:=by
    apply Array.toList_inj.mp
    simp [eo]
   rw [this]
end
section
variable {X:Cx}
theorem call_sorted_tps {P:Program} {w:World} (hc:X.calm=true) (hP:X.prog=P:=by rfl) (hw:X.w=w:=by rfl):CallR X (.builtin "sorted") (fun xs H Q=>∃ (p:Addr) (ps:List (Addr × List Str)),xs=[.ref p]/\H p=some (TpO P w p ps)/\Hold H ps/\(∀ x∈ps,x.2≠[])/\ps.length < 64 /\
  ∀ l (qs:List (Addr × List Str)),H l=none->qs.Perm ps->qs.Pairwise (fun a b=>ltT b.2 a.2=false)->Q (.ref l) (upd H l (.lst (qs.map fun q=>V.ref q.1)))):=by
 subst hP hw
 intro pins s σ H xs us Q I r h
 obtain ⟨p,ps,rfl,hp,hold,ne,few,q⟩:=h
 obtain ⟨u,rfl,rx⟩:=vals1 r
 cases rx
 obtain ⟨⟨o,es,ep,t,x⟩,_⟩:=I.hok _ _ hp
 have sz:=x.size
 refine Calls.call_function_entry kind_sorted plain_sorted entry_sorted (args_sorted1 _) ?_
 unfold Builtin.«sorted»
 apply wpAny_bind (m:=checkCount "sorted" 1 1 _)
 apply wpAny_pure
 apply wpAny_bind
 refine collect_set (A:=X.A.in1) ⟨⟨o,x.ho,x.ex,x.hd⟩,x.tab.fits,x.led,fun q=>.inl (x.pl (by omega))⟩ (by rw [sz];exact Nat.le_trans (Nat.le_of_lt few) (by decide)) (by exact I.ok.hd hc) fun h1 tk dr acc keep pm=>?_
 have pm':acc.Perm (ps.map fun p=>Value.ref p.1):=pm.trans (by
  have:=x.pm.map (·.2)
  rw [List.map_map] at this
  exact this)
 have la:acc.length=ps.length:=by rw [pm'.length_eq,List.length_map]
 have tf:∀ v∈acc,TupF h1 (keyAt ps) v:=fun v hv=>by
  obtain ⟨pp,hpp,rfl⟩:=List.mem_map.mp (pm'.mem_iff.mp hv)
  obtain ⟨its,rv,⟨ot,ho,r1⟩,_⟩:=I.tuple (SqT.of (K:=X.K) (hold pp hpp))
  have e:=keyAt_of hold hpp
  exact ⟨pp.1,its,rfl,⟨ot,keep _ _ ho,r1⟩,by rw [e];exact strs_of rv,by rw [e];exact ne pp hpp⟩
 apply wpAny_bind
 refine wpAny_newList ?_ (by rw [la];exact Nat.le_trans (Nat.le_of_lt few) (by decide))
 apply wpAny_bind
 apply wpAny_holding
 refine wpAny_mono (sorts_tups (prog:=X.prog) (w:=X.w) (s:={ s with drawn:=dr }) (h:=h1) (tk:=tk) (Q:=EP X pins σ Q) tf (by rw [la];exact few) fun out n h2 o1 o2 o3 o4=>?_) (fun _ _ z=>wpAny_pure ⟨_,rfl,z⟩) fun _ _ z=>z
 have no:s.heap.get? h1.objs.size=none:=by
  cases e:s.heap.get? h1.objs.size with
  | none=>rfl
  | some o=>exact absurd (Heap.lt_size (keep _ _ e)) (Nat.lt_irrefl _)
 have noH:H h1.objs.size=none:=by
  cases e:H h1.objs.size with
  | none=>rfl
  | some o =>
   obtain ⟨u,eu⟩:=(I.hok _ _ e).there
   rw [no] at eu;cases eu
 have pa:out.Perm (ps.map (·.1)):=by
  have:=(o1.trans pm').map fun v=>match v with | Value.ref a=>a | _=>0
  rw [List.map_map,List.map_map] at this
  have e1:(out.map ((fun v=>match v with | Value.ref a=>a | _=>0) ∘ Value.ref))=out:=by
   rw [show ((fun v=>match v with | Value.ref a=>a | _=>(0:Addr)) ∘ Value.ref)=id from rfl];simp
  rw [e1] at this
  exact this
 have qp:(out.map fun a=>(a,keyAt ps a)).Perm ps:=by
  have:=pa.map fun a=>(a,keyAt ps a)
  rw [List.map_map] at this
  have e:ps.map ((fun a=>(a,keyAt ps a)) ∘ (·.1))=ps:=by
   have:∀ l:List (Addr × List Str),(∀ x∈l,x∈ps)->l.map ((fun a=>(a,keyAt ps a)) ∘ (·.1))=l:=by
    intro l
    induction l with
    | nil=>intro _;rfl
    | cons y l ih =>
     intro hy
     rw [List.map_cons,ih fun z hz=>hy z (List.mem_cons_of_mem _ hz)]
     show (y.1,keyAt ps y.1)::l=y::l
     rw [keyAt_of hold (hy y List.mem_cons_self)]
   exact this ps fun _ h=>h
  rw [e] at this
  exact this
 have qw:(out.map fun a=>(a,keyAt ps a)).Pairwise (fun a b=>ltT b.2 a.2=false):=List.pairwise_map.mpr o2
 have em:(out.map fun a=>(a,keyAt ps a)).map (fun q=>V.ref q.1)=out.map V.ref:=by rw [List.map_map];rfl
 have fin:=q h1.objs.size _ noH qp qw
 rw [em] at fin
 refine ⟨.ref h1.objs.size,_,(I.drawn (dr:=dr)).laidN (t':=tk) (o:=.lst (out.map V.ref)) (fun b o e=>o3 _ _ (keep _ _ e)) no noH ?_,rfl,fin⟩
 refine ⟨by rw [List.length_map];have:=qp.length_eq;rw [List.length_map] at this;rw [this];exact Nat.le_trans (Nat.le_of_lt few) (by decide),out.map Value.ref,n,?_,o4⟩
 have:∀ l:List Addr,Vals (l.map V.ref) (l.map Value.ref):=fun l=>by
  induction l with
  | nil=>exact .nil
  | cons x l ih=>exact .cons rfl ih
 exact this out
end
theorem Hold.same {H H':Hp} {ps:List (Addr × List Str)} (h:Hold H ps) (s:Same H H'):Hold H' ps:=fun p hp=>s _ _ (h p hp)
theorem sc_list {P:Program} {w:World} {K:PySem.W.Frag} {a:Addr} {xs:List V} {own:List Str} {fr:List Nat} {g:TG} {tt:TT} {te:TE} {σ:L2.St} {Q:VK} {H:Hp} (Pv:Nat->List (Addr × List Str)->Hp->Prop) (h0:Pv 0 [] H)
  (hh:∀ i ps H,i<=xs.length->Pv i ps H->Hold H ps) (hl:∀ i ps H,i<=xs.length->Pv i ps H->SqL K H a xs)
  (hs:∀ i x ps H (R:List (Addr × List Str)->Hp->Prop),xs[i]?=some x->Pv i ps H->(∀ ps' H',Pv (i+1) ps' H'->R ps' H')->g x (cSt own fr σ) H fun σ4 H4=>tt σ4 H4 fun b H5=>if b=true then te σ4 H5 fun y H6=>∃ c zs,y=.ref c/\zs≠[]/\H6 c=some (.tup (zs.map V.str))/\Hold H6 ps/\ps.length+1<=12/\R (addP ps (c,zs)) H6 else R ps H5)
  (hd:∀ ps H,Pv xs.length ps H->∀ D,H D=none->Q (.ref D) (upd H D (TpO P w D ps))):scLoop P w own fr g tt te σ Q (Itl K a) H:=by
 refine ⟨fun i m ps H=>m=xs.length - i/\i<=xs.length/\Pv i ps H,⟨xs.length,rfl,Nat.zero_le _,h0⟩,?_⟩
 rintro i m ps H2 ⟨rfl,hi,p⟩
 refine ⟨hh i ps H2 hi p,?_⟩
 have q:=hl i ps H2 hi p
 by_cases h:i < xs.length
 ·refine .inr ⟨⟨xs,xs[i],q,by simp [h]⟩,fun x H3 hy=>?_⟩
  obtain ⟨rfl,hy⟩:=hy
  have z:=hs i x ps _ (fun ps' H'=>∃ m',m' < xs.length - i/\(m'=xs.length - (i+1)/\i+1<=xs.length/\Pv (i+1) ps' H')) (hy xs q) p fun ps' H' q=>⟨xs.length - (i+1),by omega,rfl,h,q⟩
  exact z
 ·have e:i=xs.length:=by omega
  subst e
  exact .inl ⟨⟨xs,q,Nat.le_refl _⟩,hd ps H2 p⟩
theorem addP_keys (ps:List (Addr × List Str)) (p:Addr × List Str) (zs:List Str):zs∈(addP ps p).map (·.2) ↔ zs∈ps.map (·.2)\/zs=p.2:=by
 unfold addP
 split
 ·rename_i h
  exact ⟨.inl,fun q=>q.elim id fun e=>e ▸ h⟩
 ·rw [List.map_append,List.mem_append]
  simp
theorem addP_nd {ps:List (Addr × List Str)} {p:Addr × List Str} (h:(ps.map (·.2)).Nodup):((addP ps p).map (·.2)).Nodup:=by
 unfold addP
 split
 ·exact h
 ·rename_i n
  rw [List.map_append]
  refine List.nodup_append.mpr ⟨h,by simp,fun x hx y hy e=>?_⟩
  have:y=p.2:=by simpa using hy
  subst this
  exact n (e ▸ hx)
theorem addP_hold {H:Hp} {ps:List (Addr × List Str)} {p:Addr × List Str} (h:Hold H ps) (hp:H p.1=some (.tup (p.2.map V.str))):Hold H (addP ps p):=by
 unfold addP
 split
 ·exact h
 ·intro q hq
  rcases List.mem_append.mp hq with q1 | q1
  ·exact h q q1
  ·rw [List.mem_singleton.mp q1];exact hp
theorem addP_ne {ps:List (Addr × List Str)} {p:Addr × List Str} (h:∀ x∈ps,x.2≠[]) (hp:p.2≠[]):∀ x∈addP ps p,x.2≠[]:=by
 unfold addP
 split
 ·exact h
 ·intro q hq
  rcases List.mem_append.mp hq with q1 | q1
  ·exact h q q1
  ·rw [List.mem_singleton.mp q1];exact hp
theorem addP_len (ps:List (Addr × List Str)) (p:Addr × List Str):(addP ps p).length<=ps.length+1:=by
 unfold addP
 split
 ·omega
 ·simp
end L3
namespace K41
open PySem PySem.Spec PyProof.Rows L2 L3
abbrev sPA:Stmt:=top 23 -- pieces_among
abbrev sPieces:Stmt:=top 24 -- pieces
abbrev sHangs:Stmt:=top 25 -- hangs
abbrev sChkH:Stmt:=top 27 -- check_hangs
abbrev rTupOf (K:PySem.W.Frag):List V->Hp->VK->Prop:=fun xs H Q=>∃ p ys,xs=[V.ref p]/\((SqL K H p ys/\∀ l,H l=none->Q (V.ref l) (upd H l (.tup ys)))\/(SqT K H p ys/\Q (V.ref p) H))
def within (ns:List Str) (ps:List (Str × Str)):List (Str × Str):=ps.filter fun p=>decide (p.1∈ns) && decide (p.2∈ns)
def both2 (es:List (Str × Str)):List (Str × Str):=es++turn es
noncomputable def comp (ns:List Str) (ps:List (Str × Str)) (z:Str):List Str:=rch ns (both2 (within ns ps)) z
theorem within_in (ns:List Str) (ps:List (Str × Str)):InP ns (within ns ps):=fun p hp=>by
 have:=(List.mem_filter.mp hp).2
 simpa using this
theorem both_in {ns:List Str} {es:List (Str × Str)} (h:InP ns es):InP ns (both2 es):=fun p hp=>(List.mem_append.mp hp).elim (h p) (turn_in h p)
theorem comp_self {ns:List Str} {ps:List (Str × Str)} {z:Str} (h:z∈ns):z∈comp ns ps z:=rch_mem.mpr ⟨h,Rch.here _⟩
structure Pcs (ns:List Str) (ps:List (Str × Str)) (qs:List (Addr × List Str)):Prop where
 mem:∀ zs,zs∈qs.map (·.2) ↔ ∃ z∈ns,zs=comp ns ps z
 nd:(qs.map (·.2)).Nodup
 up:qs.Pairwise (fun a b=>ltT b.2 a.2=false)
theorem paired_append {α β:Type} {F:α->β->Prop}:∀ {a c:List α} {b d:List β},Paired F a b->Paired F c d->Paired F (a++c) (b++d)
 | _,_,_,_,.nil,q=>q
 | _,_,_,_,.cons r t,q=>.cons r (paired_append t q)
section
variable {P:Program} {w:World} {K:PySem.W.Frag} {mg:Str->Option Value} {base:Heap}
variable {C fP fS fL fSp fTu fPA fPi fHa:Addr} {fdP fdS fdL fdSp fdTu fdPA fdPi fdHa:FuncData}
def spPA (C:Addr):Sp:=fun vs H Q _=>∃ (x a:Addr) (ms ns:List Str) (ps:List (Str × Str)),vs=[.ref x,.ref a]/\WebObj C H x ms ps/\ps.length<=30/\H a=some (.lst (ns.map V.str))/\ns.Nodup/\ns.length<=12 /\
 ∀ l qs H',H l=none->H' l=some (.lst (qs.map fun q=>V.ref q.1))->Hold H' qs->Pcs ns ps qs->Same H H'->Q (.ref l) H'
abbrev nPA:List Str:=["web","among","inner","steps"]
theorem scPA:FnScope nPA ["web","among"] (defScope sPA):=⟨rfl,rfl,rfl,by decide +kernel,rfl,by decide +kernel,by decide +kernel⟩
theorem ok_pa {f:Addr} {fd:FuncData} (F:Fun K "pieces_among" "pieces_among" sPA f fd) (M:Mt K mg C fP fS fdP fdS) (DL:Df K mg "leads" sLeads ["places","ties"] fL fdL) (DS:Df K mg "spread" sSpread ["steps","start"] fSp fdSp) (DT:Df K mg "turned_pairs" sTurned ["ties"] fTu fdTu) (T:Glb mg):FnOk P w K mg base CX0 2 f fd ["web","among"] (spPA C):=by
 have GTi:FnOk P w K mg base CX0 1 fS fdS ["self"] (spTs C):=ok_ties M.sF M.wc T
 have GL:FnOk P w K mg base CX0 1 fL fdL ["places","ties"] spLeads:=ok_leads DL.fn T
 have GS:FnOk P w K mg base CX0 1 fSp fdSp ["steps","start"] spSpread:=ok_spread DS.fn T
 have GT:FnOk P w K mg base CX0 1 fTu fdTu ["ties"] spTurned:=ok_turned DT.fn T
 refine F.ok scPA (fun vs H Q E h=>?_) (fun cdv A outer s H vs Q E hr h=>?_)
 ·obtain ⟨x,a,ms,ns,ps,rfl,_⟩:=h
  rfl
 ·obtain ⟨x,a,ms,ns,ps,rfl,hW,lp,ha,nn,few,k⟩:=h
  have hu:=hu_of hr
  refine ⟨_,pss_cons (ps_setL (i:=2) ["a","b"] [1] scPA.nd rfl rfl rfl (compSc (osc:=(defScope sPA).names) (N:=nPA) rfl rfl (by decide +kernel)) (gk_two (K:=K) (k:=2) (by decide) (by decide)) (pi_list (pe_meth0 (pv 0) M.wc.cl M.sM GTi hr M.sB .nil pass0))
    (fun _ _ _=>pg_tup rfl (pgs_cons (pg_name (i:=0) (show (["a","b","among"]:List Str).Nodup by decide +kernel) rfl (Or.inl rfl)) (pgs_cons (pg_name (i:=1) (show (["a","b","among"]:List Str).Nodup by decide +kernel) rfl (Or.inl rfl)) pgs_nil)))
    (fun _ _ _=>pifs_one (PW.pt (pw_and (pt_cmpR (r:=rIn K false) op_in_seq (pv 0) (pv 2) rfl) (pw_and1 (pt_cmpR (r:=rIn K false) op_in_seq (pv 1) (pv 2) rfl)))))
    (fun _ _ _=>pe_tup (pa_cons (pv 0) (pa_cons (pv 1) pa_nil))))
   (pss_cons (ps_set (i:=3) scPA.nd rfl (Or.inr rfl) (pe_call GL hr rfl DL.mgf DL.fn.kp DL.b .nil pass0 (pa_cons (pv 1) (pa_cons (pe_op op_cat (pv 2) (pe_call GT hr rfl DT.mgf DT.fn.kp DT.b .nil pass0 (pa_cons (pv 2) pa_nil))) pa_nil))))
   (pss_one (ps_ret (pe_callB (call_sorted_tps (P:=P) (w:=w) rfl) (by rfl) T.sorted boot_sorted (pa_cons (pe_sc (P:=P) (w:=w) ["place"] [3] hu rfl (compSc (osc:=(defScope sPA).names) (N:=nPA) rfl rfl (by decide +kernel)) (gk_name (by decide)) (pi_list (pv 1))
    (fun _ _ _=>pg_name (i:=0) (show (["place","steps"]:List Str).Nodup by decide +kernel) rfl (Or.inl rfl)) (fun _ _ _=>pifs_nil)
    (fun _ _ _=>pe_callTy (r:=rTupOf K) call_tuple_of (by rfl) T.tuple PyProof.Rows.boot_tuple (pa_cons (pe_call GS hr rfl DS.mgf DS.fn.kp DS.b .nil pass0 (pa_cons (pv 1) (pa_cons (pv 0) pa_nil))) pa_nil))) pa_nil))))),?_⟩
  obtain ⟨d1,f1,q1,r1⟩:=hW.meth "ties"
  refine ⟨_,rfl,x,d1,f1,rfl,q1,r1,x,ms,ps,rfl,hW,fun lt tt nlt hTt=>⟨lt,rfl,⟨_,SqL.of upd_same⟩,?_⟩⟩
  have s0:=same_upd (o:=.lst (tt.map V.ref)) nlt
  have hlt:=upd_same (H:=H) (a:=lt) (o:=.lst (tt.map V.ref))
  generalize upd H lt (.lst (tt.map V.ref))=H0 at s0 hlt ⊢
  have hT0:=hTt.same s0
  have lz:(tt.map V.ref).length=ps.length:=by rw [List.length_map,hTt.len]
  refine lc_list (K:=K) (xs:=tt.map V.ref) (fun i ys H2=>Same H0 H2/\∃ us,ys=us.map V.ref/\TiesAt H2 us (within ns (ps.take i))) ⟨Same.refl _,[],rfl,.nil⟩ ?_ ?_ ?_ ?_
  ·rintro i ys H2 hi ⟨_,us,rfl,hU⟩
   rw [List.length_map,hU.len]
   exact Nat.le_trans (List.length_filter_le _ _) (Nat.le_trans (by rw [List.length_take];exact Nat.min_le_right _ _) (Nat.le_trans lp (by decide)))
  ·rintro i ys H2 _ ⟨s2,_⟩
   exact SqL.of (s2 _ _ hlt)
  ·rintro i v ys H2 R hv ⟨s2,us,rfl,hU⟩ kR
   rw [List.getElem?_map] at hv
   obtain ⟨t,et,rfl⟩:=Option.map_eq_some_iff.mp hv
   obtain ⟨p,ep,ht⟩:=(hT0.same s2).get et
   have ha2:=s2 _ _ (s0 _ _ ha)
   have fin:within ns (ps.take (i+1))=within ns (ps.take i)++(if (decide (p.1∈ns) && decide (p.2∈ns))=true then [p] else []):=by
    unfold within
    rw [List.take_add_one,ep,List.filter_append]
    congr 1
    rw [Option.toList_some,List.filter_cons]
    rfl
   refine ⟨t,_,rfl,SqT.of ht,rfl,_,_,rfl,_,_,rfl,rfl,?_⟩
   refine ⟨_,rfl,_,rfl,a,_,rfl,.inl (SqL.of ha2),rfl,flat_strs ns,_,rfl,?_⟩
   simp only [Bool.false_eq_true,if_false]
   rw [inV_str]
   by_cases h1:p.1∈ns
   ·rw [decide_eq_true h1]
    refine iteT ⟨_,rfl,_,rfl,a,_,rfl,.inl (SqL.of ha2),rfl,flat_strs ns,_,rfl,?_⟩
    simp only [Bool.false_eq_true,if_false]
    rw [inV_str]
    by_cases h2:p.2∈ns
    ·rw [decide_eq_true h2]
     refine iteT ⟨_,rfl,_,rfl,(show 2<=sizeLine by decide),fun u hu=>kR _ _ ⟨s2.trans (same_upd hu),us++[u],by simp,?_⟩⟩
     rw [fin,if_pos (by simp [h1,h2])]
     exact TiesAt.snoc (hU.same (same_upd hu)) upd_same
    ·rw [decide_eq_false h2]
     exact iteF (kR _ _ ⟨s2,us,rfl,by rw [fin,if_neg (by simp [h2]),List.append_nil];exact hU⟩)
   ·rw [decide_eq_false h1]
    exact iteF (kR _ _ ⟨s2,us,rfl,by rw [fin,if_neg (by simp [h1]),List.append_nil];exact hU⟩)
  rintro ys H2 ⟨s2,us,rfl,hU⟩ q2 nq2
  rw [lz,List.take_of_length_le (Nat.le_refl _)] at hU
  have s3:=s2.trans (same_upd (o:=.lst (us.map V.ref)) nq2)
  have hq3:=upd_same (H:=H2) (a:=q2) (o:=.lst (us.map V.ref))
  have hU3:=hU.same (same_upd (o:=.lst (us.map V.ref)) nq2)
  change tSeq _ _ _ _ (upd H2 q2 (.lst (us.map V.ref)))
  generalize upd H2 q2 (.lst (us.map V.ref))=H3 at s3 hq3 hU3 ⊢
  have s03:=s0.trans s3
  have lw:(within ns ps).length<=30:=Nat.le_trans (List.length_filter_le _ _) lp
  have hI:=both_in (within_in ns ps)
  have lb:(both2 (within ns ps)).length<=60:=by unfold both2;rw [List.length_append,turn_len];omega
  refine ⟨_,rfl,_,rfl,_,rfl,q2,us,_,rfl,hq3,hU3,by omega,fun l4 u4 H4 n4 h4 hT4 s4=>?_⟩
  refine ⟨q2,l4,_,_,rfl,rfl,s4 _ _ hq3,h4,?_,fun l5 n5=>?_⟩
  ·rw [List.length_map,List.length_map,hU3.len,hT4.len,turn_len]
   exact Nat.le_trans (by omega:_<=60) (by decide)
  have s5:=same_upd (o:=.lst (us.map V.ref++u4.map V.ref)) n5
  have h5:=upd_same (H:=H4) (a:=l5) (o:=.lst (us.map V.ref++u4.map V.ref))
  generalize upd H4 l5 (.lst (us.map V.ref++u4.map V.ref))=H5 at s5 h5 ⊢
  have s05:=s03.trans (s4.trans s5)
  have hT5:TiesAt H5 (us++u4) (both2 (within ns ps)):=paired_append ((hU3.same s4).same s5) (hT4.same s5)
  rw [<- List.map_append] at h5
  refine ⟨a,l5,ns,us++u4,_,rfl,s05 _ _ ha,h5,hT5,nn,few,hI,by omega,fun d ls H6 hS s6=>?_⟩
  have s06:=s05.trans s6
  refine ⟨_,rfl,a,rfl,⟨_,SqL.of (s06 _ _ ha)⟩,?_⟩
  refine sc_list (K:=K) (xs:=ns.map V.str) (fun i ps' H7=>Same H6 H7/\Hold H7 ps'/\(∀ zs,zs∈ps'.map (·.2) ↔ ∃ z∈ns.take i,zs=comp ns ps z)/\(ps'.map (·.2)).Nodup/\(∀ x∈ps',x.2≠[])/\ps'.length<=i) ⟨Same.refl _,(fun _ z=>nomatch z),(fun zs=>by simp),List.nodup_nil,(fun _ z=>nomatch z),Nat.le_refl _⟩ ?_ ?_ ?_ ?_
  ·rintro i ps' H7 _ ⟨_,h,_⟩
   exact h
  ·rintro i ps' H7 _ ⟨s7,_⟩
   exact SqL.of (s7 _ _ (s06 _ _ ha))
  ·rintro i v ps' H7 R hv ⟨s7,ho,me,nd,nz,le⟩ kR
   rw [List.getElem?_map] at hv
   obtain ⟨z,ez,rfl⟩:=Option.map_eq_some_iff.mp hv
   have hz:z∈ns:=List.mem_of_getElem? ez
   have hi:i < ns.length:=(List.getElem?_eq_some_iff.mp ez).1
   simp only [tYes,gName,if_true]
   refine ⟨_,rfl,_,rfl,d,z,ns,_,ls,rfl,hS.same s7,nn,few,hI,by omega,hz,fun l8 H8 n8 h8 s8=>⟨l8,_,rfl,.inl ⟨SqL.of h8,fun c nc=>?_⟩⟩⟩
   have s9:=s8.trans (same_upd (o:=.tup ((comp ns ps z).map V.str)) nc)
   have cz:comp ns ps z≠[]:=fun e=>by have:=comp_self (ps:=ps) hz;rw [e] at this;exact nomatch this
   refine ⟨c,comp ns ps z,rfl,cz,upd_same,ho.same s9,by omega,kR _ _ ⟨s7.trans s9,addP_hold (ho.same s9) upd_same,fun zs=>?_,addP_nd nd,addP_ne nz cz,Nat.le_trans (addP_len _ _) (by omega)⟩⟩
   rw [addP_keys,me,List.take_add_one,ez]
   constructor
   ·rintro (⟨y,hy,e⟩ | e)
    ·exact ⟨y,List.mem_append_left _ hy,e⟩
    ·exact ⟨z,List.mem_append_right _ (by simp),e⟩
   ·rintro ⟨y,hy,e⟩
    rcases List.mem_append.mp hy with h | h
    ·exact .inl ⟨y,h,e⟩
    ·have:y=z:=by simpa using h
     subst this
     exact .inr e
  ·rintro ps' H7 ⟨s7,ho,me,nd,nz,le⟩ D nD
   rw [List.length_map] at le me
   have s8:=same_upd (o:=TpO P w D ps') nD
   refine ⟨D,ps',rfl,upd_same,ho.same s8,nz,by omega,fun l qs nl pm up=>?_⟩
   have s9:=s8.trans (same_upd (o:=.lst (qs.map fun q=>V.ref q.1)) nl)
   have s09:=s06.trans (s7.trans s9)
   refine k l qs _ ((s06.trans (s7.trans s8)).free nl) upd_same (fun q hq=>(ho.same s9) q (pm.mem_iff.mp hq)) ⟨fun zs=>?_,(pm.map (·.2)).nodup_iff.mpr nd,up⟩ s09
   rw [(pm.map (·.2)).mem_iff,me,List.take_of_length_le (Nat.le_refl _)]
end
def Hangs (ns:List Str) (ps:List (Str × Str)):Prop:=∀ a∈ns,∀ b∈ns,Rch (both2 ps) a b
theorem within_all {ms:List Str} {ps:List (Str × Str)} (h:InP ms ps):within ms ps=ps:=by
 unfold within
 rw [List.filter_eq_self]
 intro p hp
 simp [h p hp]
theorem GoodW.inS {ns:List Str} {ps:List (Str × Str)} (g:GoodW ns ps):InP (srt ns) ps:=fun p hp=>⟨srt_mem.mpr (g.ins p hp).1,srt_mem.mpr (g.ins p hp).2⟩
theorem one_piece {ns:List Str} {ps:List (Str × Str)} (g:GoodW ns ps) (h:Hangs ns ps) {qs:List (Addr × List Str)} (p:Pcs (srt ns) ps qs):qs.length=1:=by
 have nS:=srt_nd g.good.nd
 have all:∀ z∈srt ns,comp (srt ns) ps z=srt (srt ns):=fun z hz=>by
  unfold comp
  rw [within_all g.inS]
  refine (rch_of nS nS (both_in g.inS) hz fun y=>?_).symm
  constructor
  ·intro hy
   exact h z (srt_mem.mp hz) y (srt_mem.mp hy)
  ·intro r
   exact r.stays (S:=(·∈srt ns)) hz fun q hq _=>(both_in g.inS q hq).2
 have one:∀ zs∈qs.map (·.2),zs=srt (srt ns):=fun zs hz=>by
  obtain ⟨z,h1,e⟩:=(p.mem zs).mp hz
  rw [e,all z h1]
 obtain ⟨z0,h0⟩:∃ z,z∈srt ns:=by
  have h1:=g.good.one
  cases e:srt ns with
  | nil=>exact absurd (show ns.length=0 from by have:=congrArg List.length e;rw [srt_len] at this;exact this) (by omega)
  | cons z r=>exact ⟨z,List.mem_cons_self⟩
 have ex:=(p.mem (comp (srt ns) ps z0)).mpr ⟨z0,h0,rfl⟩
 have nd:=p.nd
 cases e:qs with
 | nil=>rw [e] at ex;exact nomatch ex
 | cons a r =>
  cases r with
  | nil=>rfl
  | cons b r =>
   exfalso
   rw [e] at one nd
   simp only [List.map_cons,List.nodup_cons,List.mem_cons,not_or] at nd
   exact nd.1.1 ((one a.2 (by simp)).trans (one b.2 (by simp)).symm)
section
variable {P:Program} {w:World} {K:PySem.W.Frag} {mg:Str->Option Value} {base:Heap}
variable {C fP fS fL fSp fTu fPA fPi fHa:Addr} {fdP fdS fdL fdSp fdTu fdPA fdPi fdHa:FuncData}
def spPi (C:Addr):Sp:=fun vs H Q _=>∃ (x:Addr) (ns:List Str) (ps:List (Str × Str)),vs=[.ref x]/\WebObj C H x ns ps/\GoodW ns ps /\
 ∀ l qs H',H l=none->H' l=some (.lst (qs.map fun q=>V.ref q.1))->Hold H' qs->Pcs (srt ns) ps qs->Same H H'->Q (.ref l) H'
theorem scPi:FnScope ["web"] ["web"] (defScope sPieces):=⟨rfl,rfl,rfl,by decide +kernel,rfl,by decide +kernel,by decide +kernel⟩
theorem ok_pieces {f:Addr} {fd:FuncData} (F:Fun K "pieces" "pieces" sPieces f fd) (DPA:Df K mg "pieces_among" sPA ["web","among"] fPA fdPA) (M:Mt K mg C fP fS fdP fdS) (DL:Df K mg "leads" sLeads ["places","ties"] fL fdL) (DS:Df K mg "spread" sSpread ["steps","start"] fSp fdSp) (DT:Df K mg "turned_pairs" sTurned ["ties"] fTu fdTu) (T:Glb mg):FnOk P w K mg base CX0 3 f fd ["web"] (spPi C):=by
 have GP:FnOk P w K mg base CX0 1 fP fdP ["self"] (spPl C):=ok_places M.pF M.wc T
 have GA:FnOk P w K mg base CX0 2 fPA fdPA ["web","among"] (spPA C):=ok_pa DPA.fn M DL DS DT T
 refine F.ok scPi (fun vs H Q E h=>?_) (fun cdv A outer s H vs Q E hr h=>?_)
 ·obtain ⟨x,ns,ps,rfl,_⟩:=h
  rfl
 ·obtain ⟨x,ns,ps,rfl,hW,g,k⟩:=h
  have h1:=hr.mono (j:=1) (by decide)
  refine ⟨_,pss_one (ps_ret (pe_call GA hr rfl DPA.mgf DPA.fn.kp DPA.b .nil pass0 (pa_cons (pv 0) (pa_cons (pe_meth0 (pv 0) M.wc.cl M.pM GP h1 M.pB .nil pass0) pa_nil)))),?_⟩
  obtain ⟨d1,f1,q1,r1⟩:=hW.meth "places"
  refine ⟨_,rfl,_,rfl,x,d1,f1,rfl,q1,r1,x,ns,ps,rfl,hW,fun l1 hl1=>?_⟩
  have sl1:=same_upd (o:=.lst ((srt ns).map V.str)) hl1
  exact ⟨x,l1,ns,srt ns,ps,rfl,hW.same sl1,g.few,upd_same,srt_nd g.good.nd,by rw [srt_len];exact g.good.few,fun l qs H' nl hl ho pc s'=>k l qs H' (sl1.free nl) hl ho pc (sl1.trans s')⟩
theorem scHa:FnScope ["web"] ["web"] (defScope sHangs):=⟨rfl,rfl,rfl,by decide +kernel,rfl,by decide +kernel,by decide +kernel⟩
def spChkH (C:Addr):Sp:=fun vs H Q _=>∃ (x:Addr) (ns:List Str) (ps:List (Str × Str)),vs=[.ref x]/\WebObj C H x ns ps/\GoodW ns ps/\Hangs ns ps/\∀ H',Same H H'->Q .non H'
theorem scCkH:FnScope ["web"] ["web"] (defScope sChkH):=⟨rfl,rfl,rfl,by decide +kernel,rfl,by decide +kernel,by decide +kernel⟩
end
end K41
namespace L2
open PySem PySem.Spec PyProof.Rows
section
variable {X:Cx}
theorem of_ints:∀ {us:List Value} {ns:List Int},IntsAre us ns->Vals (ns.map V.int) us
 | _,_,.nil=>.nil
 | _,_,.cons n t h=>.cons ⟨t,rfl⟩ (of_ints h)
end
structure TabI (t:SetTable):Prop where
 rise:L3.Rising t.place
 nod:t.dummies=#[]
theorem TabI.not_dummy {t:SetTable} (T:TabI t) (j:Nat):t.slot j≠.dummy:=by
 unfold SetTable.slot
 have e:SetTable.has t.dummies j=false:=by rw [T.nod];rfl
 dsimp only
 rw [e]
 split<;>simp
theorem TabI.free {t:SetTable} (T:TabI t) {j:Nat} (h:t.slot j=.empty) (i:Nat):t.place[i]?≠some j:=fun e=>by
 rw [L3.slot_live T.rise e] at h
 cases h
theorem go_empty {t:SetTable} (T:TabI t) {ha:Nat->Int} {h:Int}:∀ (f:Nat) (p:SetTable.Probe) {j:Nat} {d:Option Nat},p.dummy=none->SetTable.probe.go t ha h f p=some (.empty j d)->t.slot j=.empty/\d=none
 | 0,p,j,d,hd,e=>by unfold SetTable.probe.go at e;cases e
 | f+1,p,j,d,hd,e=>by
  have ad:(t.advance p).dummy=none:=by unfold SetTable.advance;split<;>exact hd
  unfold SetTable.probe.go at e
  cases hs:t.slot p.j with
  | empty =>
   rw [hs] at e
   cases e
   exact ⟨hs,hd⟩
  | dummy=>exact absurd hs (T.not_dummy _)
  | live i =>
   rw [hs] at e
   dsimp only at e
   split at e
   ·cases e
   ·exact go_empty T f _ ad e
theorem free_slot {t:SetTable} (T:TabI t) {h:Int} {j:Nat} {b:Bool} (e:t.freeSlot h=some (j,b)):t.slot j=.empty:=by
 unfold SetTable.freeSlot at e
 split at e
 ·rename_i j' d hp
  unfold SetTable.probe at hp
  obtain ⟨a,rfl⟩:=go_empty T _ _ rfl hp
  cases e
  exact a
 ·cases e
theorem rise_put {xs:Array Nat} (r:L3.Rising xs) {j:Nat} (n:∀ i:Nat,xs[i]?≠some j):L3.Rising (SetTable.insertAt xs (SetTable.below xs j) j):=by
 obtain ⟨b1,b2,b3⟩:=L3.below_is r j
 generalize SetTable.below xs j=p at b1 b2 b3 ⊢
 have sz:(SetTable.insertAt xs p j).size=xs.size+1:=by
  rw [<- Array.length_toList,(SetTable.insertAt_perm xs p j).length_eq];simp
 have get':∀ i:Nat,(SetTable.insertAt xs p j)[i]?=if i < p then xs[i]? else if i=p then some j else xs[i - 1]?:=fun i=>L3.ins_get _ b1 _ i
 have hi':∀ a (ha:a < xs.size),p<=a->j < xs[a]:=fun a ha q=>by
  have:=b3 a ha q
  have ne:xs[a]≠j:=fun e=>n a (by rw [Array.getElem?_eq_getElem ha,e])
  omega
 intro a b ha hb ab
 have g1:=get' a
 have g2:=get' b
 rw [Array.getElem?_eq_getElem ha] at g1
 rw [Array.getElem?_eq_getElem hb] at g2
 by_cases c1:a < p
 ·rw [if_pos c1,Array.getElem?_eq_getElem (show a < xs.size by omega)] at g1
  rw [Option.some.inj g1]
  by_cases c2:b < p
  ·rw [if_pos c2,Array.getElem?_eq_getElem (show b < xs.size by omega)] at g2
   rw [Option.some.inj g2];exact r _ _ _ _ ab
  ·rw [if_neg c2] at g2
   by_cases c3:b=p
   ·rw [if_pos c3] at g2;rw [Option.some.inj g2];exact b2 a _ c1
   ·rw [if_neg c3,Array.getElem?_eq_getElem (show b - 1 < xs.size by omega)] at g2
    rw [Option.some.inj g2];exact Nat.lt_trans (b2 a _ c1) (hi' (b - 1) _ (by omega))
 ·rw [if_neg c1] at g1
  rw [if_neg (show ¬ b < p by omega),if_neg (show b≠p by omega),Array.getElem?_eq_getElem (show b - 1 < xs.size by omega)] at g2
  rw [Option.some.inj g2]
  by_cases c3:a=p
  ·rw [if_pos c3] at g1;rw [Option.some.inj g1];exact hi' (b - 1) _ (by omega)
  ·rw [if_neg c3,Array.getElem?_eq_getElem (show a - 1 < xs.size by omega)] at g1
   rw [Option.some.inj g1];exact r _ _ _ _ (by omega)
theorem tabI_stand (t:SetTable) (n:Nat):TabI (t.standIn n):=⟨fun i j hi hj ij=>by simpa [SetTable.standIn] using ij,rfl⟩
theorem TabI.lay {t:SetTable} (T:TabI t) (es:Array (Int × Value)) (h:Int) (x:Value):TabI (layNew t es h x).2.1:=by
 unfold layNew
 split
 ·rename_i slot b e
  have em:=free_slot T e
  dsimp only
  unfold SetTable.orStandIn
  split
  ·refine ⟨rise_put T.rise (T.free em),?_⟩
   show (if SetTable.has t.dummies slot then _ else t.dummies)=#[]
   have e':SetTable.has t.dummies slot=false:=by rw [T.nod];rfl
   rw [e']
   exact T.nod
  ·exact tabI_stand _ _
 ·exact tabI_stand _ _
theorem rise_of_pw {l:List Nat} (h:l.Pairwise (· < ·)):L3.Rising l.toArray:=fun i j hi hj ij=>by
 simpa using List.pairwise_iff_getElem.mp h i j (by simpa using hi) (by simpa using hj) ij
theorem TabI.relay {t:SetTable} (T:TabI t) (es:Array (Int × Value)) (n:Nat):TabI (relayAll t es n).2.1:=by
 unfold relayAll
 split
 ·rename_i t' order e
  unfold SetTable.relaid SetTable.laid at e
  cases hl:SetTable.layClean (SetTable.sizeAbove n - 1) (es.map (·.1)) with
  | none=>rw [hl] at e;cases e
  | some o =>
   rw [hl] at e
   cases e
   dsimp only
   split
   ·refine ⟨rise_of_pw ?_,rfl⟩
    rw [L3.fm_fst]
    exact (List.pairwise_lt_range).filter _
   ·exact tabI_stand _ _
 ·exact tabI_stand _ _
def addI (σ:List Int) (z:Int):List Int:=if z∈σ then σ else z::σ
def distI (zs:List Int):List Int:=zs.foldl addI []
theorem distI_snoc (zs:List Int) (z:Int):distI (zs++[z])=addI (distI zs) z:=by unfold distI;rw [List.foldl_append];rfl
theorem mem_addI {σ:List Int} {z k:Int}:k∈addI σ z ↔ k∈σ\/k=z:=by
 unfold addI
 split
 ·rename_i h;exact ⟨.inl,fun q=>q.elim id fun e=>e ▸ h⟩
 ·rw [List.mem_cons];exact ⟨fun q=>q.symm,fun q=>q.symm⟩
theorem addI_nd {σ:List Int} {z:Int} (h:σ.Nodup):(addI σ z).Nodup:=by
 unfold addI
 split
 ·exact h
 ·rename_i q;exact List.nodup_cons.mpr ⟨q,h⟩
theorem distI_nd (zs:List Int):(distI zs).Nodup:=by
 unfold distI
 have:∀ (zs σ:List Int),σ.Nodup->(zs.foldl addI σ).Nodup:=by
  intro zs
  induction zs with
  | nil=>intro σ h;exact h
  | cons z zs ih=>intro σ h;exact ih _ (addI_nd h)
 exact this zs [] .nil
theorem mem_distI {zs:List Int} {k:Int}:k∈distI zs ↔ k∈zs:=by
 unfold distI
 have:∀ (zs σ:List Int),k∈zs.foldl addI σ ↔ k∈σ\/k∈zs:=by
  intro zs
  induction zs with
  | nil=>intro σ;simp
  | cons z zs ih=>intro σ;rw [List.foldl_cons,ih,mem_addI,List.mem_cons];exact ⟨fun h=>by rcases h with (h | h) | h<;>simp [h],fun h=>by rcases h with h | h | h<;>simp [h]⟩
 simpa using this zs []
theorem distI_le (zs:List Int):(distI zs).length<=zs.length:=by
 unfold distI
 have:∀ (zs σ:List Int),(zs.foldl addI σ).length<=σ.length+zs.length:=by
  intro zs
  induction zs with
  | nil=>intro σ;simp
  | cons z zs ih =>
   intro σ
   have h:=ih (addI σ z)
   have h2:(addI σ z).length<=σ.length+1:=by unfold addI;split<;>simp
   rw [List.foldl_cons,List.length_cons];omega
 simpa using this zs []
section
variable {prog:Program} {w:World} {A:Around} {E:Value->Shared->Prop} {s:Shared}
structure SetI (prog:Program) (w:World) (h:Heap) (a:Addr) (zs:List Int) (led:Bool) (o:Obj) (es:Array (Int × Value)) (ep:Nat) (t:SetTable):Prop where
 ho:h.get? a=some o
 ex:o.ExactSet
 hd:o.data=.set es ep t
 el:ElemsOf (intKind prog w) es.toList
 mem:∀ k,decide (k∈distI zs)=true ↔ ∃ e∈es.toList,(intKind prog w).is k e.2=true
 few:es.size < scanBound
 fits:t.fits es.size=true
 size:es.size=(distI zs).length
 led:t.led=led
 tab:TabI t
theorem SetI.keep {h h':Heap} {a:Addr} {zs:List Int} {led:Bool} {o:Obj} {es:Array (Int × Value)} {ep:Nat} {t:SetTable} (x:SetI prog w h a zs led o es ep t) (k:∀ o,h.get? a=some o->h'.get? a=some o):SetI prog w h' a zs led o es ep t:={ x with ho:=k _ x.ho }
theorem SetI.setW {a:Addr} {h:Heap} {zs:List Int} {o:Obj} {es:Array (Int × Value)} {ep:Nat} {t:SetTable} (x:SetI prog w h a zs (!byTxt w) o es ep t):SetW w h a es ep t :=
 ⟨⟨o,x.ho,x.ex,x.hd⟩,x.fits,x.led,fun _=>by cases e:t.plain with
  | false=>exact .inl rfl
  | true=>exact .inr ⟨rfl,x.tab.rise⟩⟩
theorem SetI.add {a:Addr} {z:Int} {tok:Tok} {zs:List Int} {led:Bool} {o:Obj} {es:Array (Int × Value)} {ep:Nat} {t:SetTable} {Q:Bool->Shared->Prop} (x:SetI prog w s.heap a zs led o es ep t) (room:(distI zs).length+1 < scanBound)
  (k:∀ (b:Bool) h' o' es' ep' t',Heap.SameBut a s.heap h'->SetI prog w h' a (zs++[z]) led o' es' ep' t'->Q b { s with heap:=h' }) :
  wpAny (model prog w) A (setAddHashed a (.int z tok) ((intKind prog w).hash z)) Q E s:=by
 have yes:(intKind prog w).is z (.int z tok)=true:=intKind_is _ _ _ _
 unfold setAddHashed setAddHashedIn
 refine wpAny_holding (wpAny_bind (wpAny_setState_of x.ho x.hd x.fits ?_))
 dsimp only
 rw [byScan_of (knd:=intKind prog w) (x:=.int z tok) rfl x.few x.el,if_pos rfl]
 unfold setAddByScan
 refine wpAny_bind (wpAny_bind (wpAny_rule (wpAny_bind (wpAny_setScan_of yes x.ho x.hd x.fits x.el ?_))))
 have isin:=x.mem z
 have ed:distI (zs++[z])=addI (distI zs) z:=distI_snoc zs z
 cases hr:List.findIdx? (fun e=>(intKind prog w).is z e.2) es.toList with
 | some j =>
  dsimp only
  obtain ⟨hj,hpj,_⟩:=List.findIdx?_eq_some_iff_getElem.mp hr
  have hz:z∈distI zs:=of_decide_eq_true (isin.mpr ⟨_,List.getElem_mem hj,hpj⟩)
  have e2:distI (zs++[z])=distI zs:=by rw [ed];unfold addI;rw [if_pos hz]
  refine wpAny_pure (wpAny_pure ?_)
  have:=k false s.heap o es ep t (Heap.SameBut.refl a s.heap) { x with mem:=by rw [e2];exact x.mem,size:=by rw [e2];exact x.size }
  exact this
 | none =>
  dsimp only
  have hz:z ∉ distI zs:=fun q=>by
   obtain ⟨e,he,hp⟩:=isin.mp (decide_eq_true q)
   have:=List.findIdx?_eq_none_iff.mp hr e he
   rw [hp] at this;cases this
  have perm:=layNew_perm t es ((intKind prog w).hash z) (.int z tok)
  have fit:=layNew_fits t es ((intKind prog w).hash z) (.int z tok)
  have ld:=lay_led t es ((intKind prog w).hash z) (.int z tok)
  have tb:=x.tab.lay es ((intKind prog w).hash z) (.int z tok)
  generalize layNew t es ((intKind prog w).hash z) (.int z tok)=L at perm fit ld tb ⊢
  obtain ⟨es1,t1,dummy,gave⟩:=L
  dsimp only at perm fit ld tb ⊢
  rw [Array.toList_push] at perm
  have el1:ElemsOf (intKind prog w) es1.toList:=(x.el.push yes rfl).perm perm
  have mem1:∀ k',decide (k'∈distI (zs++[z]))=true ↔ ∃ e∈es1.toList,(intKind prog w).is k' e.2=true:=fun k'=>by
   have:=mem_push_iff (knd:=intKind prog w) yes x.mem perm k'
   rw [<- this,ed,Bool.or_eq_true,decide_eq_true_iff,decide_eq_true_iff,decide_eq_true_iff,mem_addI]
  have sz1:es1.size=es.size+1:=by rw [<- Array.length_toList,perm.length_eq,List.length_append,Array.length_toList];rfl
  have few1:es1.size < scanBound:=by rw [sz1,x.size];exact room
  have size1:es1.size=(distI (zs++[z])).length:=by rw [sz1,ed];unfold addI;rw [if_neg hz,List.length_cons,x.size]
  refine wpAny_bind (gave_way ?_)
  have tail:wpAny (model prog w) A (do
    storeSet a es1 t1
    if (!dummy && t1.tooFull)=true then do
      (match (relayAll t1 es1 (SetTable.grown es1.size)).2.2 with | true=>rule "set.scan.the-table-gave-way" | false=>pure ())
      storeSet a (relayAll t1 es1 (SetTable.grown es1.size)).1 (relayAll t1 es1 (SetTable.grown es1.size)).2.1
      pure (some true)
     else pure (some true)) (fun r s'=>wpAny (model prog w) A (match r with | some added=>pure added | none=>setAddHashedIn a (.int z tok) ((intKind prog w).hash z) 99999) Q E s') E s:=by
   refine wpAny_bind (wpAny_storeSet_of x.ho x.hd ?_ (fits_of_scanBound few1))
   obtain ⟨g1,_⟩:=SetOf_store (knd:=intKind prog w) (S':=fun k'=>decide (k'∈distI (zs++[z]))) x.ho x.ex x.hd el1 mem1 few1 fit
   have sb1:=Heap.SameBut.update s.heap a (Obj.putSet es1 t1)
   split
   ·have rp:=relayAll_perm t1 es1 (SetTable.grown es1.size)
    have rf:=relayAll_fits t1 es1 (SetTable.grown es1.size)
    have rl:=relay_led t1 es1 (SetTable.grown es1.size)
    have rpl:=tb.relay es1 (SetTable.grown es1.size)
    generalize relayAll t1 es1 (SetTable.grown es1.size)=Rl at rp rf rl rpl ⊢
    obtain ⟨es2,t3,gv⟩:=Rl
    dsimp only at rp rf rl rpl ⊢
    have sz2:es2.size=es1.size:=by rw [<- Array.length_toList,rp.length_eq,Array.length_toList]
    refine wpAny_bind (gave_way ?_)
    have mem2:∀ k',decide (k'∈distI (zs++[z]))=true ↔ ∃ e∈es2.toList,(intKind prog w).is k' e.2=true:=fun k'=>(mem1 k').trans ⟨fun ⟨e,he,q⟩=>⟨e,rp.mem_iff.mpr he,q⟩,fun ⟨e,he,q⟩=>⟨e,rp.mem_iff.mp he,q⟩⟩
    have few2:es2.size < scanBound:=by rw [sz2];exact few1
    refine wpAny_bind (wpAny_storeSet_of (s:={ s with heap:=s.heap.update a (Obj.putSet es1 t1) }) g1 rfl ?_ (fits_of_scanBound few2))
    obtain ⟨g2,_⟩:=SetOf_store (knd:=intKind prog w) (S':=fun k'=>decide (k'∈distI (zs++[z]))) g1 x.ex rfl (el1.perm rp) mem2 few2 rf
    exact wpAny_pure (wpAny_pure (k true _ _ es2 _ t3 (sb1.trans (Heap.SameBut.update _ a _)) ⟨g2,x.ex,rfl,el1.perm rp,mem2,few2,rf,by rw [sz2];exact size1,by rw [rl,ld];exact x.led,rpl⟩))
   ·exact wpAny_pure (wpAny_pure (k true _ _ es1 _ t1 sb1 ⟨g1,x.ex,rfl,el1,mem1,few1,fit,size1,by rw [ld];exact x.led,tb⟩))
  split
  ·refine wpAny_bind ?_
   refine wpAny_pure ?_
   simp only [↓reduceIte]
   exact tail
  ·refine wpAny_bind (wpAny_pure ?_)
   simp only [↓reduceIte]
   exact tail
end
section
variable {prog:Program} {w:World} {A:Around} {I S:Addr} {fp wr:List Addr} {G:Array GenState->Array GenState->Prop} {P:Nat->Value->Prop} {St:Nat->Shared->Prop} {zs:List Int} {R:Result->Shared->Prop} {led:Bool}
def IntX (prog:Program) (w:World) (h:Heap) (S:Addr) (zs:List Int) (led:Bool):Prop:=∃ o es ep t,SetI prog w h S zs led o es ep t
theorem IntX.keep {h h':Heap} (x:IntX prog w h S zs led) (k:∀ o,h.get? S=some o->h'.get? S=some o):IntX prog w h' S zs led:=let ⟨o,es,ep,t,q⟩:=x;⟨o,es,ep,t,q.keep k⟩
theorem ints_inX (W:WalksS prog w A.in1 I fp wr G zs.length P St) (off:S ∉ fp) (hz:∀ i v,P i v->∃ z t,zs[i]?=some z/\v=.int z t) (small:zs.length+1 < scanBound) :
  ∀ (left i:Nat) (s:Shared),i+left=zs.length->St i s->IntX prog w s.heap S (zs.take i) led ->
   (∀ s',Moved (S::wr) G s s'->IntX prog w s'.heap S zs led->R (.ok (.ret .none)) s')->codeAny (model prog w) A (.builtin "set.update.loop" ⟨[.ref S,.ref I],[]⟩) R s
 | 0,i,s,hi,st,x,k=>by
  have e:zs.take i=zs:=List.take_of_length_le (by omega)
  rw [show i=zs.length by omega] at st
  refine codeAny_builtin F.entry_set_update_loop ?_
  rw [Around.under_plainId F.plain_set_update_loop _]
  apply wpAny_bind
  refine W.done s _ _ st fun s' m=>?_
  exact wpAny_pure (k s' (m.mono fun b hb=>List.mem_cons_of_mem _ hb) (by rw [e] at x;exact x.keep fun o ho=>m.heap S o (fun hs=>off (W.sub _ hs)) ho))
 | left+1,i,s,hi,st,x,k=>by
  refine codeAny_builtin F.entry_set_update_loop ?_
  rw [Around.under_plainId F.plain_set_update_loop _]
  apply wpAny_bind
  refine W.item i s _ _ (by omega) st fun v s1 p st1 m=>?_
  obtain ⟨z,t,ez,rfl⟩:=hz i v p
  obtain ⟨o,es,ep,tb,x1⟩:=x.keep fun o ho=>m.heap S o (fun hs=>off (W.sub _ hs)) ho
  have et:zs.take (i+1)=zs.take i++[z]:=by rw [List.take_add_one,ez];rfl
  have yes:(intKind prog w).is z (.int z t)=true:=intKind_is _ _ _ _
  show wpAny _ A.in1 (holding [Value.int z t] (setAdd S (.int z t)) >>= _) _ _ s1
  apply wpAny_bind;apply wpAny_holding
  show wpAny _ A.in1 (holding _ _) _ _ _
  apply wpAny_holding;apply wpAny_bind
  refine (intKind prog w).pyHash yes ?_
  have few:=distI_le (zs.take i)
  rw [List.length_take] at few
  refine SetI.add (s:={ s1 with toks:=s1.toks+1 }) x1 (by omega) fun _ h2 o2 es2 ep2 t2 sb x2=>?_
  refine wpAny_pure ⟨plainId_quiet F.plain_set_update_loop _,ints_inX W off hz small left (i+1) _ (by omega) ?_ ⟨o2,es2,ep2,t2,by rw [et];exact x2⟩ fun s3 m3 x3=>?_⟩
  ·exact W.frame _ s1 _ _ st1 (Nat.le_succ _) fun b hb o e=>(sb.2 b fun z'=>off (z' ▸ hb)).trans e
  ·refine k s3 (Moved.trans W.gtrans ((m.mono fun b hb=>List.mem_cons_of_mem _ hb).then_heap (Nat.le_succ _) fun b o hb e=>?_) m3) x3
   exact (sb.2 b fun z'=>hb (by rw [z'];exact List.mem_cons_self)).trans e
end
section
variable {prog:Program} {w:World} {A:Around} {E:Value->Shared->Prop} {s:Shared}
theorem tabI_fresh (f m:Nat) (led:Bool):TabI (.fresh f m led):=⟨fun i j hi hj ij=>by simp [SetTable.fresh] at hi,rfl⟩
theorem setI_list {l:Addr} {its:List Value} {zs:List Int} {Q:Value->Shared->Prop} (hh:A.handled=none) (hl:s.heap.IsList l its.toArray) (hz:IntsAre its zs) (small:zs.length+1 < scanBound)
  (h:∀ (h':Heap) (tk:Nat),IntX prog w h' s.heap.objs.size zs (!byTxt w)->(∀ b o,s.heap.get? b=some o->h'.get? b=some o)->Q (.ref s.heap.objs.size) { s with heap:=h',toks:=tk }) :
  wpAny (model prog w) A (call (.type "set") [.ref l]) Q E s:=by
 refine made_by PySem.F.called_set (PySem.F.typeCall_set_1 _) (new_set (.ref l) ?_)
 generalize hh1:s.heap.push { cls:=.type "set",dict:=none,data:=.set #[] 0 (.fresh 0 0 (!byTxt w)) }=h1
 have kp:∀ b o,s.heap.get? b=some o->h1.get? b=some o:=fun b o e=>by rw [<- hh1];exact Heap.get?_push_of_some _ e
 have sz:h1.objs.size=s.heap.objs.size+1:=by rw [<- hh1];exact Heap.size_push ..
 have new:h1.get? s.heap.objs.size=some { cls:=.type "set",dict:=none,data:=.set #[] 0 (.fresh 0 0 (!byTxt w)) }:=by rw [<- hh1];exact Heap.get?_push_size _ rfl
 have ty:({ s with heap:=h1 }:Shared).TypeIs (.ref s.heap.objs.size) "set" := ⟨_,new,rfl⟩
 refine ⟨ty,codeAny_call_builtin PySem.F.called_set.init.plain PySem.F.entry_set_init (check_set_init_1 ty ?_)⟩
 have el:its.length=zs.length:=IntsAre.length hz
 obtain ⟨⟨c,d,dt,sl⟩,ho,rfl,n,rfl⟩:=hl
 have ho1:=kp _ _ ho
 have lt:@LT.lt Nat _ l s.heap.objs.size:=Heap.lt_size ho
 have il:h1.IsList l its.toArray:=⟨_,ho1,rfl,n,rfl⟩
 have n1:=PySem.F.sub_list_set
 have n2:=PySem.F.sub_list_frozenset
 have n3:(Value.type "list" == Value.type "dict")=false:=by decide
 unfold Builtin.«set.__init__» noKeywords Builtin.Frozenset.updateFrom
 generalize pi:pyIter=it
 wp_walk
 subst pi
 apply wpAny_pyIter_list il
 apply wpAny_bind;apply wpAny_runValue
 have W:=(Walks.list (prog:=prog) (w:=w) (A:=A.in1.in1.in1) (by simpa using hh) h1.objs.size l (by rw [sz];exact Nat.ne_of_lt (Nat.lt_succ_of_lt lt)) its.toArray).toS
 have e0:its.toArray.size=zs.length:=by rw [List.size_toArray];exact el
 rw [e0] at W
 refine ints_inX (led:=!byTxt w) (zs:=zs) W ?_ (fun i v p=>?_) small zs.length 0 _ (Nat.zero_add _) ⟨⟨_,Heap.get?_push_size _ rfl,rfl,rfl⟩,il.push _⟩ ?_ fun t m x=>?_
 ·rw [sz]
  intro q
  rcases List.mem_cons.mp q with q | q
  ·exact absurd q (Nat.ne_of_lt (Nat.lt_succ_self _))
  ·exact absurd (List.mem_singleton.mp q) (Nat.ne_of_gt lt)
 ·have p':its[i]?=some v:=by simpa using p
  obtain ⟨t,e⟩:=IntsAre.int_at hz i v p'
  have li:i < zs.length:=by rw [<- el];exact (List.getElem?_eq_some_iff.mp p').1
  exact ⟨zs[i],t,List.getElem?_eq_getElem li,by rw [e];simp [li]⟩
 ·exact ⟨_,#[],0,_,Heap.get?_push_of_some _ new,⟨rfl,rfl,rfl⟩,rfl,fun e he=>by simp at he,fun k=>by simp [distI],by decide,by rfl,rfl,rfl,tabI_fresh _ _ _⟩
 ·obtain ⟨h2,g2,d2,t2,o2⟩:=t
  cases (show g2=s.gens from m.gens)
  cases (show d2=s.drawn from m.drawn)
  cases (show o2=s.os from m.os)
  apply wpAny_pure
  refine wpAny_pure ⟨rfl,h h2 t2 x fun b o e=>m.heap b o ?_ (Heap.get?_push_of_some _ (kp b o e))⟩
  have lb:@LT.lt Nat _ b s.heap.objs.size:=Heap.lt_size e
  rw [sz]
  intro q
  rcases List.mem_cons.mp q with q | q
  ·exact absurd q (Nat.ne_of_lt lb)
  ·exact absurd (List.mem_singleton.mp q) (Nat.ne_of_lt (Nat.lt_succ_of_lt lb))
theorem sorts_newI {h:Heap} {tk:Nat} {us:List Value} {zs:List Int} {Q:Value->Shared->Prop} (hz:IntsAre us zs) (few:us.length < 64)
  (q:∀ (out:List Value) (ms:List Int) (n:Nat) (h2:Heap),IntsAre out ms->ms.Perm zs->ms.Pairwise (·<=·)->(∀ b o,h.get? b=some o->h2.get? b=some o)->h2.get? h.objs.size=some { cls:=.type "list",data:=.seq out.toArray n }->Q (.ref h.objs.size) { s with heap:=h2,toks:=tk }) :
  wpAny (model prog w) A (call (.builtin "list.sort") [.ref h.objs.size]) (fun _ s'=>Q (.ref h.objs.size) s') E { s with heap:=h.push { cls:=.type "list",data:=.seq us.toArray },toks:=tk }:=by
 have at0:(h.push { cls:=.type "list",data:=.seq us.toArray }).get? h.objs.size=some (seqObj "list" us.toArray 0):=Heap.get?_push_size _ rfl
 refine wpAny_call_entry PySem.F.slot_list_sort ⟨_,at0,rfl⟩ PySem.F.entry_list_sort ?_ (args_list_sort _)
 refine list_sort_tree at0 hz few fun out ms c1 c2 c3=>⟨_,rfl,?_⟩
 obtain ⟨n,hn⟩:=sortedHeap_at (out:=out) at0
 refine q out.toList ms n _ c1 c2 c3 (fun b o eb=>?_) (by rw [hn])
 have lt:b < h.objs.size:=Heap.lt_size eb
 rw [sortedHeap_old (Nat.ne_of_lt lt) (by rw [Heap.size_push];exact Nat.lt_succ_of_lt lt)]
 exact Heap.get?_push_of_some _ eb
theorem ints_perm:∀ {us vs:List Value},us.Perm vs->∀ {zs:List Int},IntsAre us zs->∃ ys,IntsAre vs ys/\zs.Perm ys:=by
 intro us vs p
 induction p with
 | nil=>intro zs h;exact ⟨zs,h,.refl _⟩
 | cons x _ ih=>intro zs h;cases h with | cons z t h=>obtain ⟨ys,q,r⟩:=ih h;exact ⟨z::ys,.cons z t q,.cons z r⟩
 | swap x y l=>intro zs h;cases h with | cons z t h=>cases h with | cons z' t' h=>exact ⟨_,.cons z' t' (.cons z t h),.swap _ _ _⟩
 | trans _ _ ih1 ih2=>intro zs h;obtain ⟨ys,q,r⟩:=ih1 h;obtain ⟨ws,q',r'⟩:=ih2 q;exact ⟨ws,q',r.trans r'⟩
theorem vals_int:∀ (us:List Value),(∀ u∈us,∃ z t,u=.int z t)->∃ zs,IntsAre us zs
 | [],_=>⟨[],.nil⟩
 | u::us,h=>by
  obtain ⟨z,t,rfl⟩:=h u List.mem_cons_self
  obtain ⟨zs,q⟩:=vals_int us fun v hv=>h v (List.mem_cons_of_mem _ hv)
  exact ⟨z::zs,.cons z t q⟩
theorem ints_mem {us:List Value} {zs:List Int} {z:Int} (h:IntsAre us zs) (q:∃ u∈us,∃ t,u=.int z t):z∈zs:=by
 induction h with
 | nil=>obtain ⟨u,hu,_⟩:=q;cases hu
 | cons y t _ ih =>
  obtain ⟨u,hu,t',e⟩:=q
  rcases List.mem_cons.mp hu with rfl | hu
  ·cases e;exact List.mem_cons_self
  ·exact List.mem_cons_of_mem _ (ih ⟨u,hu,t',e⟩)
theorem SetI.vals {a:Addr} {h:Heap} {zs:List Int} {led:Bool} {o:Obj} {es:Array (Int × Value)} {ep:Nat} {t:SetTable} (x:SetI prog w h a zs led o es ep t) (hs:∀ k v,(intKind prog w).is k v=true->∃ t,v=.int k t) {acc:List Value} (p:acc.Perm (es.toList.map (·.2))):∃ ys,IntsAre acc ys/\ys.Perm (distI zs):=by
 obtain ⟨ks,hk⟩:=vals_int (es.toList.map (·.2)) fun u hu=>by
  obtain ⟨e,he,rfl⟩:=List.mem_map.mp hu
  obtain ⟨⟨k,hk,_⟩,_⟩:=x.el e he
  obtain ⟨t,q⟩:=hs k e.2 hk
  exact ⟨k,t,q⟩
 obtain ⟨ys,hy,q⟩:=ints_perm p.symm hk
 refine ⟨ys,hy,q.symm.trans (perm_of_sub (distI_nd zs) (fun z hz=>?_) ?_).symm⟩
 ·obtain ⟨e,he,r⟩:=(x.mem z).mp (decide_eq_true hz)
  exact ints_mem hk ⟨e.2,List.mem_map.mpr ⟨e,he,rfl⟩,hs z e.2 r⟩
 ·have:=IntsAre.length hk
  rw [List.length_map,Array.length_toList,x.size] at this
  omega
end
def IntO (P:Program) (w:World) (a:Addr) (zs:List Int):HO:=.ext fun h=>IntX P w h a zs (!byTxt w)
section
variable {X:Cx}
theorem intO_ok {H:Hp} {h:Heap} {a:Addr} {zs:List Int} (x:IntX X.prog X.w h a zs (!byTxt X.w)):ObjOk X.prog X.w H h a (IntO X.prog X.w a zs):=by
 refine ⟨x,?_,fun h1 h2 q k=>q.keep fun o e=>k o e⟩
 obtain ⟨o,es,ep,t,y⟩:=x
 exact ⟨o,y.ho⟩
theorem call_set_int (hc:X.calm=true):CallR X (.type "set") (fun xs H Q=>∃ (p:Addr) (zs:List Int),xs=[.ref p]/\SqL X.K H p (zs.map V.int)/\zs.length+1 < scanBound/\∀ l,H l=none->Q (.ref l) (upd H l (IntO X.prog X.w l zs))):=by
 intro pins s σ H xs us Q I r h
 obtain ⟨p,zs,rfl,hp,small,q⟩:=h
 obtain ⟨u,rfl,rx⟩:=vals1 r
 cases rx
 have fr:H s.heap.objs.size=none:=I.hok.fresh (Nat.le_refl _)
 obtain ⟨its,rv,pl,_⟩:=I.list hp
 exact setI_list (I.ok.hd hc) pl.isList (intsAre_of rv) small fun h' tk T kp=>⟨.ref s.heap.objs.size,_,I.laid (t':=tk) kp (Nat.le_refl _) (intO_ok T),rfl,q _ fr⟩
theorem call_sorted_seti (hc:X.calm=true):CallR X (.builtin "sorted") (fun xs H Q=>∃ (p:Addr) (zs:List Int),xs=[.ref p]/\H p=some (IntO X.prog X.w p zs)/\zs.length < 64/\∀ l (ms:List Int),H l=none->ms.Perm (distI zs)->ms.Pairwise (·<=·)->Q (.ref l) (upd H l (.lst (ms.map V.int)))):=by
 intro pins s σ H xs us Q I r h
 obtain ⟨p,zs,rfl,hp,few,q⟩:=h
 obtain ⟨u,rfl,rx⟩:=vals1 r
 cases rx
 obtain ⟨⟨o,es,ep,t,x⟩,_⟩:=I.hok _ _ hp
 have few':(distI zs).length < 64:=Nat.lt_of_le_of_lt (distI_le zs) few
 refine Calls.call_function_entry kind_sorted plain_sorted entry_sorted (args_sorted1 _) ?_
 unfold Builtin.«sorted»
 apply wpAny_bind (m:=checkCount "sorted" 1 1 _)
 apply wpAny_pure
 apply wpAny_bind
 refine collect_set (A:=X.A.in1) x.setW (by rw [x.size];exact Nat.le_trans (Nat.le_of_lt few') (by decide)) (by exact I.ok.hd hc) fun h1 tk dr acc keep pm=>?_
 obtain ⟨ys,txt,py⟩:=x.vals (fun k v e=>Value.isInt_shape e) pm
 have la:acc.length=(distI zs).length:=by rw [IntsAre.length txt];exact py.length_eq
 apply wpAny_bind
 refine wpAny_newList ?_ (by rw [la];exact Nat.le_trans (Nat.le_of_lt few') (by decide))
 apply wpAny_bind
 apply wpAny_holding
 refine wpAny_mono (sorts_newI (prog:=X.prog) (w:=X.w) (s:={ s with drawn:=dr }) (h:=h1) (tk:=tk) (Q:=EP X pins σ Q) txt (by rw [la];exact few') fun out ms n h2 o1 op os o2 o3=>?_) (fun _ _ z=>wpAny_pure ⟨_,rfl,z⟩) fun _ _ z=>z
 have no:s.heap.get? h1.objs.size=none:=by
  cases e:s.heap.get? h1.objs.size with
  | none=>rfl
  | some o=>exact absurd (Heap.lt_size (keep _ _ e)) (Nat.lt_irrefl _)
 have noH:H h1.objs.size=none:=by
  cases e:H h1.objs.size with
  | none=>rfl
  | some o =>
   obtain ⟨u,eu⟩:=(I.hok _ _ e).there
   rw [no] at eu;cases eu
 refine ⟨.ref h1.objs.size,_,(I.drawn (dr:=dr)).laidN (t':=tk) (o:=.lst (ms.map V.int)) (fun b o e=>o2 _ _ (keep _ _ e)) no noH ?_,rfl,q _ ms noH (op.trans py) os⟩
 exact ⟨by rw [List.length_map,op.length_eq,py.length_eq];exact Nat.le_trans (Nat.le_of_lt few') (by decide),out,n,of_ints o1,o3⟩
theorem call_setiP {P:Program} {w:World} {K:PySem.W.Frag} (hc:X.calm=true) (hP:X.prog=P:=by rfl) (hw:X.w=w:=by rfl) (hK:X.K=K:=by rfl):CallR X (.type "set") (fun xs H Q=>∃ (p:Addr) (zs:List Int),xs=[.ref p]/\SqL K H p (zs.map V.int)/\zs.length+1 < scanBound/\∀ l,H l=none->Q (.ref l) (upd H l (IntO P w l zs))):=by
 subst hP hw hK
 exact call_set_int hc
theorem call_sortediP {P:Program} {w:World} (hc:X.calm=true) (hP:X.prog=P:=by rfl) (hw:X.w=w:=by rfl):CallR X (.builtin "sorted") (fun xs H Q=>∃ (p:Addr) (zs:List Int),xs=[.ref p]/\H p=some (IntO P w p zs)/\zs.length < 64/\∀ l (ms:List Int),H l=none->ms.Perm (distI zs)->ms.Pairwise (·<=·)->Q (.ref l) (upd H l (.lst (ms.map V.int)))):=by
 subst hP hw
 exact call_sorted_seti hc
end
end L2
namespace K41
open PySem PySem.Spec PyProof.Rows L2 L3
abbrev sAre:Stmt:=top 29 -- are_ties
abbrev sChkL:Stmt:=top 30 -- check_list
abbrev sFreed:Stmt:=top 31 -- freed
abbrev sMissB:Stmt:=top 32 -- missed_by
abbrev sMissed:Stmt:=top 33 -- missed
abbrev sIsMt:Stmt:=top 34 -- is_meeter
def nV (l:List Nat):List V:=l.map fun (k:Nat)=>V.int (k:Int)
theorem nV_len (l:List Nat):(nV l).length=l.length:=by unfold nV;rw [List.length_map]
theorem al_nV {K:PySem.W.Frag} {H:Hp} {p q:Addr} {l:List Nat} (hp:H p=some (.lst (nV l))) (hq:H q=some (.lst (nV l))):AlS K H 0 (.ref p) (.ref q) :=
 ⟨p,q,_,_,rfl,rfl,.inl ⟨SqL.of hp,SqL.of hq⟩,rfl,fun i a b ha hb=>by
  rw [ha] at hb;cases hb
  unfold nV at ha
  rw [List.getElem?_map] at ha
  obtain ⟨n,_,rfl⟩:=Option.map_eq_some_iff.mp ha
  exact ⟨rfl,rfl⟩⟩
structure Rs (ps:List (Str × Str)) (ks:List Nat):Prop where
 up:ks.Pairwise (· < ·)
 lt:∀ k∈ks,k < ps.length
theorem Rs.nd {ps:List (Str × Str)} {ks:List Nat} (r:Rs ps ks):ks.Nodup:=r.up.imp fun h=>Nat.ne_of_lt h
theorem Rs.len {ps:List (Str × Str)} {ks:List Nat} (r:Rs ps ks):ks.length<=ps.length:=by
 have:=L3.nd_len r.nd (m:=List.range ps.length) fun k hk=>List.mem_range.mpr (r.lt k hk)
 rwa [List.length_range] at this
theorem sorted_self {ks:List Nat} (up:ks.Pairwise (· < ·)) {ms:List Int} (p:ms.Perm (distI (ks.map fun (k:Nat)=>(k:Int)))) (s:ms.Pairwise (·<=·)):ms=ks.map fun (k:Nat)=>(k:Int):=by
 have nd:(ks.map fun (k:Nat)=>(k:Int)).Nodup:=List.pairwise_map.mpr (up.imp fun {a b} h=>by omega)
 have q:(distI (ks.map fun (k:Nat)=>(k:Int))).Perm (ks.map fun (k:Nat)=>(k:Int)):=perm_of_sub (distI_nd _) (fun x hx=>mem_distI.mp hx) (by
  have:=L3.nd_len nd (m:=distI (ks.map fun (k:Nat)=>(k:Int))) fun x hx=>mem_distI.mpr hx
  exact this)
 have up':(ks.map fun (k:Nat)=>(k:Int)).Pairwise (·<=·):=List.pairwise_map.mpr (up.imp fun {a b} h=>by omega)
 exact List.Perm.eq_of_pairwise (fun a b _ _ h1 h2=>Int.le_antisymm h1 h2) s up' (p.trans q)
structure Mh (K:PySem.W.Frag) (mg:Str->Option Value) (C E1 fP fM fT fS fWh:Addr) (fdP fdM fdT fdS fdWh:FuncData):Prop where
 m:Mt K mg C fP fS fdP fdS
 mF:Fun K "many" "Web.many" sMany fM fdM
 mM:Meth K C "many" fM
 mB:Binds K fdM ["self"] []
 tF:Fun K "tie" "Web.tie" sTieM fT fdT
 tM:Meth K C "tie" fT
 tB:Binds K fdT ["self","k"] []
 wh:Df K mg "is_whole" sWhole ["thing"] fWh fdWh
 x1:Ex K mg "NoTie" E1
section
variable {P:Program} {w:World} {K:PySem.W.Frag} {mg:Str->Option Value} {base:Heap}
variable {C E1 fP fM fT fS fWh:Addr} {fdP fdM fdT fdS fdWh:FuncData}
def spAre (C:Addr):Sp:=fun vs H Q _=>∃ (x l:Addr) (ns:List Str) (ps:List (Str × Str)) (ks:List Nat),vs=[.ref x,.ref l]/\WebObj C H x ns ps/\ps.length<=30/\H l=some (.lst (nV ks))/\Rs ps ks/\∀ H',Same H H'->Q (.bl true) H'
abbrev nAr:List Str:=["web","thing"]
theorem scAr:FnScope nAr nAr (defScope sAre):=⟨rfl,rfl,rfl,by decide +kernel,rfl,by decide +kernel,by decide +kernel⟩
theorem ok_are {f:Addr} {fd:FuncData} (F:Fun K "are_ties" "are_ties" sAre f fd) (M:Mh K mg C E1 fP fM fT fS fWh fdP fdM fdT fdS fdWh) (T:Glb mg):FnOk P w K mg base CX0 2 f fd nAr (spAre C):=by
 have GM:FnOk P w K mg base CX0 1 fM fdM ["self"] (spMy C):=ok_many M.mF M.m.wc T
 have GW:FnOk P w K mg base CX0 1 fWh fdWh ["thing"] (spWhole (K:=K)):=ok_whole M.wh.fn T
 refine F.ok scAr (fun vs H Q E h=>?_) (fun cdv A outer s H vs Q E hr h=>?_)
 ·obtain ⟨x,l,ns,ps,ks,rfl,_⟩:=h
  rfl
 ·obtain ⟨x,l,ns,ps,ks,rfl,hW,p30,hl,rs,k⟩:=h
  refine ⟨_,pss_cons (ps_if (PW.pt (pw_or (pt_not (pt_val (pe_callB (call_isinst (T:="list")) (by rfl) T.isinst boot_isinstance (pa_cons (pv 1) (pa_cons (pe_bltn (v:=.ty "list") rfl T.list PyProof.Rows.boot_list rfl) pa_nil))) (fun _=>rfl)))
    (pw_or1 (pt_cmpR op_gt (pe_callB call_len_seq (by rfl) T.len PySem.boot_len (pa_cons (pv 1) pa_nil)) (pe_meth0 (pv 0) M.m.wc.cl M.mM GM hr M.mB .nil pass0) (nomark _))))) (pss_one (ps_ret pe_bl)) pss_nil)
   (pss_cons (ps_if (pt_not (pt_val (pe_callB (call_all rfl) (by rfl) T.all boot_all (pa_cons (pe_lc ["k"] [0] rfl (compSc (osc:=(defScope sAre).names) (N:=nAr) rfl rfl (by decide +kernel)) (gk_name (by decide)) (pi_list (pv 1))
     (fun _ _ _=>pg_name (i:=0) (show (["k","web"]:List Str).Nodup by decide +kernel) rfl (Or.inl rfl)) (fun _ _ _=>pifs_nil)
     (fun _ _ _=>pe_and (pe_call GW hr rfl M.wh.mgf M.wh.fn.kp M.wh.b .nil pass0 (pa_cons (pv 0) pa_nil)) (pe_one (pe_chain op_le op_lt pe_int (pv 0) (pe_meth0 (pv 1) M.m.wc.cl M.mM GM hr M.mB .nil pass0))))) pa_nil)) (fun _=>rfl))) (pss_one (ps_ret pe_bl)) pss_nil)
   (pss_one (ps_ret (pe_cmpR (op_eq_al 0 (low 0 hr)) (pv 1) (pe_callB (call_sortediP rfl) (by rfl) T.sorted boot_sorted (pa_cons (pe_callTy (call_setiP rfl) (by rfl) T.set PyProof.Rows.boot_set (pa_cons (pv 1) pa_nil)) pa_nil)) (nomark _))))),?_⟩
  have big:1000<=sizeLine:=by decide
  have lk:=rs.len
  obtain ⟨d1,f1,q1,r1⟩:=hW.meth "many"
  refine ⟨_,rfl,_,_,true,rfl,.lst hl,rfl,_,rfl,iteF ?_⟩
  refine ⟨_,rfl,l,_,rfl,.inl (SqL.of hl),_,rfl,x,d1,f1,rfl,q1,r1,x,ns,ps,rfl,hW,_,_,rfl,rfl,_,rfl,?_⟩
  rw [nV_len]
  refine ite2 (fun e=>absurd e (by simp;omega)) (fun _=>?_)
  refine ⟨_,rfl,l,rfl,⟨_,SqL.of hl⟩,lc_list (K:=K) (xs:=nV ks) (fun i ys HH=>HH=H/\ys=(List.replicate i true).map V.bl) ⟨rfl,rfl⟩ ?_ ?_ ?_ ?_⟩
  ·rintro i ys HH hi ⟨_,rfl⟩
   rw [nV_len] at hi
   rw [List.length_map,List.length_replicate]
   omega
  ·rintro i ys HH _ ⟨rfl,_⟩
   exact SqL.of hl
  ·rintro i v ys HH R hv ⟨rfl,rfl⟩ kR
   unfold nV at hv
   rw [List.getElem?_map] at hv
   obtain ⟨n,en,rfl⟩:=Option.map_eq_some_iff.mp hv
   have ln:=rs.lt n (List.mem_of_getElem? en)
   simp only [gName,tYes,if_true]
   refine ⟨_,rfl,_,_,true,false,rfl,.int _,rfl,rfl,_,rfl,iteT ?_⟩
   refine ⟨_,rfl,_,_,rfl,rfl,_,rfl,?_⟩
   rw [decide_eq_true (show (0:Int)<=(n:Int) by omega)]
   refine iteT ⟨_,rfl,x,d1,f1,rfl,q1,r1,x,ns,ps,rfl,hW,_,_,rfl,rfl,?_⟩
   dsimp only
   rw [decide_eq_true (show (n:Int) < (ps.length:Int) by omega)]
   refine kR _ _ ⟨rfl,?_⟩
   rw [List.replicate_succ',List.map_append]
   rfl
  rintro ys HH ⟨rfl,rfl⟩ D nD
  have sD:=same_upd (o:=.lst ((List.replicate (nV ks).length true).map V.bl)) nD
  refine ⟨D,_,rfl,SqL.of upd_same,_,rfl,?_⟩
  have e1:(List.replicate (nV ks).length true).all id=true:=by simp
  rw [e1]
  refine iteF ⟨_,rfl,_,rfl,l,ks.map fun (k:Nat)=>(k:Int),rfl,?_,by rw [List.length_map];unfold scanBound;omega,fun q nq=>?_⟩
  ·rw [List.map_map]
   exact SqL.of (sD _ _ hl)
  have sq:=sD.trans (same_upd (o:=IntO P w q (ks.map fun (k:Nat)=>(k:Int))) nq)
  refine ⟨q,ks.map fun (k:Nat)=>(k:Int),rfl,upd_same,by rw [List.length_map];omega,fun r ms nr pm up=>?_⟩
  have e2:=sorted_self rs.up pm up
  subst e2
  have sr:=sq.trans (same_upd (o:=.lst ((ks.map fun (k:Nat)=>(k:Int)).map V.int)) nr)
  refine ⟨al_nV (l:=ks) (sr _ _ hl) ?_,k _ sr⟩
  rw [upd_same,List.map_map]
  rfl
def spChkL (C:Addr):Sp:=fun vs H Q _=>∃ (x l:Addr) (ns:List Str) (ps:List (Str × Str)) (ks:List Nat),vs=[.ref x,.ref l]/\WebObj C H x ns ps/\ps.length<=30/\H l=some (.lst (nV ks))/\Rs ps ks/\∀ H',Same H H'->Q .non H'
abbrev nWT:List Str:=["web","ties"]
theorem scCL:FnScope nWT nWT (defScope sChkL):=⟨rfl,rfl,rfl,by decide +kernel,rfl,by decide +kernel,by decide +kernel⟩
theorem ok_chkL {f fAr:Addr} {fd fdAr:FuncData} (F:Fun K "check_list" "check_list" sChkL f fd) (DA:Df K mg "are_ties" sAre nAr fAr fdAr) (M:Mh K mg C E1 fP fM fT fS fWh fdP fdM fdT fdS fdWh) (T:Glb mg):FnOk P w K mg base CX0 3 f fd nWT (spChkL C):=by
 have GA:FnOk P w K mg base CX0 2 fAr fdAr nAr (spAre C):=ok_are DA.fn M T
 refine F.ok scCL (fun vs H Q E h=>?_) (fun cdv A outer s H vs Q E hr h=>?_)
 ·obtain ⟨x,l,ns,ps,ks,rfl,_⟩:=h
  rfl
 ·obtain ⟨x,l,ns,ps,ks,rfl,hW,p30,hl,rs,k⟩:=h
  refine ⟨_,pss_one (ps_if (pt_not (pt_val (pe_call GA hr rfl DA.mgf DA.fn.kp DA.b .nil pass0 (pa_cons (pv 0) (pa_cons (pv 1) pa_nil))) (fun _=>rfl))) (pss_one ps_never) pss_nil),?_⟩
  exact ⟨_,rfl,_,rfl,x,l,ns,ps,ks,rfl,hW,p30,hl,rs,fun H' s'=>⟨_,rfl,iteF (k H' s')⟩⟩
end
def sel (ps:List (Str × Str)) (ks:List Nat):List (Str × Str):=ks.filterMap fun k=>ps[k]?
def gr (ps:List (Str × Str)) (ks:List Nat):List (Str × Str):=ps++turn (sel ps ks)
theorem sel_mem {ps:List (Str × Str)} {ks:List Nat} {p:Str × Str}:p∈sel ps ks ↔ ∃ k∈ks,ps[k]?=some p:=by unfold sel;rw [List.mem_filterMap]
theorem sel_in {ns:List Str} {ps:List (Str × Str)} (h:InP ns ps) (ks:List Nat):InP ns (sel ps ks):=fun p hp=>by
 obtain ⟨k,_,e⟩:=sel_mem.mp hp
 exact h p (List.mem_of_getElem? e)
theorem gr_in {ns:List Str} {ps:List (Str × Str)} (h:InP ns ps) (ks:List Nat):InP ns (gr ps ks):=fun p hp=>(List.mem_append.mp hp).elim (h p) (turn_in (sel_in h ks) p)
theorem sel_len {ps:List (Str × Str)} (ks:List Nat):(sel ps ks).length<=ks.length:=List.length_filterMap_le _ _
theorem gr_len (ps:List (Str × Str)) (ks:List Nat):(gr ps ks).length<=ps.length+ks.length:=by unfold gr;rw [List.length_append,turn_len];have:=sel_len (ps:=ps) ks;omega
theorem sel_snoc (ps:List (Str × Str)) {ks:List Nat} {i k:Nat} {p:Str × Str} (e:ks[i]?=some k) (ep:ps[k]?=some p):sel ps (ks.take (i+1))=sel ps (ks.take i)++[p]:=by
 unfold sel
 rw [List.take_add_one,e,List.filterMap_append]
 congr 1
 simp [ep]
def Full (ms:List Str) (ps:List (Str × Str)) (ks:List Nat):Prop:=∀ a∈ms,∀ b∈ms,Rch (gr ps ks) a b
theorem rch_full {ns:List Str} {gs:List (Str × Str)} {a:Str} (nd:ns.Nodup):(rch ns gs a).length < ns.length ↔ ∃ b∈ns,¬ Rch gs a b:=by
 constructor
 ·intro h
  refine Classical.byContradiction fun q=>?_
  have:=L3.nd_len nd (m:=rch ns gs a) fun b hb=>rch_mem.mpr ⟨hb,Classical.byContradiction fun n=>q ⟨b,hb,n⟩⟩
  omega
 ·rintro ⟨b,hb,n⟩
  refine Classical.byContradiction fun q=>n ?_
  have p:=perm_of_sub (rch_nd (ps:=gs) (a:=a) nd) (fun z hz=>(rch_mem.mp hz).1) (by omega)
  exact (rch_mem.mp (p.mem_iff.mpr hb)).2
section
variable {P:Program} {w:World} {K:PySem.W.Frag} {mg:Str->Option Value} {base:Heap}
variable {C E1 fP fM fT fS fWh fL fTu fSp fCh fCL fFr fMB fMd fCMs:Addr} {fdP fdM fdT fdS fdWh fdL fdTu fdSp fdCh fdCL fdFr fdMB fdMd fdCMs:FuncData}
structure Nm (C:Addr) (H:Hp) (x l:Addr) (ms:List Str) (ps:List (Str × Str)) (ks:List Nat):Prop where
 web:WebObj C H x ms ps
 good:GoodW ms ps
 hl:H l=some (.lst (nV ks))
 lt:∀ k∈ks,k < ps.length
 few:ks.length<=31
theorem Nm.same {H H':Hp} {x l:Addr} {ms:List Str} {ps:List (Str × Str)} {ks:List Nat} (h:Nm C H x l ms ps ks) (s:Same H H'):Nm C H' x l ms ps ks:={ h with web:=h.web.same s,hl:=s _ _ h.hl }
theorem nmr_of {H:Hp} {x l:Addr} {ms:List Str} {ps:List (Str × Str)} {ks:List Nat} (web:WebObj C H x ms ps) (good:GoodW ms ps) (hl:H l=some (.lst (nV ks))) (r:Rs ps ks):Nm C H x l ms ps ks:=⟨web,good,hl,r.lt,Nat.le_trans r.len (Nat.le_trans good.few (by decide))⟩
def spFreed (C:Addr):Sp:=fun vs H Q _=>∃ (x l:Addr) (ms:List Str) (ps:List (Str × Str)) (ks:List Nat),vs=[.ref x,.ref l]/\Nm C H x l ms ps ks /\
 ∀ (d:Addr) (ls:List Addr) (H':Hp),StepsL H' d (srt ms) (gr ps ks) ls->Same H H'->Q (.ref d) H'
abbrev nFr:List Str:=["web","ties","turned"]
theorem scFr:FnScope nFr nWT (defScope sFreed):=⟨rfl,rfl,rfl,by decide +kernel,rfl,by decide +kernel,by decide +kernel⟩
theorem ok_freed {f:Addr} {fd:FuncData} (F:Fun K "freed" "freed" sFreed f fd) (M:Mh K mg C E1 fP fM fT fS fWh fdP fdM fdT fdS fdWh) (DL:Df K mg "leads" sLeads ["places","ties"] fL fdL) (DTu:Df K mg "turned_pairs" sTurned ["ties"] fTu fdTu) (T:Glb mg):FnOk P w K mg base CX0 3 f fd nWT (spFreed C):=by
 have GP:FnOk P w K mg base CX0 1 fP fdP ["self"] (spPl C):=ok_places M.m.pF M.m.wc T
 have GTi:FnOk P w K mg base CX0 1 fS fdS ["self"] (spTs C):=ok_ties M.m.sF M.m.wc T
 have GL:FnOk P w K mg base CX0 1 fL fdL ["places","ties"] spLeads:=ok_leads DL.fn T
 have GTu:FnOk P w K mg base CX0 1 fTu fdTu ["ties"] spTurned:=ok_turned DTu.fn T
 have GT:FnOk P w K mg base (CXO P w) 2 fT fdT ["self","k"] (spTieM (K:=K) C E1):=ok_tieM M.tF M.m.wc M.wh M.x1 T
 refine F.ok scFr (fun vs H Q E h=>?_) (fun cdv A outer s H vs Q E hr h=>?_)
 ·obtain ⟨x,l,ms,ps,ks,rfl,_⟩:=h
  rfl
 ·obtain ⟨x,l,ms,ps,ks,rfl,n,k⟩:=h
  have h1:=hr.mono (j:=1) (by decide)
  refine ⟨_,pss_cons (ps_set (i:=2) scFr.nd rfl (Or.inl rfl) (pe_call GTu h1 rfl DTu.mgf DTu.fn.kp DTu.b .nil pass0 (pa_cons (pe_lc ["k"] [0] rfl (compSc (osc:=(defScope sFreed).names) (N:=nFr) rfl rfl (by decide +kernel)) (gk_name (by decide)) (pi_list (pv 1))
     (fun _ _ _=>pg_name (i:=0) (show (["k","web"]:List Str).Nodup by decide +kernel) rfl (Or.inl rfl)) (fun _ _ _=>pifs_nil)
     (fun _ _ _=>pe_meth (pv 1) M.m.wc.cl M.tM GT hr M.tB .nil passN (pa_cons (pv 0) pa_nil))) pa_nil)))
   (pss_one (ps_ret (pe_call GL h1 rfl DL.mgf DL.fn.kp DL.b .nil pass0 (pa_cons (pe_meth0 (pv 0) M.m.wc.cl M.m.pM GP h1 M.m.pB .nil pass0) (pa_cons (pe_op op_cat (pe_meth0 (pv 0) M.m.wc.cl M.m.sM GTi h1 M.m.sB .nil pass0) (pv 2)) pa_nil))))),?_⟩
  have big:1000<=sizeLine:=by decide
  have few:=n.few
  have p30:=n.good.few
  obtain ⟨d0,f0,q0,r0⟩:=n.web.meth "tie"
  refine ⟨_,rfl,l,rfl,⟨_,SqL.of n.hl⟩,lc_list (K:=K) (xs:=nV ks) (fun i ys HH=>HH=H/\∃ us,ys=us.map V.ref/\TiesAt H us (sel ps (ks.take i))) ⟨rfl,[],rfl,.nil⟩ ?_ ?_ ?_ ?_⟩
  ·rintro i ys HH hi ⟨_,us,rfl,hU⟩
   rw [List.length_map,hU.len]
   exact Nat.le_trans (sel_len _) (by rw [List.length_take];omega)
  ·rintro i ys HH _ ⟨rfl,_⟩
   exact SqL.of n.hl
  ·rintro i v ys HH R hv ⟨rfl,us,rfl,hU⟩ kR
   unfold nV at hv
   rw [List.getElem?_map] at hv
   obtain ⟨j,ej,rfl⟩:=Option.map_eq_some_iff.mp hv
   have lj:=n.lt j (List.mem_of_getElem? ej)
   simp only [gName,tYes,if_true]
   refine ⟨_,rfl,x,d0,f0,rfl,q0,r0,_,rfl,x,ms,ps,_,rfl,n.web,.inl ⟨j,ps[j],rfl,List.getElem?_eq_getElem lj,fun t ht=>kR _ _ ⟨rfl,us++[t],by simp,?_⟩⟩⟩
   rw [sel_snoc ps ej (List.getElem?_eq_getElem lj)]
   exact TiesAt.snoc hU ht
  rintro ys HH ⟨rfl,us,rfl,hU⟩ D nD
  rw [nV_len,List.take_length] at hU
  have sD:=same_upd (o:=.lst (us.map V.ref)) nD
  have hD:=upd_same (H:=HH) (a:=D) (o:=.lst (us.map V.ref))
  have hU1:=hU.same sD
  generalize upd HH D (.lst (us.map V.ref))=H1 at sD hD hU1 ⊢
  have ls:=sel_len (ps:=ps) ks
  refine ⟨D,us,_,rfl,hD,hU1,by omega,fun l2 u2 H2 n2 h2 hT2 s2=>?_⟩
  have s02:=sD.trans s2
  obtain ⟨d1,f1,q1,r1⟩:=(n.web.same s02).meth "places"
  refine ⟨_,rfl,x,d1,f1,rfl,q1,r1,x,ms,ps,rfl,n.web.same s02,fun l3 n3=>?_⟩
  have s3:=same_upd (o:=.lst ((srt ms).map V.str)) n3
  have h3:=upd_same (H:=H2) (a:=l3) (o:=.lst ((srt ms).map V.str))
  generalize upd H2 l3 (.lst ((srt ms).map V.str))=H3 at s3 h3 ⊢
  have s03:=s02.trans s3
  obtain ⟨d2,f2,q2,r2⟩:=(n.web.same s03).meth "ties"
  refine ⟨_,rfl,x,d2,f2,rfl,q2,r2,x,ms,ps,rfl,n.web.same s03,fun l4 u4 n4 hT4=>?_⟩
  have s4:=same_upd (o:=.lst (u4.map V.ref)) n4
  have h4:=upd_same (H:=H3) (a:=l4) (o:=.lst (u4.map V.ref))
  have hT4':=hT4.same s4
  generalize upd H3 l4 (.lst (u4.map V.ref))=H4 at s4 h4 hT4' ⊢
  have s34:=s3.trans s4
  refine ⟨_,rfl,l4,l2,_,_,rfl,rfl,h4,s34 _ _ h2,?_,fun l5 n5=>?_⟩
  ·rw [List.length_map,List.length_map,hT4.len,hT2.len,turn_len]
   omega
  rw [<- List.map_append]
  have s5:=same_upd (o:=.lst ((u4++u2).map V.ref)) n5
  have h5:=upd_same (H:=H4) (a:=l5) (o:=.lst ((u4++u2).map V.ref))
  have hT5:TiesAt (upd H4 l5 (.lst ((u4++u2).map V.ref))) (u4++u2) (gr ps ks):=paired_append (hT4'.same s5) ((hT2.same s34).same s5)
  generalize upd H4 l5 (.lst ((u4++u2).map V.ref))=H5 at s5 h5 hT5 ⊢
  have lg:=gr_len ps ks
  refine ⟨l3,l5,srt ms,u4++u2,_,rfl,(s4.trans s5) _ _ h3,h5,hT5,srt_nd n.good.good.nd,by rw [srt_len];exact n.good.good.few,gr_in n.good.inS ks,by omega,fun d ls H6 hS s6=>k d ls H6 hS (s03.trans (s4.trans (s5.trans s6)))⟩
end
end K41
namespace L2
open PySem PySem.Spec PyProof.Rows
section
variable {X:Cx}
def rInsert:V->List V->Hp->VK->Prop:=fun x vs H Q=>∃ (l:Addr) (xs:List V) (i:Nat) (y:V),x=.ref l/\vs=[.int i,y]/\H l=some (.lst xs)/\i<=xs.length/\xs.length < sizeLine/\Q .non (upd H l (.lst (xs.take i++y::xs.drop i)))
theorem mt_insert:MtM X "list.insert" rInsert:=by
 intro pins s σ H x vs v us Q I rx rv h
 obtain ⟨l,xs,i,y,rfl,rfl,hH,hi,hz,q⟩:=h
 cases rx
 obtain ⟨u,u2,rfl,⟨t,rfl⟩,ru⟩:=vals2 rv
 obtain ⟨z,its,n,r,hl,e⟩:=I.lstM hH
 have lim:=Nat.lt_of_le_of_lt z line63
 have sz:its.toArray.size<=sizeLine:=by rw [List.size_toArray,<- hl];exact z
 have h1:-(2 ^ 63)<=(i:Int):=by omega
 have h2:(i:Int) < 2 ^ 63:=by omega
 have hneg:¬ ((i:Int) < 0):=by omega
 have htn:(i:Int).toNat=i:=Int.toNat_natCast i
 generalize (i:Int)=x at h1 h2 hneg htn ⊢
 have fit:¬ (!Builtin.List.listFitsIndex x)=true:=by
  rw [fitsIndex_both h1 h2]
  exact Bool.false_ne_true
 refine call_meets F.slot_list_insert ⟨_,e,rfl⟩ F.entry_list_insert (F.args_list_insert_3 _ _ _) (AutoSeq1.list_insert_list_int_val_1 l its.toArray n x t u2 fit sz) ⟨e,?_⟩
 refine ⟨.non,_,I.lset (its':=its.take i++u2::its.drop i) (ys:=xs.take i++y::xs.drop i) hH e ?_ ?_ ?_,rfl,q⟩
 ·simp only [hneg,if_false,htn,List.size_toArray]
  have hm:min i its.length=i:=by omega
  rw [hm]
  apply Array.toList_inj.mp
  simp
  rw [List.take_of_length_le (by simp)]
 ·exact (r.take i).append (.cons ru (r.drop i))
 ·rw [List.length_append,List.length_cons,List.length_take,List.length_drop]
  omega
end
end L2
namespace K41
open PySem PySem.Spec PyProof.Rows L2 L3
abbrev sHg:Stmt:=top 40 -- _law_hanging
theorem both_sym {ps:List (Str × Str)} {a b:Str} (h:Rch (both2 ps) a b):Rch (both2 ps) b a:=by
 have:=Rch.turned h
 refine this.mono fun p hp=>?_
 obtain ⟨x,y⟩:=p
 rw [turn_mem] at hp
 unfold both2 at hp ⊢
 rcases List.mem_append.mp hp with h | h
 ·exact List.mem_append_right _ (turn_mem.mpr h)
 ·exact List.mem_append_left _ (turn_mem.mp h)
theorem both_mono {ps qs:List (Str × Str)} {a b:Str} (h:Rch (both2 ps) a b) (s:∀ p∈ps,p∈qs):Rch (both2 qs) a b:=by
 refine h.mono fun p hp=>?_
 obtain ⟨x,y⟩:=p
 unfold both2 at hp ⊢
 rcases List.mem_append.mp hp with h | h
 ·exact List.mem_append_left _ (s _ h)
 ·exact List.mem_append_right _ (turn_mem.mpr (s _ (turn_mem.mp h)))
def Span (ms:List Str) (ps:List (Str × Str)) (i:Nat):Prop:=∀ j,j<=i->∀ z0 z,ms[0]?=some z0->ms[j]?=some z->Rch (both2 ps) z0 z
theorem span0 {ms:List Str} {ps:List (Str × Str)}:Span ms ps 0:=fun j hj z0 z e0 e=>by
 obtain rfl:j=0:=by omega
 rw [e0] at e;cases e;exact .here _
theorem Span.more {ms:List Str} {ps:List (Str × Str)} {i:Nat} (h:Span ms ps i) (q:Str × Str):Span ms (ps++[q]) i:=fun j hj z0 z e0 e=>both_mono (h j hj z0 z e0 e) fun p hp=>List.mem_append_left _ hp
theorem Span.next {ms:List Str} {ps:List (Str × Str)} {i j:Nat} (h:Span ms ps i) (hj:j<=i) {a b:Str} (ea:ms[j]?=some a) (eb:ms[i+1]?=some b) {q:Str × Str} (hq:q=(a,b)\/q=(b,a)):Span ms (ps++[q]) (i+1):=fun k hk z0 z e0 e=>by
 by_cases c:k<=i
 ·exact h.more q k c z0 z e0 e
 ·obtain rfl:k=i+1:=by omega
  rw [eb] at e;cases e
  refine (h.more q j hj z0 a e0 ea).trans (.one ?_)
  unfold both2
  rcases hq with rfl | rfl
  ·simp
  ·exact List.mem_append_right _ (turn_mem.mpr (by simp))
theorem Span.hangs {ms ns:List Str} {ps:List (Str × Str)} {i:Nat} (h:Span ms ps i) (hi:ms.length<=i+1) (pm:ms.Perm ns):Hangs ns ps:=by
 have key:∀ a∈ns,∀ z0,ms[0]?=some z0->Rch (both2 ps) z0 a:=fun a ha z0 e0=>by
  obtain ⟨j,hj,rfl⟩:=List.getElem_of_mem (pm.mem_iff.mpr ha)
  exact h j (by omega) z0 _ e0 (by simp [hj])
 intro a ha b hb
 have ha':=List.length_pos_of_mem (pm.mem_iff.mpr ha)
 have e0:ms[0]?=some ms[0]:=by simp [ha']
 exact (both_sym (key a ha _ e0)).trans (key b hb _ e0)
theorem Span.mono {ms:List Str} {ps qs:List (Str × Str)} {i:Nat} (h:Span ms ps i) (s:∀ p∈ps,p∈qs):Span ms qs i:=fun j hj z0 z e0 e=>both_mono (h j hj z0 z e0 e) s
theorem ins_mem {α:Type} {x:α} {l:List α} {d:Nat} {e:α}:x∈l.take d++e::l.drop d ↔ x∈l\/x=e:=by
 rw [List.mem_append,List.mem_cons]
 constructor
 ·rintro (h | h | h)
  ·exact .inl (List.mem_of_mem_take h)
  ·exact .inr h
  ·exact .inl (List.mem_of_mem_drop h)
 ·rintro (h | h)
  ·rw [<- List.take_append_drop d l] at h
   rcases List.mem_append.mp h with h | h
   ·exact .inl h
   ·exact .inr (.inr h)
  ·exact .inr (.inl h)
theorem paired_cut {α β:Type} {F:α->β->Prop}:∀ {a:List α} {b:List β} (d:Nat),Paired F a b->Paired F (a.take d) (b.take d)/\Paired F (a.drop d) (b.drop d)
 | _,_,0,h=>by simp only [List.take_zero,List.drop_zero];exact ⟨.nil,h⟩
 | _,_,d+1,.nil=>by simp only [List.take_nil,List.drop_nil];exact ⟨.nil,.nil⟩
 | _,_,d+1,.cons r t=>by
  simp only [List.take_succ_cons,List.drop_succ_cons]
  exact ⟨.cons r (paired_cut d t).1,(paired_cut d t).2⟩
structure Lw (H:Hp) (a b:Addr) (ms:List Str) (ps:List (Str × Str)) (ts:List Addr):Prop where
 ls:Lists H a b ms ps ts
 hh:Hangs ms ps
section
variable {P:Program} {w:World} {K:PySem.W.Frag} {mg:Str->Option Value} {base:Heap}
structure WI (p a b:Addr) (ns:List Str) (H:Hp) (i:Nat) (ps:List (Str × Str)) (ts:List Addr) (H2:Hp):Prop where
 row:Row H2 p
 but:But p H H2
 ha:H2 a=some (.lst (ns.map V.str))
 hb:H2 b=some (.lst (ts.map V.ref))
 ties:TiesAt H2 ts ps
 ins:InP ns ps
 len:ps.length=i
theorem WI.drawn {p a b:Addr} {ns:List Str} {H H2 H3:Hp} {i:Nat} {ps:List (Str × Str)} {ts:List Addr} (h:WI p a b ns H i ps ts H2) (s:But p H2 H3) (r:Row H3 p) (na:a≠p) (nb:b≠p):WI p a b ns H i ps ts H3 :=
 ⟨r,h.but.trans s,s _ _ h.ha na,s _ _ h.hb nb,h.ties.but s (fun ys z=>by obtain ⟨xs,e⟩:=h.row.lst;rw [e] at z;cases z),h.ins,h.len⟩
theorem WI.new {p a b:Addr} {ns:List Str} {H H2:Hp} {i:Nat} {ps:List (Str × Str)} {ts:List Addr} (h:WI p a b ns H i ps ts H2) {t:Addr} {o:HO} (ht:H2 t=none):WI p a b ns H i ps ts (upd H2 t o):=by
 have s:=same_upd (o:=o) ht
 have npt:p≠t:=ne_of_none h.row.lst.choose_spec ht
 exact ⟨h.row.upd_ne npt,h.but.upd_new (h.but.none ht (Ne.symm npt)),s _ _ h.ha,s _ _ h.hb,h.ties.same s,h.ins,h.len⟩
theorem WI.put {p a b t:Addr} {ns:List Str} {H H2:Hp} {i:Nat} {ps:List (Str × Str)} {ts:List Addr} (h:WI p a b ns H i ps ts H2) (d:Nat) {e:Str × Str} (ht:H2 t=some (.tup [.str e.1,.str e.2])) (h1:e.1∈ns) (h2:e.2∈ns) (hd:d<=i) (nb:b≠p) (na:a≠b) (Hb:H b=none) :
  WI p a b ns H (i+1) (ps.take d++e::ps.drop d) (ts.take d++t::ts.drop d) (upd H2 b (.lst ((ts.map V.ref).take d++V.ref t::(ts.map V.ref).drop d))):=by
 have ee:(ts.map V.ref).take d++V.ref t::(ts.map V.ref).drop d=(ts.take d++t::ts.drop d).map V.ref:=by simp
 rw [ee]
 refine ⟨h.row.upd_ne (Ne.symm nb),h.but.upd_new Hb,by rw [L2.upd_ne na];exact h.ha,upd_same,?_,?_,?_⟩
 ·have mv:∀ t' xs,H2 t'=some (.tup xs)->upd H2 b (.lst ((ts.take d++t::ts.drop d).map V.ref)) t'=some (.tup xs):=fun t' xs e'=>by
   rw [L2.upd_ne (ne_of e' h.hb (by intro z;cases z))];exact e'
  have c:=paired_cut d (h.ties.mono mv)
  exact paired_append c.1 (.cons (mv _ _ ht) c.2)
 ·intro z hz
  rcases ins_mem.mp hz with h' | h'
  ·exact h.ins z h'
  ·rw [h'];exact ⟨h1,h2⟩
 ·have:=h.len
  rw [List.length_append,List.length_cons,List.length_take,List.length_drop]
  omega
def spHg:Sp:=fun vs H Q _=>∃ (p:Addr) (m o:Int),vs=[.ref p,.int m,.int o]/\0 < m/\m<=12/\0 < o/\o<=100/\Row H p/\∀ (t a b:Addr) (ns:List Str) (ps:List (Str × Str)) (ts:List Addr) (H':Hp),Lw H' a b ns ps ts->a≠p->b≠p->H' t=some (.tup [.ref a,.ref b])->Row H' p->But p H H'->Q (.ref t) H'
abbrev nHg:List Str:=["_law_pot_here","_law_most","_law_more","_law_names_here","_law_forth","_law_ties","_law_k","_law_other","_law_turned","_law_i","_law_j"]
abbrev aHg:List Str:=["_law_pot_here","_law_most","_law_more"]
theorem scHg:FnScope nHg aHg (defScope sHg):=⟨rfl,rfl,rfl,by decide +kernel,rfl,by decide +kernel,by decide +kernel⟩
theorem ok_hg {f fD fW fN:Addr} {fd fdD fdW fdN:FuncData} (F:Fun K "_law_hanging" "_law_hanging" sHg f fd) (D:Df K mg "_law_draw" sTake ["_law_pot_here","_law_many"] fD fdD) (DW:Df K mg "_law_name" sWord ["_law_pot_here"] fW fdW)
  (DN:Df K mg "_law_names" sNames ["_law_pot_here","_law_most"] fN fdN) (T:Glb mg):FnOk P w K mg base CX0 4 f fd aHg spHg:=by
 have G:FnOk P w K mg base CX0 1 fD fdD ["_law_pot_here","_law_many"] spDraw:=ok_take D.fn T
 have GN:FnOk P w K mg base CX0 3 fN fdN ["_law_pot_here","_law_most"] spNames:=ok_names DN.fn D DW T
 refine F.ok scHg (fun vs H Q E h=>?_) (fun cdv A outer s H vs Q E hr h=>?_)
 ·obtain ⟨p,m,o,rfl,_⟩:=h
  rfl
 ·obtain ⟨p,m,o,rfl,m0,m12,o0,o100,hp,k⟩:=h
  have h1:=hr.mono (j:=1) (by decide)
  refine ⟨_,pss_cons (ps_set (i:=3) scHg.nd rfl (Or.inl rfl) (pe_call GN hr rfl DN.mgf DN.fn.kp DN.b .nil pass0 (pa_cons (pv 0) (pa_cons (pv 1) pa_nil))))
   (pss_cons (ps_set (i:=4) scHg.nd rfl (Or.inl rfl) (pe_cmpR op_eq (pe_call G h1 rfl D.mgf D.fn.kp D.b .nil pass0 (pa_cons (pv 0) (pa_cons pe_int pa_nil))) pe_int (nomark _)))
   (pss_cons (ps_set (i:=5) scHg.nd rfl (Or.inl rfl) (pe_lst pa_nil))
   (pss_cons (ps_for PassesOwn.never rfl (pi_range2 rfl T.range (pa_cons pe_int (pa_cons (pe_callB call_len_seq (by rfl) T.len PySem.boot_len (pa_cons (pv 3) pa_nil)) pa_nil))) (pg_name (i:=6) scHg.nd rfl (Or.inl rfl))
    (pss_cons (ps_set (i:=7) scHg.nd rfl (Or.inl rfl) (pe_ix ix_list (pv 3) (pe_call G h1 rfl D.mgf D.fn.kp D.b .nil pass0 (pa_cons (pv 0) (pa_cons (pv 6) pa_nil))) (fun _ _=>rfl)))
    (pss_cons (ps_set (i:=8) scHg.nd rfl (Or.inl rfl) (pe_and (pe_cmpR op_eq (pe_call G h1 rfl D.mgf D.fn.kp D.b .nil pass0 (pa_cons (pv 0) (pa_cons pe_int pa_nil))) pe_int (nomark _)) (pe_one (pe_not (pv 4)))))
    (pss_one (ps_expr (pe_bm PySem.F.plainAttrs_list PySem.F.slot_list_insert PySem.F.type_list_insert mt_insert (pv 5) (pa_cons (pe_call G h1 rfl D.mgf D.fn.kp D.b .nil pass0 (pa_cons (pv 0) (pa_cons (pv 6) pa_nil))) (pa_cons
     (pe_ifExp (pt_val (pv 8) (fun _=>rfl)) (pe_tup (pa_cons (pe_ix ix_list (pv 3) (pv 6) (fun _ _=>rfl)) (pa_cons (pv 7) pa_nil))) (pe_tup (pa_cons (pv 7) (pa_cons (pe_ix ix_list (pv 3) (pv 6) (fun _ _=>rfl)) pa_nil)))) pa_nil))))))))
   (pss_cons (ps_for PassesOwn.never rfl (pi_range1 rfl T.range (pa_cons (pe_call G h1 rfl D.mgf D.fn.kp D.b .nil pass0 (pa_cons (pv 0) (pa_cons (pe_callB (call_min2 rfl) (by rfl) T.min boot_min (pa_cons (pv 2) (pa_cons (pe_op op_sub pe_int (pe_callB call_len_seq (by rfl) T.len PySem.boot_len (pa_cons (pv 5) pa_nil))) pa_nil))) pa_nil))) pa_nil)) (pg_name (i:=6) scHg.nd rfl (Or.inl rfl))
    (pss_cons (ps_par rfl scHg.nd rfl rfl (i:=9) (j:=10) (by decide) rfl rfl (pa_cons (pe_call G h1 rfl D.mgf D.fn.kp D.b .nil pass0 (pa_cons (pv 0) (pa_cons (pe_callB call_len_seq (by rfl) T.len PySem.boot_len (pa_cons (pv 3) pa_nil)) pa_nil))) (pa_cons (pe_call G h1 rfl D.mgf D.fn.kp D.b .nil pass0 (pa_cons (pv 0) (pa_cons (pe_callB call_len_seq (by rfl) T.len PySem.boot_len (pa_cons (pv 3) pa_nil)) pa_nil))) pa_nil)) rfl)
    (pss_cons (ps_if (pt_val (pv 4) (fun _=>rfl)) (pss_one (ps_par rfl scHg.nd rfl rfl (i:=9) (j:=10) (by decide) rfl rfl (pa_cons (pe_callB (call_min2 rfl) (by rfl) T.min boot_min (pa_cons (pv 9) (pa_cons (pv 10) pa_nil))) (pa_cons (pe_callB (call_max2 rfl) (by rfl) T.max boot_max (pa_cons (pv 9) (pa_cons (pv 10) pa_nil))) pa_nil)) rfl)) pss_nil)
    (pss_one (ps_expr (pe_bm PySem.F.plainAttrs_list PySem.F.slot_list_insert PySem.F.type_list_insert mt_insert (pv 5) (pa_cons (pe_call G h1 rfl D.mgf D.fn.kp D.b .nil pass0 (pa_cons (pv 0) (pa_cons (pe_op op_add (pe_callB call_len_seq (by rfl) T.len PySem.boot_len (pa_cons (pv 5) pa_nil)) pe_int) pa_nil))) (pa_cons
     (pe_tup (pa_cons (pe_ix ix_list (pv 3) (pv 9) (fun _ _=>rfl)) (pa_cons (pe_ix ix_list (pv 3) (pv 10) (fun _ _=>rfl)) pa_nil))) pa_nil))))))))
   (pss_one (ps_ret (pe_tup (pa_cons (pv 3) (pa_cons (pv 5) pa_nil))))))))),?_⟩
  have big:1000<=sizeLine:=by decide
  have nep:∀ {HH:Hp} {q:Addr},Row HH p->HH q=none->q≠p:=fun r n e=>by obtain ⟨x,y,z⟩:=r;rw [e,z] at n;cases n
  refine ⟨_,rfl,_,rfl,p,m,rfl,m0,m12,hp,fun a ns H2 good na ha r2 b2=>?_⟩
  have nap:=nep hp na
  refine ⟨_,rfl,p,3,rfl,r2,by decide,by decide,fun d0 H3 _ _ r3 b3=>⟨rfl,?_⟩⟩
  generalize decide (V.int d0=V.int 1)=fo
  have b03:=b2.trans b3
  have ha3:=b3 _ _ ha nap
  refine ⟨(by decide),fun b nb=>?_⟩
  have nbp:=nep r3 nb
  have nab:a≠b:=ne_of_none ha3 nb
  have Hb:H b=none:=b03.none nb nbp
  have W0:WI p a b ns H 0 [] [] (upd H3 b (.lst [])):=⟨r3.upd_ne (Ne.symm nbp),b03.upd_new Hb,by rw [L2.upd_ne nab];exact ha3,upd_same,.nil,(fun _ z=>nomatch z),rfl⟩
  have few:=good.few
  have one:=good.one
  refine ⟨_,rfl,a,_,rfl,.inl (SqL.of W0.ha),?_⟩
  rw [List.length_map]
  refine ⟨_,_,rfl,⟨by decide,by decide,by omega,by omega⟩,?_⟩
  refine for_range (fun i σ HH=>∃ v6 v7 v8 v9 v10 ps ts,σ=[some (.ref p),some (.int m),some (.int o),some (.ref a),some (.bl fo),some (.ref b),v6,v7,v8,v9,v10]/\WI p a b ns H i ps ts HH/\Span ns ps i) ⟨_,_,_,_,_,[],[],rfl,W0,span0⟩ ?_ ?_
  ·rintro i σ H5 hi ⟨v6,v7,v8,v9,v10,ps,ts,rfl,W5,S5⟩
   have hi':i+1 < ns.length:=by omega
   refine ⟨_,rfl,_,rfl,_,rfl,p,_,rfl,W5.row,by omega,by omega,fun j H6 j1 j2 r6 b6=>?_⟩
   have W6:=W5.drawn b6 r6 nap nbp
   obtain ⟨n,rfl⟩:=Int.eq_ofNat_of_zero_le j1
   have hn:n < ns.length:=by omega
   have e1:(1+(i:Int))=((i+1:Nat):Int):=by omega
   have at1:atI (ns.map V.str) (1+(i:Int))=some (V.str ns[i+1]):=by rw [e1];exact atI_nat (j:=i+1) (by simp [hi'])
   have at2:atI (ns.map V.str) (n:Int)=some (V.str ns[n]):=atI_nat (j:=n) (by simp [hn])
   refine ⟨a,_,_,_,rfl,rfl,SqL.of W6.ha,at2,?_⟩
   refine ⟨_,rfl,p,2,rfl,W6.row,by decide,by decide,fun d1 H7 _ _ r7 b7=>⟨rfl,_,rfl,?_⟩⟩
   have W7:=W6.drawn b7 r7 nap nbp
   have fin:∀ (H8:Hp) (e:Str × Str) (t:Addr) (d:Nat),d<=i->WI p a b ns H i ps ts H8->H8 t=some (.tup [.str e.1,.str e.2])->(e=(ns[n],ns[i+1])\/e=(ns[i+1],ns[n])) ->
     ∃ ps' ts',WI p a b ns H (i+1) ps' ts' (upd H8 b (.lst ((ts.map V.ref).take d++V.ref t::(ts.map V.ref).drop d)))/\Span ns ps' (i+1):=by
    intro H8 e t d hd W8 ht he
    have i1:ns[i+1]∈ns:=List.getElem_mem hi'
    have i2:ns[n]∈ns:=List.getElem_mem hn
    refine ⟨_,_,W8.put d ht (by rcases he with rfl | rfl;exact i2;exact i1) (by rcases he with rfl | rfl;exact i1;exact i2) hd nbp nab Hb,?_⟩
    refine (S5.next (j:=n) (show n<=i by omega) (by simp [hn]) (by simp [hi']) he).mono fun q hq=>?_
    rcases List.mem_append.mp hq with h | h
    ·exact ins_mem.mpr (.inl h)
    ·exact ins_mem.mpr (.inr (List.mem_singleton.mp h))
   refine ite2 (fun _=>⟨_,rfl,_,rfl,?_⟩) (fun _=>?_)
   all_goals
    refine ⟨_,rfl,.inl ⟨rfl,_,SqL.of W7.hb⟩,_,rfl,_,rfl,p,_,rfl,W7.row,by omega,by omega,fun d2 H8 d2a d2b r8 b8=>?_⟩
    have W8:=W7.drawn b8 r8 nap nbp
    obtain ⟨dn,rfl⟩:=Int.eq_ofNat_of_zero_le d2a
    have lts:ts.length=i:=by rw [W8.ties.len,W8.len]
    have fz:dn<=(ts.map V.ref).length:=by rw [List.length_map];omega
    have fl:(ts.map V.ref).length < sizeLine:=by rw [List.length_map];omega
    refine ⟨_,rfl,_,rfl,?_⟩
    refine ite2 (fun _=>?_) (fun _=>?_)
    ·refine ⟨_,rfl,_,rfl,a,_,_,_,rfl,rfl,SqL.of W8.ha,at1,_,rfl,(by show 2<=sizeLine;decide),fun t nt=>?_⟩
     obtain ⟨ps',ts',W9,S9⟩:=fin _ (ns[i+1],ns[n]) t dn (by omega) (W8.new nt) upd_same (.inr rfl)
     exact ⟨b,_,dn,_,rfl,rfl,(W8.new nt).hb,fz,fl,_,_,_,_,_,ps',ts',rfl,W9,S9⟩
    ·refine ⟨_,rfl,_,rfl,_,rfl,a,_,_,_,rfl,rfl,SqL.of W8.ha,at1,(by show 2<=sizeLine;decide),fun t nt=>?_⟩
     obtain ⟨ps',ts',W9,S9⟩:=fin _ (ns[n],ns[i+1]) t dn (by omega) (W8.new nt) upd_same (.inl rfl)
     exact ⟨b,_,dn,_,rfl,rfl,(W8.new nt).hb,fz,fl,_,_,_,_,_,ps',ts',rfl,W9,S9⟩
  ·rintro σ H5 ⟨v6,v7,v8,v9,v10,ps,ts,rfl,W5,S5⟩
   have eN:((ns.length:Int) - 1).toNat=ns.length - 1:=by omega
   rw [eN] at W5 S5
   have hh:Hangs ns ps:=S5.hangs (by omega) (.refl _)
   have lts:ts.length=ns.length - 1:=by rw [W5.ties.len,W5.len]
   refine ⟨_,rfl,_,rfl,_,rfl,b,_,rfl,.inl (SqL.of W5.hb),_,_,rfl,rfl,_,_,rfl,p,_,rfl,W5.row,?_,?_,fun d H6 d0 d1 r6 b6=>?_⟩
   ·rw [List.length_map,lts];split<;>omega
   ·rw [List.length_map,lts];split<;>omega
   rw [List.length_map,lts] at d1
   have d2:d < 31 - ((ns.length - 1:Nat):Int):=by split at d1<;>omega
   obtain ⟨dn,rfl⟩:=Int.eq_ofNat_of_zero_le d0
   have W6:=W5.drawn b6 r6 nap nbp
   refine ⟨_,rfl,by omega,by omega,?_⟩
   rw [Int.toNat_natCast]
   refine for_range (fun i σ HH=>∃ v6 v7 v8 v9 v10 ps ts,σ=[some (.ref p),some (.int m),some (.int o),some (.ref a),some (.bl fo),some (.ref b),v6,v7,v8,v9,v10]/\WI p a b ns H (ns.length - 1+i) ps ts HH/\Hangs ns ps) ⟨_,_,_,_,_,ps,ts,rfl,W6,hh⟩ ?_ ?_
   ·rintro i σ H7 hi ⟨v6,v7,v8,v9,v10,ps,ts,rfl,W7,h7⟩
    have hlen:((ns.map V.str).length:Int)=ns.length:=by rw [List.length_map]
    refine ⟨_,rfl,_,rfl,a,_,rfl,.inl (SqL.of W7.ha),p,_,rfl,W7.row,by rw [hlen];omega,by rw [hlen];omega,fun i0 H8 i1 i2 r8 b8=>?_⟩
    have W8:=W7.drawn b8 r8 nap nbp
    refine ⟨_,rfl,_,rfl,a,_,rfl,.inl (SqL.of W8.ha),p,_,rfl,W8.row,by rw [hlen];omega,by rw [hlen];omega,fun j0 H9 j1 j2 r9 b9=>?_⟩
    have W9:=W8.drawn b9 r9 nap nbp
    rw [hlen] at i2 j2
    refine ⟨_,_,rfl,?_⟩
    have mn:∃ x:Nat,(x:Int)=(if j0 < i0 then j0 else i0)/\x < ns.length:=⟨(if j0 < i0 then j0 else i0).toNat,by split<;>omega,by split<;>omega⟩
    have mx:∃ x:Nat,(x:Int)=(if j0 > i0 then j0 else i0)/\x < ns.length:=⟨(if j0 > i0 then j0 else i0).toNat,by split<;>omega,by split<;>omega⟩
    have si:∃ x:Nat,(x:Int)=i0/\x < ns.length:=⟨i0.toNat,by omega,by omega⟩
    have sj:∃ x:Nat,(x:Int)=j0/\x < ns.length:=⟨j0.toNat,by omega,by omega⟩
    have lt7:ts.length=ns.length - 1+i:=by rw [W9.ties.len,W9.len]
    refine ⟨_,rfl,_,rfl,?_⟩
    refine ite2 (fun _=>⟨_,rfl,_,rfl,_,_,rfl,_,rfl,_,rfl,_,_,rfl,_,_,rfl,?_⟩) (fun _=>?_)
    ·obtain ⟨x,ex,lx⟩:=mn
     obtain ⟨y,ey,ly⟩:=mx
     rw [<- ex,<- ey]
     refine ⟨_,rfl,.inl ⟨rfl,_,SqL.of W9.hb⟩,_,rfl,_,rfl,b,_,rfl,.inl (SqL.of W9.hb),_,_,rfl,rfl,p,_,rfl,W9.row,by rw [List.length_map];omega,by rw [List.length_map];omega,fun d3 HA d3a d3b rA bA=>?_⟩
     rw [List.length_map] at d3b
     have WA:=W9.drawn bA rA nap nbp
     obtain ⟨d3n,rfl⟩:=Int.eq_ofNat_of_zero_le d3a
     refine ⟨_,rfl,_,rfl,a,_,_,_,rfl,rfl,SqL.of WA.ha,atI_nat (j:=x) (v:=.str ns[x]) (by simp [lx]),_,rfl,_,rfl,a,_,_,_,rfl,rfl,SqL.of WA.ha,atI_nat (j:=y) (v:=.str ns[y]) (by simp [ly]),(by show 2<=sizeLine;decide),fun t nt=>?_⟩
     have WB:=(WA.new nt).put d3n (e:=(ns[x],ns[y])) upd_same (List.getElem_mem lx) (List.getElem_mem ly) (by omega) nbp nab Hb
     exact ⟨b,_,d3n,_,rfl,rfl,(WA.new nt).hb,by rw [List.length_map];omega,by rw [List.length_map];omega,_,_,_,_,_,_,_,rfl,WB,fun u hu v hv=>both_mono (h7 u hu v hv) fun q hq=>ins_mem.mpr (.inl hq)⟩
    ·obtain ⟨x,ex,lx⟩:=si
     obtain ⟨y,ey,ly⟩:=sj
     rw [<- ex,<- ey]
     refine ⟨_,rfl,.inl ⟨rfl,_,SqL.of W9.hb⟩,_,rfl,_,rfl,b,_,rfl,.inl (SqL.of W9.hb),_,_,rfl,rfl,p,_,rfl,W9.row,by rw [List.length_map];omega,by rw [List.length_map];omega,fun d3 HA d3a d3b rA bA=>?_⟩
     rw [List.length_map] at d3b
     have WA:=W9.drawn bA rA nap nbp
     obtain ⟨d3n,rfl⟩:=Int.eq_ofNat_of_zero_le d3a
     refine ⟨_,rfl,_,rfl,a,_,_,_,rfl,rfl,SqL.of WA.ha,atI_nat (j:=x) (v:=.str ns[x]) (by simp [lx]),_,rfl,_,rfl,a,_,_,_,rfl,rfl,SqL.of WA.ha,atI_nat (j:=y) (v:=.str ns[y]) (by simp [ly]),(by show 2<=sizeLine;decide),fun t nt=>?_⟩
     have WB:=(WA.new nt).put d3n (e:=(ns[x],ns[y])) upd_same (List.getElem_mem lx) (List.getElem_mem ly) (by omega) nbp nab Hb
     exact ⟨b,_,d3n,_,rfl,rfl,(WA.new nt).hb,by rw [List.length_map];omega,by rw [List.length_map];omega,_,_,_,_,_,_,_,rfl,WB,fun u hu v hv=>both_mono (h7 u hu v hv) fun q hq=>ins_mem.mpr (.inl hq)⟩
   ·rintro σ H7 ⟨v6,v7,v8,v9,v10,ps,ts,rfl,W7,h7⟩
    refine ⟨_,rfl,_,rfl,(by show 2<=sizeLine;decide),fun tq ntq=>?_⟩
    have WF:=W7.new (o:=.tup [.ref a,.ref b]) ntq
    exact k tq a b ns ps ts _ ⟨⟨WF.ha,WF.hb,WF.ties,good,WF.ins,by rw [WF.len];omega⟩,h7⟩ nap nbp upd_same WF.row WF.but
end
end K41
namespace L6
open PySem PySem.Spec PyProof.Rows L2
def DK (h h':Heap):Prop:=∀ b o,h.get? b=some o->∃ o',h'.get? b=some o'/\o'.dict=o.dict
theorem DK.refl (h:Heap):DK h h:=fun b o e=>⟨o,e,rfl⟩
theorem DK.trans {h h1 h2:Heap} (a:DK h h1) (b:DK h1 h2):DK h h2:=fun c o e=>by
 obtain ⟨o1,e1,d1⟩:=a c o e
 obtain ⟨o2,e2,d2⟩:=b c o1 e1
 exact ⟨o2,e2,d2.trans d1⟩
def KpD (f:Obj->Obj):Prop:=∀ o,(f o).dict=o.dict/\(o.isFreed=false->(f o).isFreed=false)
theorem alive {h:Heap} {b:Addr} {o:Obj} (e:h.get? b=some o):o.isFreed=false:=(Heap.get?_some_iff.mp e).2
theorem DK.update {h:Heap} {a:Addr} {f:Obj->Obj} (k:KpD f):DK h (h.update a f):=fun b o e=>by
 by_cases q:b=a
 ·subst q
  exact ⟨f o,Heap.get?_update_self f e ((k o).2 (alive e)),(k o).1⟩
 ·exact ⟨o,(Heap.get?_update_other _ _ (Ne.symm q)).trans e,rfl⟩
inductive KD:{α:Type}->Sem α->Prop where
 | pure {α:Type} (a:α):KD (.pure a)
 | raise {α:Type} (e:Value):KD (.raise e:Sem α)
 | uns {α:Type} (w:String):KD (.unsupported w:Sem α)
 | rule {α:Type} {t:String} {k:Unit->Sem α} (h:∀ u,KD (k u)):KD (.rule t k)
 | at {α:Type} {p:Pos} {k:Unit->Sem α} (h:∀ u,KD (k u)):KD (.at p k)
 | load {α:Type} {a:Addr} {p:Option Value} {k:Obj->Sem α} (h:∀ u,KD (k u)):KD (.load a p k)
 | update {α:Type} {a:Addr} {p:Option Value} {f:Obj->Obj} {k:Unit->Sem α} (g:KpD f) (h:∀ u,KD (k u)):KD (.update a p f k)
 | alloc {α:Type} {o:Obj} {k:Addr->Sem α} (h:∀ u,KD (k u)):KD (.alloc o k)
 | point {α:Type} {l:List Value} {k:Unit->Sem α} (h:∀ u,KD (k u)):KD (.point l k)
 | ask {α:Type} {k:Setting->Sem α} (h:∀ u,KD (k u)):KD (.ask k)
 | stack {α:Type} {k:List (Code × Pos)->Sem α} (h:∀ u,KD (k u)):KD (.stack k)
theorem KD.bind {α β:Type} {t:Sem α} {f:α->Sem β} (h:KD t) (g:∀ a,KD (f a)):KD (t >>= f):=by
 show KD (Sem.bind t f)
 induction h with
 | pure a=>exact g a
 | raise e=>exact .raise e
 | uns w=>exact .uns w
 | rule _ ih=>exact .rule fun u=>ih u
 | «at» _ ih=>exact .at fun u=>ih u
 | load _ ih=>exact .load fun u=>ih u
 | update k _ ih=>exact .update k fun u=>ih u
 | alloc _ ih=>exact .alloc fun u=>ih u
 | point _ ih=>exact .point fun u=>ih u
 | ask _ ih=>exact .ask fun u=>ih u
 | stack _ ih=>exact .stack fun u=>ih u
theorem KD.wp {α:Type} {M:Model} {Γ:PySem.Ctx} {t:Sem α} (h:KD t):∀ {Q:α->Pos->Shared->Prop} {E:Value->Pos->Shared->Prop} {p:Pos} {s:Shared},Sem.wp M Γ t Q E p s->Sem.wp M Γ t (fun a p s'=>Q a p s'/\DK s.heap s'.heap) (fun e p s'=>E e p s'/\DK s.heap s'.heap) p s:=by
 induction h with
 | pure a=>intro Q E p s q;exact ⟨q,DK.refl _⟩
 | raise e=>intro Q E p s q;exact ⟨q,DK.refl _⟩
 | uns w=>intro Q E p s q;exact q
 | rule _ ih=>intro Q E p s q;exact ih () q
 | «at» _ ih=>intro Q E p s q;exact ih () q
 | load _ ih=>intro Q E p s q;obtain ⟨o,e,q⟩:=q;exact ⟨o,e,ih o q⟩
 | @update a pt f k g _ ih =>
  intro Q E p s q
  obtain ⟨e,q⟩:=q
  refine ⟨e,Sem.wp_mono M Γ _ (fun x p' s' z=>⟨z.1,DK.trans (DK.update g) z.2⟩) (fun x p' s' z=>⟨z.1,DK.trans (DK.update g) z.2⟩) _ _ (ih () q)⟩
 | @alloc o k _ ih =>
  intro Q E p s q
  have dk:DK s.heap (s.heap.push o):=fun b o' e=>⟨o',Heap.get?_push_of_some _ e,rfl⟩
  exact Sem.wp_mono M Γ _ (fun x p' s' z=>⟨z.1,DK.trans dk z.2⟩) (fun x p' s' z=>⟨z.1,DK.trans dk z.2⟩) _ _ (ih _ q)
 | point _ ih=>intro Q E p s q;exact ih () q
 | ask _ ih=>intro Q E p s q;exact ih _ q
 | stack _ ih=>intro Q E p s q;exact ih _ q
theorem KD.any {α:Type} {M:Model} {A:Around} {t:Sem α} {Q:α->Shared->Prop} {E:Value->Shared->Prop} {s:Shared} (h:KD t) (q:wpAny M A t Q E s):wpAny M A t (fun a s'=>Q a s'/\DK s.heap s'.heap) (fun e s'=>E e s'/\DK s.heap s'.heap) s :=
 fun Γ p hΓ=>h.wp (q Γ p hΓ)
theorem kpd_fields (g:Array Value->Array Value):KpD (Obj.mapFields g):=fun o=>by
 obtain ⟨c,d,dt,sl⟩:=o
 cases dt<;>exact ⟨rfl,fun h=>h⟩
theorem kpd_slots (g:Obj->Array (Option Value)):KpD (fun o=>{ o with slots:=g o }):=fun o=>by
 obtain ⟨c,d,dt,sl⟩:=o
 cases dt<;>exact ⟨rfl,fun h=>h⟩
theorem kd_load (a:Addr):KD (load a):=.load fun u=>.pure u
theorem kd_stack:KD stack:=.stack fun u=>.pure u
theorem kd_fieldsOf (v:Value):KD (fieldsOf v):=by
 unfold fieldsOf
 split
 ·refine (kd_load _).bind fun o=>?_
  split
  ·exact .pure _
  ·exact .uns _
 ·exact .uns _
theorem kd_field (v:Value) (i:Nat):KD (field v i):=by
 unfold field
 refine (kd_fieldsOf v).bind fun vs=>?_
 split
 ·exact .pure _
 ·exact .uns _
theorem kd_setField (v:Value) (i:Nat) (x:Value):KD (setField v i x):=by
 unfold setField
 split
 ·unfold updateField
  refine (kd_load _).bind fun o=>?_
  split
  ·split
   ·exact .update (kpd_fields _) fun u=>.pure u
   ·exact .uns _
  ·exact .uns _
 ·exact .uns _
theorem kd_setFlight (e:Value) (f:Option Addr):KD (setFlight e f):=by
 unfold setFlight
 refine (kd_field _ _).bind fun tb=>?_
 split
 ·exact kd_setField _ _ _
 ·exact .pure _
theorem kd_frameEnvs:KD frameEnvs:=by
 unfold frameEnvs
 exact kd_stack.bind fun u=>.pure _
theorem kd_under:KD underTheClaimsCaller:=by
 unfold underTheClaimsCaller
 exact kd_stack.bind fun u=>.pure _
theorem kd_behind (env:Env) (outer:List Env):KD (behindIsImport env outer):=by
 unfold behindIsImport
 split
 ·exact .pure _
 ·split
  ·exact .pure _
  ·exact (kd_field _ _).bind fun v=>.pure _
theorem kd_kept (env:Env) (i:Bool) (l:List Env):KD (keptBack env i l):=by
 unfold keptBack
 split
 ·split
  ·exact .pure _
  ·exact kd_under.bind fun b=>.pure _
 ·exact .pure _
theorem kd_ready:∀ l:List Env,KD (readyFrames l)
 | []=>.pure _
 | env::outer=>by
  unfold readyFrames
  split
  ·refine (kd_load _).bind fun o=>?_
   split
   ·exact .pure _
   ·refine (kd_behind _ _).bind fun i=>(kd_kept _ _ _).bind fun b=>?_
    exact KD.bind (.update (kpd_slots _) fun u=>.pure u) fun _=>kd_ready outer
  ·exact .uns _
theorem kd_frameObject (l:List Env):KD (frameObject l):=by
 unfold frameObject
 split
 ·exact .pure _
 ·exact (kd_ready _).bind fun _=>.pure _
theorem kd_frameOf (env:Env):KD (PySem.frameOf env):=by
 unfold PySem.frameOf
 refine kd_frameEnvs.bind fun l=>(kd_frameObject _).bind fun f=>?_
 split
 ·exact .pure _
 ·exact .uns _
theorem kd_place (f:Addr) (b:Bool):KD (entryPlaceOf f b):=by
 unfold entryPlaceOf
 refine kd_stack.bind fun acts=>?_
 split<;>exact .pure _
theorem kd_fieldsNew (vs:List Value):KD (newFields "traceback" vs):=by
 unfold newFields newObj
 dsimp only
 split
 ·exact KD.bind (.uns _) fun _=>KD.bind (.alloc fun u=>.pure u) fun a=>.pure _
 ·exact KD.bind (.alloc fun u=>.pure u) fun a=>.pure _
theorem kd_newEntry (a b c d e:Value) (l:List Value):KD (EntryCells.newEntry a b c d e l):=kd_fieldsNew _
theorem kd_note (e:Value) (env:Env):KD (noteFrame e env):=by
 unfold noteFrame
 split
 ·refine (kd_field _ _).bind fun hd=>?_
  have tail:KD (do let a <- PySem.frameOf env;let pl <- entryPlaceOf ‹Addr› (hd != .none);let b <- EntryCells.newEntry hd a .none (rawInt ‹Addr›) .none pl;setField e 1 b) :=
   (kd_frameOf _).bind fun a=>(kd_place _ _).bind fun pl=>(kd_newEntry _ _ _ _ _ _).bind fun b=>kd_setField _ _ _
  split
  ·refine (kd_field _ _).bind fun x=>?_
   split
   ·exact .pure _
   ·exact (kd_setField _ _ _).bind fun _=>tail
  ·exact tail
 ·exact .uns _
theorem kd_leaving (env:Env) (e:Value):KD (leaving env e):=by
 unfold leaving
 exact (kd_note _ _).bind fun _=>kd_setFlight _ _
open PySem PySem.Spec PyProof.Rows L2 Builtin Builtin.ObjectAttr
def xcIn (K:PySem.W.Frag) (C:Addr) (bmB:List Value) (newId:String) (fI:Addr):Bool :=
 match K.lookup C with
 | some ⟨.type "type",_,.cls kd,zs⟩ =>
  (match kd.mro,zs.toList with
  | .ref D::tl,[_,_,_,_,some (.builtin n),_] =>
   D == C && n == newId && !kd.hasDel && PySem.W.tailIn K bmB tl && PySem.W.nsOkIn K kd.ns && PySem.W.nsIn K kd.ns "__init__" == some (some (.ref fI)) && kd.hasDict
  | _,_=>false)
 | _=>false
theorem ns_some {K:PySem.W.Frag} {h:Heap} {N:Addr} {m:Str->Option Value} {n:Str} {v:Value} (X:K.In h) (G:h.Ns N m) (e:PySem.W.nsIn K N n=some (some v)):m n=some v:=by
 obtain ⟨o,es,ep,ho,hd,_,hf⟩:=G
 unfold PySem.W.nsIn at e
 split at e
 ·rename_i c d es' n' sl q
  have z:=X _ _ q
  rw [ho] at z
  cases z
  cases hd
  split at e
  ·rename_i en he
   cases e
   rw [<- hf]
   unfold nsFind findBy
   rw [<- Array.find?_toList,he]
   rfl
  ·split at e<;>cases e
 ·cases e
structure XOwn (h:Heap) (C:Addr) (bmB:List Value) (newId:String) (fI:Addr):Prop where
 obj:∃ (tl:List Value) (Nn:Addr) (nm q:Str) (bs:List Value) (sn:List Str) (sub:List Value) (ab:Bool) (col:Option Bool) (dd:Option Addr) (k0 k1 k2 k3 k5:Option Value) (mN:Str->Option Value),
  h.get? C=some (excClassObj nm q C Nn bs tl true sn sub ab col dd k0 k1 k2 k3 k5 newId)/\h.Ns Nn mN/\mN "__init__" = some (.ref fI)/\OwnTail h bmB tl
theorem xown {K:PySem.W.Frag} {h:Heap} {C fI:Addr} {bmB:List Value} {newId:String} (X:K.In h) (q:xcIn K C bmB newId fI=true):XOwn h C bmB newId fI:=by
 have no:∀ {P:Prop},false=true->P:=fun z=>absurd z Bool.false_ne_true
 unfold xcIn at q
 split at q<;>first | exact no q | skip
 next dict data slots found =>
 split at q<;>first | exact no q | skip
 next first above w0 w1 w2 w3 made w5 order listed =>
 simp only [Bool.and_eq_true] at q
 obtain ⟨⟨⟨⟨⟨⟨isC,isNew⟩,noDel⟩,tail⟩,ok⟩,init⟩,hasD⟩:=q
 have eC:first=C:=beq_iff_eq.mp isC
 have eN:made=newId:=beq_iff_eq.mp isNew
 have eD:data.hasDel=false:=by simpa using noDel
 have eS:slots=#[w0,w1,w2,w3,some (.builtin made),w5]:=Array.toList_inj.mp (by rw [listed])
 cases data
 simp only at order eD hasD
 subst eC eN order eD eS hasD
 exact ⟨above,_,_,_,_,_,_,_,_,dict,w0,w1,w2,w3,w5,_,X _ _ found,.of_isNs (PySem.W.isNs_of_in X ok),ns_some X (.of_isNs (PySem.W.isNs_of_in X ok)) (by simpa using init),PySem.W.tail_of_in X tail⟩
abbrev newExc (C:Addr) (t:Addr) (d:Option Addr):Obj:={ cls:=.ref C,dict:=d,data:=.fields #[.ref t,.none,.none,.none,.bool false,.none] }
section
variable {prog:Program} {w:World} {A:Around} {E:Value->Shared->Prop} {h:Heap} {g:Array GenState} {d:Drawn} {t:Nat} {os:OsState}
variable {nm q:Str} {C N:Addr} {bs bm bmB:List Value} {hdct:Bool} {sn:List Str} {sub:List Value} {ab:Bool} {col:Option Bool} {dd:Option Addr} {k0 k1 k2 k3 k5:Option Value} {B newId initId:String}
theorem tc_init (F:ExcBaseFacts B newId initId bmB) (T:OwnTail h bmB bm) {mN:Str->Option Value} {us:List Value} {fI:Addr} {oI:Obj} {Q:PySem.Fin->Shared->Prop}
  (hC:h.get? C=some (excClassObj nm q C N bs bm hdct sn sub ab col dd k0 k1 k2 k3 k5 newId)) (hn:h.Ns N mN) (hi:mN "__init__" = some (.ref fI)) (hfI:h.get? fI=some oI) (hfc:oI.cls=.type "function")
  (hq:wpAny (model prog w) A (call (.ref fI) (.ref (h.objs.size+1)::us)) (fun r s'=>r=.none/\Q (.done (.ret (.ref (h.objs.size+1)))) s') E ⟨(h.push { cls:=.type "tuple",data:=.seq us.toArray }).push (newExc C h.objs.size none),g,d,t,os⟩)
  (hz:us.length<=sizeLine):wpAny (model prog w) A (Builtin.«type.__call__» ⟨.ref C::us,[]⟩) Q E ⟨h,g,d,t,os⟩:=by
 repeat (first | with_reducible refine wpAny_loadPart_at hC ?_ | with_reducible refine wpAny_madeBy_exc hC ?_ | wp_step)
 refine codeAny_call_builtin_code (Code.quiet_builtin _ F.quiet) (wpAny_check_new_subT F T hC ?_)
 refine codeAny_exc_new_subT F T hC ?_ hz
 show wpAny _ _ _ _ _ _
 have kp:∀ b o,h.get? b=some o->((h.push { cls:=.type "tuple",data:=.seq us.toArray }).push (newExc C h.objs.size none)).get? b=some o:=fun b o e=>Heap.get?_push_of_some _ (Heap.get?_push_of_some _ e)
 have c1:=kp _ _ hC
 have f1:=kp _ _ hfI
 have n1:=hn.keeps kp
 have g1:((h.push { cls:=.type "tuple",data:=.seq us.toArray }).push (newExc C h.objs.size none)).get? (h.objs.size+1)=some (newExc C h.objs.size none):=by heap_get
 have cc:(Value.ref C::bm).contains (.ref C)=true:=by simp
 have T1:=T.keeps kp
 unfold isInstance
 repeat (first | with_reducible refine wpAny_loadPart_at g1 ?_ | (with_reducible refine wpAny_isSubtype_exc c1 ?_;rw [cc]) | wp_step)
 show wpAny _ _ (typeLookup (.ref C) _) _ _ _
 refine wpAny_typeLookup_tail c1 n1 T1 F.mroIs F.init.lookup ?_
 rw [hi]
 refine wpAny_holding (wpAny_bind ?_)
 unfold bindSpecial
 refine wpAny_bind (wpAny_typeOf (T:="function") ⟨_,f1,hfc⟩ ?_)
 rw [if_pos (by decide)]
 refine wpAny_pure (wpAny_bind (wpAny_mono hq (fun r s' hr=>?_) fun _ _ x=>x))
 obtain ⟨rfl,hQ⟩:=hr
 wp_walk
 exact hQ
theorem call_init (F:ExcBaseFacts B newId initId bmB) (T:OwnTail h bmB bm) {mN:Str->Option Value} {us:List Value} {fI:Addr} {oI:Obj} {Q:Value->Shared->Prop}
  (hC:h.get? C=some (excClassObj nm q C N bs bm hdct sn sub ab col dd k0 k1 k2 k3 k5 newId)) (hn:h.Ns N mN) (hi:mN "__init__" = some (.ref fI)) (hfI:h.get? fI=some oI) (hfc:oI.cls=.type "function")
  (hq:wpAny (model prog w) (A.under (.builtin "type.__call__" ⟨.ref C::us,[]⟩)) (call (.ref fI) (.ref (h.objs.size+1)::us)) (fun r s'=>r=.none/\Q (.ref (h.objs.size+1)) s') E ⟨(h.push { cls:=.type "tuple",data:=.seq us.toArray }).push (newExc C h.objs.size none),g,d,t,os⟩)
  (hz:us.length<=sizeLine):wpAny (model prog w) A (call (.ref C) us) Q E ⟨h,g,d,t,os⟩:=by
 have f1:=tc_lookup
 have f2:=tc_bind (.ref C)
 have hT:(⟨h,g,d,t,os⟩:Shared).TypeIs (.ref C) "type" := ⟨_,hC,rfl⟩
 refine wpAny_call (codeAny_of_tree ?_)
 show wpAny _ _ (callAny (.ref C) _) _ _ _
 repeat (any_goals (first | assumption | with_reducible refine wpAny_loadPart_at hC ?_ | wp_step))
 refine ⟨rfl,?_⟩
 exact codeAny_call_builtin_at (Code.quiet_builtin _ (by decide +kernel)) entry_typeCall (wpAny_check_type_call_sub hC (tc_init F T hC hn hi hfI hfc hq hz))
theorem raise_obj {M:Model} {env:Env} {s:Shared} {x:Sem Value} {Q:Flow->Shared->Prop} (hbase:bm.contains (.type "BaseException")=true) (hh:A.handled=none)
  (hx:wpAny M A x (fun v s₁=>∃ e o,v=.ref e/\s₁.heap.get? C=some (excClassObj nm q C N bs bm hdct sn sub ab col dd k0 k1 k2 k3 k5 newId)/\s₁.heap.get? e=some o/\o.cls=.ref C/\(∃ t,o.data=.fields #[.ref t,.none,.none,.none,.bool false,.none])/\E (.ref e) s₁) E s) :
  wpAny M A (raiseStmt env (some x) none) Q E s:=by
 have hcB:(Value.ref C::bm).contains (.type "BaseException")=true:=by rw [List.contains_cons,hbase,Bool.or_true]
 unfold raiseStmt
 refine wpAny_bind (wpAny_mono hx (fun v s₁ h₁=>?_) fun _ _ x=>x)
 obtain ⟨e,o,rfl,hC,he,hc,⟨vs,hd⟩,hE⟩:=h₁
 obtain ⟨oc,od,odt,osl⟩:=o
 cases hc
 cases hd
 obtain ⟨hp,g,d,tk,os⟩:=s₁
 repeat (first | with_reducible refine wpAny_loadPart_at he ?_ | with_reducible refine wpAny_loadPart_at hC ?_ | (with_reducible refine wpAny_isSubtype_exc hC ?_;rw [hcB]) | wp_step)
 exact wpAny_raiseNew_none hh hE
theorem raise_init (F:ExcBaseFacts B newId initId bmB) {env:Env} {s:Shared} {mN:Str->Option Value} {x:Str} {np cpos pos:Pos} {args:List Expr} {fI:Addr} {Q:Flow->Shared->Prop}
  (hbase:bm.contains (.type "BaseException")=true) (hh:A.handled=none) (hplain:(backTo cpos (starEach args env)).any (·.1)=false) (hi:mN "__init__" = some (.ref fI))
  (hx:wpAny (model prog w) A (eval (.Name x np) env) (fun f s₁=>f=.ref C/\wpAny (model prog w) A (evalArgs (.ref C) true (backTo cpos (starEach args env)) [])
   (fun a s₂=>a.kw=[]/\a.pos.length<=sizeLine/\s₂.heap.get? C=some (excClassObj nm q C N bs bm hdct sn sub ab col dd k0 k1 k2 k3 k5 newId)/\s₂.heap.Ns N mN/\OwnTail s₂.heap bmB bm/\(∃ oI,s₂.heap.get? fI=some oI/\oI.cls=.type "function") /\
    wpAny (model prog w) (A.under (.builtin "type.__call__" ⟨.ref C::a.pos,[]⟩)) (call (.ref fI) (.ref (s₂.heap.objs.size+1)::a.pos))
     (fun r s'=>r=.none/\s'.heap.get? C=some (excClassObj nm q C N bs bm hdct sn sub ab col dd k0 k1 k2 k3 k5 newId)/\(∃ o t,s'.heap.get? (s₂.heap.objs.size+1)=some o/\o.cls=.ref C/\o.data=.fields #[.ref t,.none,.none,.none,.bool false,.none])/\E (.ref (s₂.heap.objs.size+1)) s') E
     { s₂ with heap:=(s₂.heap.push { cls:=.type "tuple",data:=.seq a.pos.toArray }).push (newExc C s₂.heap.objs.size none) }) E s₁) E s) :
  wpAny (model prog w) A (exec (.Raise (some (.Call (.Name x np) args [] cpos)) none pos) env) Q E s:=by
 rw [arm_exec_Raise]
 refine wpAny_bind (wpAny_standAt ?_)
 refine raise_obj (C:=C) (nm:=nm) (q:=q) (N:=N) (bs:=bs) (bm:=bm) (hdct:=hdct) (sn:=sn) (sub:=sub) (ab:=ab) (col:=col) (dd:=dd) (k0:=k0) (k1:=k1) (k2:=k2) (k3:=k3) (k5:=k5) (newId:=newId) hbase hh ?_
 refine wpAny_bind (wpAny_mono (wpAny_Call_ofName (wpAny_mono hx (fun f s₁ h₁=>?_) fun _ _ x=>x)) (fun v s₃ h₃=>wpAny_bind (wpAny_standAt (wpAny_pure h₃))) fun _ _ x=>x)
 obtain ⟨rfl,h₁⟩:=h₁
 unfold callWith
 refine wpAny_bind (wpAny_holding (wpAny_mono h₁ (fun a s₂ h₂=>wpAny_bind (wpAny_standAt ?_)) fun _ _ x=>x))
 obtain ⟨apos,akw⟩:=a
 obtain ⟨hkw,hlen,hC,hn,T,⟨oI,hfI,hfc⟩,h₂⟩:=h₂
 obtain rfl:akw=[]:=hkw
 obtain ⟨hp,g,d,tk,os⟩:=s₂
 simp only [hplain]
 refine wpAny_bind (wpAny_keeperOf_exc hC ?_)
 refine wpAny_bind (call_init F T hC hn hi hfI hfc (wpAny_mono h₂ (fun r s' hr=>?_) fun _ _ x=>x) hlen)
 obtain ⟨rfl,hC',⟨o,vs,ho,hc,hd⟩,hE⟩:=hr
 exact ⟨rfl,wpAny_bind (wpAny_holding (wpAny_point (wpAny_pure ⟨_,o,rfl,hC',ho,hc,⟨vs,hd⟩,hE⟩)))⟩
end
abbrev bmVE:List Value:=[.type "ValueError",.type "Exception",.type "BaseException",.type "object"]
structure XCl (K:PySem.W.Frag) (C fI:Addr):Prop where
 xc:ExcCl K C
 sa:PySem.W.findIn K (.ref C) "__setattr__" = some (some (.builtin "object.__setattr__"))
 hd:PySem.W.hasDictIn K C=true
 xin:xcIn K C bmVE "ValueError.__new__" fI=true
 fn:PySem.W.isFn K (.ref fI)=true
theorem xc_mro {K:PySem.W.Frag} {C fI:Addr} {bmB:List Value} {newId:String} (q:xcIn K C bmB newId fI=true):∃ cd tl,PySem.W.clsIn K C=some cd/\cd.mro=.ref C::tl/\PySem.W.tailIn K bmB tl=true:=by
 have no:∀ {P:Prop},false=true->P:=fun z=>absurd z Bool.false_ne_true
 unfold xcIn at q
 split at q<;>first | exact no q | skip
 next dict data slots found =>
 split at q<;>first | exact no q | skip
 next first above w0 w1 w2 w3 made w5 order listed =>
 simp only [Bool.and_eq_true] at q
 obtain ⟨⟨⟨⟨⟨⟨isC,isNew⟩,noDel⟩,tail⟩,ok⟩,init⟩,hasD⟩:=q
 refine ⟨data,above,?_,?_,tail⟩
 ·unfold PySem.W.clsIn;rw [found]
 ·rw [order,beq_iff_eq.mp isC]
theorem refuse_tail {K:PySem.W.Frag} {bmB:List Value} {self:Value} (hB:refuseLoop self "__setattr__" bmB=pure ()):∀ {l:List Value},PySem.W.tailIn K bmB l=true->refuseLoop self "__setattr__" l=pure ()
 | [],e=>by
  have z:bmB=[]:=by simpa [PySem.W.tailIn] using e
  rw [<- z];exact hB
 | v::r,e=>by
  unfold PySem.W.tailIn at e
  rcases Bool.or_eq_true_iff.mp e with q | q
  ·rw [beq_iff_eq.mp q];exact hB
  ·split at q
   ·split at q
    ·simp only [Bool.and_eq_true] at q
     rw [refuseLoop_ref];exact refuse_tail hB q.2
    ·cases q
   ·cases q
section
variable {prog:Program} {w:World} {A:Around} {s:Shared} {K:PySem.W.Frag} {x C fI:Addr}
theorem osa_exc {R:Result->Shared->Prop} {ox:Obj} {od:Option Obj} {name:Str} {tk:Tok} {v:Value} (X:K.In s.heap) (I:PySem.W.InstAt s.heap x ox C od) (c:XCl K C fI) (ha:PySem.W.findIn K (.ref C) name=some none)
  (hq:∀ b,wpAny (model prog w) A.in1 (storeInOwnDict (.ref x) (.ref C) (.str name tk) name v b) (fun fin s'=>match fin with | .done f=>R (.ok f) s' | .again c'=>c'.quiet=true/\codeAny (model prog w) A c' R s') (fun e s'=>R (.error e) s') s) :
  codeAny (model prog w) A (.call (.builtin "object.__setattr__") ⟨[.ref x,.str name tk,v],[]⟩) R s:=by
 have SF:=PySem.F.store_ValueError
 obtain ⟨cd,tl,hc,hm,ht⟩:=xc_mro c.xin
 have sub:PySem.W.Looks (model prog w) s.heap (isInstance (.ref x) (.type "object")) true:=I.type.andThen (PySem.W.looks_mroIn X c.xc.m1)
 refine codeAny_call_builtin SF.slot.plain SF.entry (@PySem.W.check_slot (model prog w) _ _ s "object.__setattr__" "object" "__setattr__" (.ref x) [.str name tk,v] [] _ SF.kind SF.split sub (SF.args (.ref x) (.str name tk) v) ?_)
 have lm:PySem.W.Looks (model prog w) s.heap (mroOf (.ref C)) cd.mro:=(PySem.W.looks_clsIn X hc).andThen .now
 rw [PySem.W.osa_eq,refuse_eq]
 refine wpAny_bind (wpAny_bind (I.type.here (wpAny_bind (lm.here ?_))))
 rw [hm,refuseLoop_ref,refuse_tail (SF.passes _) ht]
 refine wpAny_pure (wpAny_bind (I.type.here (wpAny_bind ((PySem.W.looks_findIn X ha).here (wpAny_bind (wpAny_pure ?_))))))
 exact hq _
end
def exN (a C t:Addr):HO:=.ext fun h=>h.get? a=some (newExc C t none)
def exD (a C t dx:Addr):HO:=.ext fun h=>h.get? a=some (newExc C t (some dx))
theorem exN_ok {P:Program} {w:World} {H:Hp} {h:Heap} {a C t:Addr} (e:h.get? a=some (newExc C t none)):ObjOk P w H h a (exN a C t):=⟨e,⟨_,e⟩,fun _ _ z k=>k _ z⟩
theorem exD_ok {P:Program} {w:World} {H:Hp} {h:Heap} {a C t dx:Addr} (e:h.get? a=some (newExc C t (some dx))):ObjOk P w H h a (exD a C t dx):=⟨e,⟨_,e⟩,fun _ _ z k=>k _ z⟩
section
variable {X:Cx} {pins:List (Addr × Obj)} {σ:L2.St} {H:Hp} {s:Shared} {a C t fI:Addr} {f:Str} {A:Around} {E:Value->Shared->Prop}
theorem setx_ok {y:V} {u:Value} {Q:Unit->Shared->Prop} (I:Inv X pins σ H s) (e:H a=some (exN a C t)) (c:XCl X.K C fI) (n:NoAttr X.K C f) (ry:RelV y u)
  (h:∀ dx s',H dx=none->Inv X pins σ (upd (upd H dx (.xd [(f,y)])) a (exD a C t dx)) s'->Q () s'):wpAny (model X.prog X.w) A (setAttr (.ref a) f u) Q E s:=by
 obtain ⟨hx,_,_⟩:=I.hok a _ e
 have hx:s.heap.get? a=some (newExc C t none):=hx
 have J:PySem.W.InstAt s.heap a (newExc C t none) C none:=⟨hx,rfl,rfl,True.intro⟩
 refine PySem.W.set_plain I.kIn J c.sa (osa_exc (s:={ s with toks:=s.toks+1 }) I.kIn J c n fun b=>?_)
 obtain ⟨cd,hc,hd'⟩:=PySem.W.any_some c.hd
 refine wpAny_bind (wpAny_pure (wpAny_bind (wpAny_bind (wpAny_loadPart hx (wpAny_bind (PySem.W.Looks.here (s:={ s with toks:=s.toks+1 }) (PySem.W.looks_clsIn I.kIn hc) ?_))))))
 rw [hd']
 have hax:a≠s.heap.objs.size:=Nat.ne_of_lt (Heap.lt_size hx)
 have hx1:(s.heap.push { cls:=.type "dict",data:=.dict #[] }).get? a=some (newExc C t none):=Heap.get?_push_of_some _ hx
 refine wpAny_bind (wpAny_alloc ?_)
 refine wpAny_bind (wpAny_update hx1 ?_)
 refine wpAny_pure ?_
 have hgd:((s.heap.push { cls:=.type "dict",data:=.dict #[] }).update a fun o=>{ o with dict:=some s.heap.objs.size }).get? s.heap.objs.size=some { cls:=.type "dict",data:=.dict #[] } :=
  (Heap.get?_update_ne _ _ _ _ hax.symm).trans (Heap.get?_push_at rfl rfl)
 have hga:((s.heap.push { cls:=.type "dict",data:=.dict #[] }).update a fun o=>{ o with dict:=some s.heap.objs.size }).get? a=some (newExc C t (some s.heap.objs.size)):=Heap.get?_update_self _ hx1 rfl
 have hnd:((s.heap.push { cls:=.type "dict",data:=.dict #[] }).update a fun o=>{ o with dict:=some s.heap.objs.size }).Ns s.heap.objs.size (fun _=>none):=⟨_,#[],_,hgd,rfl,fun e he=>absurd he (by simp),fun _=>rfl⟩
 show wpAny _ _ (storeInDict s.heap.objs.size (.str f s.toks) f u) _ _ _
 unfold storeInDict newKeyGuard
 refine wpAny_bind (wpAny_pure (wpAny_bind (wpAny_nsSet1 (Heap.Ns1.of_empty hnd) fun h' hn' hs=>?_)))
 obtain ⟨oD,esD,epD,hoD,hdD,hcD⟩:=hn'.count (Within.cons f u Within.nil)
 refine wpAny_bind (wpAny_lookBehind hoD (by rw [hdD];exact pastItsLine_dict (Nat.le_trans hcD (by rw [List.length_cons,List.length_nil,sizeLine_eq];omega))) ?_)
 have hf:H s.heap.objs.size=none:=I.hok.fresh (Nat.le_refl _)
 have other:∀ b o,b≠a->s.heap.get? b=some o->h'.get? b=some o:=fun b o hb q =>
  (hs.2 b (Nat.ne_of_lt (Heap.lt_size q))).trans ((Heap.get?_update_ne _ _ _ _ hb).trans (Heap.get?_push_of_some _ q))
 have hga':h'.get? a=some (newExc C t (some s.heap.objs.size)):=(hs.2 a hax).trans hga
 have lo:∀ b o,s.heap.get? b=some o->b≠s.heap.objs.size:=fun b o q=>Nat.ne_of_lt (Heap.lt_size q)
 have na:∀ b,H b=none->b≠a:=fun b q z=>by rw [z,e] at q;cases q
 have hH:∀ b,b≠a->b≠s.heap.objs.size->upd (upd H s.heap.objs.size (.xd [(f,y)])) a (exD a C t s.heap.objs.size) b=H b:=fun b h1 h2=>by rw [upd_ne h1,upd_ne h2]
 have nx:∀ b u,H b=some u->b≠s.heap.objs.size:=fun b u q z=>by rw [z,hf] at q;cases q
 refine wpAny_pure (h _ _ hf (I.un (h':=h') ⟨fun b o q n _ _=>other b o (na b n) q,fun b o q n _ _=>⟨o.slots,other b o (na b n) q⟩,fun b o q n _=>?_,fun b o q _=>?_,fun b xs q=>?_,fun b o u q=>?_,fun b ps q=>?_⟩ ?_))
 ·rw [hH b (na b n) (lo b o q)];exact n
 ·by_cases hb:b=a
  ·rw [hb];exact ⟨_,hga'⟩
  ·exact ⟨o,other b o hb q⟩
 ·have hb:b≠a:=fun z=>by rw [z,e] at q;cases q
  rw [hH b hb (nx b _ q)];exact q
 ·have hb:b≠a:=fun z=>by rw [z,e] at q;cases q
  rw [hH b hb (nx b _ q)];exact q
 ·have hb:b≠a:=fun z=>by rw [z,e] at q;cases q
  exact ⟨#[],by rw [hH b hb (nx b _ q),q,Array.append_empty]⟩
 ·intro b u' q
  by_cases hb:b=a
  ·subst hb
   rw [upd_same] at q;cases q
   exact exD_ok hga'
  ·by_cases hb2:b=s.heap.objs.size
   ·subst hb2
    rw [upd_ne hb,upd_same] at q;cases q
    refine ⟨_,hn',fun g=>?_⟩
    by_cases hg:g=f
    ·subst hg
     simp only [List.lookup,beq_self_eq_true,if_true]
     exact ry
    ·have:(g == f)=false:=by simpa using hg
     simp only [List.lookup,this,if_neg hg]
     exact True.intro
   ·rw [hH b hb hb2] at q
    refine (I.hok b u' q).stay (fun c v hc z=>?_) (fun c z=>?_) fun c xs z=>?_
    ·refine other c v (fun y=>?_) z
     subst y
     rcases hc with z1 | z1
     ·exact hb z1.symm
     ·rw [e] at z1;cases z1
    ·have:c≠a:=fun y=>by rw [y,e] at z;cases z
     rw [hH c this (nx c _ z)];exact z
    ·have:c≠a:=fun y=>by rw [y,e] at z;cases z
     rw [hH c this (nx c _ z)];exact z
end
def sXf (K:PySem.W.Frag) (ta tv:TE) (f:Str):TS:=fun D σ H=>tv σ H fun y H1=>ta σ H1 fun x H2=>∃ a C t fI,x=.ref a/\H2 a=some (exN a C t)/\XCl K C fI/\NoAttr K C f /\
 ∀ dx,H2 dx=none->D.nx σ (upd (upd H2 dx (.xd [(f,y)])) a (exD a C t dx))
theorem ps_xfld {X:Cx} {o value:Expr} {f:Str} {pos pos':Pos} {ta tv:TE} (ha:PE X o ta) (hv:PE X value tv) (hs:swapsWith value (some (.Attribute o f pos')) pos.line X.env=pure false):PS X (.Assign [.Attribute o f pos'] value pos) (sXf X.K ta tv f):=by
 intro pins s σ H D I h
 refine plainObj_wpAny_Assign_Attribute (thn (hv pins s σ H _ I h) fun u s1 ⟨y,H1,I1,ry,q⟩=>thn (ha pins s1 σ H1 _ I1 q) fun ov s2 ⟨x,H2,I2,rx,a,C,t,fI,ex,ea,c,n,q2⟩=>?_) hs
 subst ex
 obtain rfl:ov=Value.ref a:=rx
 exact setx_ok I2 ea c n ry fun dx s3 hdx I3=>⟨σ,_,I3,q2 dx hdx⟩
def excD (a:Addr) (cls:Value) (od:Option Addr):HO:=.ext fun h=>∃ o vs,h.get? a=some o/\o.cls=cls/\o.data=.fields vs/\o.dict=od
section
variable {prog:Program} {w:World} {A:Around} {E:Value->Shared->Prop} {h:Heap} {g:Array GenState} {d:Drawn} {t:Nat} {os:OsState} {K:PySem.W.Frag} {a C:Addr} {o:Obj} {od:Option Obj} {name:Str} {v:Value}
theorem exc_get_entry {tk:Tok} {Q:PySem.Fin->Shared->Prop} (X:K.In h) (I:PySem.W.InstAt h a o C od) (hf:PySem.W.findObj K C od name=some (.value v))
  (hq:Q (.done (.ret v)) ⟨h,g,d,t,os⟩):wpAny (model prog w) A (Builtin.«object.__getattribute__» ⟨[.ref a,.str name tk],[]⟩) Q E ⟨h,g,d,t,os⟩:=by
 have L3:=PySem.W.looks_find (M:=model prog w) X I hf
 have hc:=I.cls
 have hx:=I.at_
 repeat (any_goals (first | assumption | (with_reducible refine wpAny_loadPart_at hx ?_;rw [hc]) | with_reducible refine L3.at ?_ | wp_step))
theorem exc_get {expr:Bool} {Q:Value->Shared->Prop} (X:K.In h) (I:PySem.W.InstAt h a o C od) (x:ExcCl K C) (hf:PySem.W.findObj K C od name=some (.value v)) (hh:PySem.W.handedIn v=true)
  (hq:Q v ⟨h,g,d,t+1,os⟩):wpAny (model prog w) A (getAttr (.ref a) name expr) Q E ⟨h,g,d,t,os⟩:=by
 have f3:=F.attr_ValueError.ga.bind (.ref a)
 have L1:=PySem.W.looks_findIn (M:=model prog w) X x.g1
 have L2:=PySem.W.looks_findIn (M:=model prog w) X x.g2
 have hc:=I.cls
 have hx:=I.at_
 have ho:=PySem.W.handedOut_of hh
 have hx0:(expr && onTheHeap (Value.builtin "BaseException.__getattribute__"))=false:=by cases expr<;>rfl
 have hx2:(Value.builtin "BaseException.__getattribute__" == Value.builtin "object.__getattribute__")=false:=by decide +kernel
 have hx1:(onTheHeap (Value.ref C) && Value.builtin "BaseException.__getattribute__" == Value.builtin "object.__getattribute__")=false:=by rw [hx2];rfl
 unfold getAttr getAttrBy
 repeat (any_goals (first | assumption | (with_reducible refine wpAny_loadPart_at hx ?_;rw [hc]) | with_reducible refine L1.at ?_ | with_reducible refine L2.at ?_ | wp_step))
 refine codeAny_call_builtin F.attr_ValueError.ga.plain F.entry_bexc_ga (exc_check X hx hc x.m2 (exc_get_entry X I hf ?_))
 repeat (any_goals (first | assumption | wp_step))
end
section
variable {X:Cx} {pins:List (Addr × Obj)} {σ:L2.St} {H:Hp} {s:Shared} {a C dx:Addr} {fs:List (Str × V)} {f:Str} {v:V} {A:Around} {E:Value->Shared->Prop}
theorem getx_ok {b:Bool} {Q:Value->Shared->Prop} (I:Inv X pins σ H s) (e:H a=some (excD a (.ref C) (some dx))) (e2:H dx=some (.xd fs)) (x:ExcCl X.K C) (hd:PySem.W.hasDictIn X.K C=true) (n:NoAttr X.K C f) (l:fs.lookup f=some v)
  (h:∀ u s',Inv X pins σ H s'->RelV v u->Q u s'):wpAny (model X.prog X.w) A (getAttr (.ref a) f b) Q E s:=by
 obtain ⟨⟨o,vs,ho,hc,hdt,hdd⟩,_,_⟩:=I.hok a _ e
 obtain ⟨mA,hns,r⟩:=I.hok dx _ e2
 obtain ⟨u,hu,ru⟩:=RelO.some_of (v:=v) (o:=mA f) (by rw [<- l];exact r f)
 obtain ⟨od,hod,hl⟩:=lookIn_ns hns
 have J:PySem.W.InstAt s.heap a o C (some od):=⟨ho,hc,by unfold PySem.W.notCls;rw [hdt],by rw [hdd];exact hod⟩
 obtain ⟨hh,g,d,t,os⟩:=s
 exact exc_get I.kIn J x (PySem.W.findObj_own hd n rfl (by rw [hl,hu])) (handed_of ru) (h u _ (I.tok _) ru)
end
def tXf (K:PySem.W.Frag) (ta:TE) (f:Str):TE:=fun σ H Q=>ta σ H fun x H1=>∃ a C dx fs v,x=.ref a/\H1 a=some (excD a (.ref C) (some dx))/\H1 dx=some (.xd fs)/\ExcCl K C/\PySem.W.hasDictIn K C=true/\NoAttr K C f/\fs.lookup f=some v/\Q v H1
theorem pe_xfld {X:Cx} {e:Expr} {f:Str} {pos:Pos} {ta:TE} (he:PE X e ta) (hb:attributeBase e f X.env (eval e X.env)=eval e X.env):PE X (.Attribute e f pos) (tXf X.K ta f):=by
 intro pins s σ H Q I h
 refine attr_of hb (thn (he pins s σ H _ I h) fun u s1 ⟨x,H1,I1,rx,a,C,dx,fs,v,ex,ea,e2,c,hd,n,l,q⟩=>?_)
 subst ex
 obtain rfl:u=Value.ref a:=rx
 exact getx_ok I1 ea e2 c hd n l fun u' s2 I2 ru=>⟨v,H1,I2,ru,q⟩
theorem pe_xfldK {X:Cx} {K:PySem.W.Frag} {e:Expr} {f:Str} {pos:Pos} {ta:TE} (he:PE X e ta) (hb:attributeBase e f X.env (eval e X.env)=eval e X.env) (hK:X.K=K:=by rfl):PE X (.Attribute e f pos) (tXf K ta f):=by
 subst hK
 exact pe_xfld he hb
section
variable {X:Cx}
theorem call_isD:CallR X (.builtin "isinstance") (fun xs H Q=>∃ (a C:Addr) (od:Option Addr) (c:V) (cv:Value) (b:Bool),xs=[.ref a,c]/\(∀ u,RelV c u->u=cv)/\H a=some (excD a (.ref C) od)/\ExcCl X.K C/\PySem.W.kitOne X.K (.ref C) cv=some b/\Q (.bl b) H):=by
 intro pins s σ H xs us Q I r h
 obtain ⟨a,C,od,c,cv,b,rfl,hc,hH,x,e,q⟩:=h
 obtain ⟨u,v,rfl,ru,rv⟩:=vals2 r
 cases ru
 cases hc v rv
 obtain ⟨⟨o,vs,p1,p2,p3,p4⟩,_,_⟩:=I.hok a _ hH
 exact PySem.W.kia_one (kitx_exc x) I.kIn ⟨o,vs,p1,p2,p3⟩ e (fun z=>nomatch z) fun tk=>⟨.bl b,H,I.tok _,rfl,q⟩
theorem call_isDT:CallR X (.builtin "isinstance") (fun xs H Q=>∃ (a C tp:Addr) (od:Option Addr) (cs:List V) (cvs:List Value) (b:Bool),xs=[.ref a,.ref tp]/\H tp=some (.tup cs)/\(∀ us,Vals cs us->us=cvs)/\H a=some (excD a (.ref C) od)/\ExcCl X.K C/\PySem.W.kitAny X.K (.ref C) cvs=some b/\Q (.bl b) H):=by
 intro pins s σ H xs us Q I r h
 obtain ⟨a,C,tp,od,cs,cvs,b,rfl,htp,hcs,hH,x,e,q⟩:=h
 obtain ⟨u,v,rfl,ru,rv⟩:=vals2 r
 cases ru
 cases rv
 obtain ⟨⟨o',vs,p1,p2,p3,p4⟩,_,_⟩:=I.hok a _ hH
 obtain ⟨z,its,rt,⟨o,ho,hc,n,hd⟩⟩:=I.hok tp _ htp
 cases hcs its rt
 obtain ⟨c0,d0,dt0,sl0⟩:=o
 cases hc
 cases hd
 exact PySem.W.kia_tup (kitx_exc x) I.kIn ⟨o',vs,p1,p2,p3⟩ ho e (fun z=>nomatch z) fun tk=>⟨.bl b,H,I.tok _,rfl,q⟩
end
end L6
namespace L2
open PySem PySem.Spec PyProof.Rows
section
variable {X:Cx}
end
section
variable {X:Cx} {o i:Expr} {pos:Pos} {td ty:TE} {a:Addr} {kvs:List (Key × V)}
end
section
variable {X:Cx} {CX:CXT} {k:Nat} {f:Addr} {fd:FuncData} {ps:List Str} {sp:Sp} {ds:List Value} {dvs:List V} {E:XK} {x:Str} {p pos:Pos} {e:Expr} {es:List Expr} {t:TA} {tf:TE}
end
end L2
namespace L6
open PySem PySem.Spec PyProof.Rows L2
def HasD (h:Heap) (a:Addr) (od:Option Addr):Prop:=∃ o,h.get? a=some o/\o.dict=od
theorem HasD.by {h h':Heap} {a:Addr} {od:Option Addr} (x:HasD h a od) (k:DK h h'):HasD h' a od:=by
 obtain ⟨o,e,d⟩:=x
 obtain ⟨o',e',d'⟩:=k a o e
 exact ⟨o',e',d'.trans d⟩
def CXD (P:Program) (w:World):CXT:=fun outer H s E e s'=>∃ a cls od H',e=.ref a/\Fly P w outer H s H' a cls s'/\HasD s'.heap a od/\E cls od H'
section
variable {M:Model} {A:Around} {E:Value->Shared->Prop} {s:Shared} {base:Heap} {env:Env} {outer:List Env} {L e:Addr} {cls a0:Value} {od:Option Addr} {Q:Unit->Shared->Prop}
theorem leavesD (hfr:A.frames=some (env::outer)) (hf:env.frame=some L) (hfl:Heap.FlyingW base (env::outer) e cls a0 s.heap) (hd:HasD s.heap e od)
  (hQ:∀ h',Heap.FlyingW base outer e cls a0 h'->s.heap.UpToSlots h'->HasD h' e od->Q () { s with heap:=h' }):wpAny M A (leaving env (.ref e)) Q E s :=
 wpAny_mono ((kd_leaving env (.ref e)).any (wpAny_leaves_onW (Q:=fun _ s'=>∃ h',s'={ s with heap:=h' }/\Heap.FlyingW base outer e cls a0 h'/\s.heap.UpToSlots h') (E:=E) hfr hf hfl fun h' x y=>⟨h',rfl,x,y⟩)) (fun _ s' ⟨⟨h',q,x,y⟩,dk⟩=>by subst q;exact hQ h' x y (hd.by dk)) fun _ _ z=>z.1
theorem looksD (hfr:A.frames=some (env::outer)) (hf:env.frame=some L) (hfl:Heap.FlyingW base (env::outer) e cls a0 s.heap) (hd:HasD s.heap e od)
  (hQ:∀ h',Heap.HeldW base (env::outer) e cls a0 L h'->s.heap.UpToSlots h'->HasD h' e od->Q () { s with heap:=h' }):wpAny M A (noteFrame (.ref e) env) Q E s :=
 wpAny_mono ((kd_note (.ref e) env).any (wpAny_looks_onW (Q:=fun _ s'=>∃ h',s'={ s with heap:=h' }/\Heap.HeldW base (env::outer) e cls a0 L h'/\s.heap.UpToSlots h') (E:=E) hfr hf hfl fun h' x y=>⟨h',rfl,x,y⟩)) (fun _ s' ⟨⟨h',q,x,y⟩,dk⟩=>by subst q;exact hQ h' x y (hd.by dk)) fun _ _ z=>z.1
theorem landsD {l:List Env} (hh:Heap.HeldW base l e cls a0 L s.heap) (hd:HasD s.heap e od)
  (hQ:∀ h',Heap.FlyingW base l e cls a0 h'->s.heap.UpToSlots h'->HasD h' e od->Q () { s with heap:=h' }):wpAny M A (setFlight (.ref e) none) Q E s :=
 wpAny_mono ((kd_setFlight (.ref e) none).any (wpAny_landsW (Q:=fun _ s'=>∃ h',s'={ s with heap:=h' }/\Heap.FlyingW base l e cls a0 h'/\s.heap.UpToSlots h') (E:=E) hh fun h' x y=>⟨h',rfl,x,y⟩)) (fun _ s' ⟨⟨h',q,x,y⟩,dk⟩=>by subst q;exact hQ h' x y (hd.by dk)) fun _ _ z=>z.1
theorem landsD2 {l:List Env} (hh:Heap.FlyingW base l e cls a0 s.heap) (hd:HasD s.heap e od)
  (hQ:∀ h',Heap.FlyingW base l e cls a0 h'->s.heap.UpToSlots h'->HasD h' e od->Q () { s with heap:=h' }):wpAny M A (setFlight (.ref e) none) Q E s :=
 wpAny_mono ((kd_setFlight (.ref e) none).any (lands_againW (Q:=fun _ s'=>∃ h',s'={ s with heap:=h' }/\Heap.FlyingW base l e cls a0 h'/\s.heap.UpToSlots h') (E:=E) hh fun h' x y=>⟨h',rfl,x,y⟩)) (fun _ s' ⟨⟨h',q,x,y⟩,dk⟩=>by subst q;exact hQ h' x y (hd.by dk)) fun _ _ z=>z.1
end
section
variable {P:Program} {w:World} {K:PySem.W.Frag} {mg:Str->Option Value} {base:Heap} {N:List Str} {qual:Str} {scope:Scope} {f:Addr} {cdv:Value} {A:Around} {outer:List Env} {s:Shared} {H:Hp} {E:XK}
theorem passD:Passes (CXD P w) (cxOf (CXD P w) P w K mg base N qual scope f cdv A outer s H E) E:=by
 intro pins σ H1 s1 e s2 I ⟨a,cls,od,H2,he,F,hd,hE⟩
 subst he
 obtain ⟨B,a0,hfl,hB⟩:=F.fly
 have hfr:(A.deeper (envOfC qual scope s.heap.objs.size f cdv)).frames=some (envOfC qual scope s.heap.objs.size f cdv::outer):=I.ok.frames
 show wpAny _ _ (leaving _ _) _ _ _
 refine leavesD hfr rfl hfl hd fun h' x1 x2 x3=>⟨a,cls,od,H2,rfl,?_,x3,hE⟩
 refine fly_out I F.os F.bare F.un F.hok F.an hB x1 fun b hb o e=>x2 b o e ?_
 obtain ⟨_,o',e',d⟩:=hfl.2.2.1.mem (show b∈(envOfC qual scope s.heap.objs.size f cdv::outer).filterMap (·.frame) from List.mem_cons_of_mem _ hb)
 rw [e] at e';cases e'
 exact d
def off (H:Hp) (a:Addr):Hp:=fun b=>if b=a then none else H b
theorem off_ne {H:Hp} {a b:Addr} (h:b≠a):off H a b=H b:=by unfold off;rw [if_neg h]
theorem off_eq {H:Hp} {a:Addr}:off H a a=none:=by unfold off;rw [if_pos rfl]
theorem Un_off {fs:List Addr} {H H1:Hp} {h h1:Heap} {a:Addr} (u:Un fs [] H H1 h h1) (ha:H a=none):Un fs [] H (off H1 a) h h1:=by
 have na:∀ {b:Addr} {o:HO},H b=some o->b≠a:=fun q z=>by rw [z,ha] at q;cases q
 refine ⟨u.keep,u.slot,fun b o q n hx=>?_,u.there,fun b xs q=>?_,fun b o v q=>?_,fun b ps q=>?_⟩
 ·by_cases hb:b=a
  ·subst hb;exact off_eq
  ·rw [off_ne hb];exact u.free b o q n hx
 ·rw [off_ne (na q)];exact u.tups b xs q
 ·rw [off_ne (na q)];exact u.frzs b o v q
 ·rw [off_ne (na q)];exact u.tbls b ps q
def spXI (K:PySem.W.Frag) (C fI:Addr) (f:Str):Sp:=fun vs H Q _=>∃ e t v,vs=[.ref e,v]/\H e=some (exN e C t)/\∀ dx,H dx=none->Q .non (upd (upd H dx (.xd [(f,v)])) e (exD e C t dx))
def tRaiseD (C:Addr) (fl:Str) (t:TA) (E:XK):TS:=fun D σ H=>t σ H fun vs H1=>∃ v,vs=[v]/\∀ dx,H1 dx=none->E (.ref C) (some dx) (upd H1 dx (.xd [(fl,v)]))
theorem ps_raiseD {x fl:Str} {C fI:Addr} {k:Nat} {fd:FuncData} {np cpos pos:Pos} {e₀:Expr} {rest:List Expr} {t:TA} {ps:List Str}
  (hx:Gl (cxOf (CXD P w) P w K mg base N qual scope f cdv A outer s H E) x) (b:mg x=some (.ref C)) (c:XCl K C fI)
  (F:FnOk P w K mg base (CXD P w) k fI fd ps (spXI K C fI fl)) (hr:Room (k+1) (A.deeper (envOfC qual scope s.heap.objs.size f cdv))) (hb:Binds K fd ps [])
  (ha:PA (cxOf (CXD P w) P w K mg base N qual scope f cdv A outer s H E) (e₀::rest) t) (hd:(x == ("__debug__" : Str))=false:=by decide)
  (he:starEach (e₀::rest) (envOfC qual scope s.heap.objs.size f cdv)=(false,eval e₀ (envOfC qual scope s.heap.objs.size f cdv))::starEach rest (envOfC qual scope s.heap.objs.size f cdv):=by rfl)
  (hplain:(backTo cpos (starEach rest (envOfC qual scope s.heap.objs.size f cdv))).any (·.1)=false:=by rfl) :
  PS (cxOf (CXD P w) P w K mg base N qual scope f cdv A outer s H E) (.Raise (some (.Call (.Name x np) (e₀::rest) [] cpos)) none pos) (tRaiseD C fl t E):=by
 intro pins s0 σ H0 D I h
 obtain ⟨tl,Nn,nm,q',bs,sn,sub,ab,col,dd,k0,k1,k2,k3,k5,mN,hC,hN,hni,T⟩:=(xown I.mod.kin c.xin).obj
 have FB:=PySem.F.excBase_ValueError
 refine raise_init (C:=C) (nm:=nm) (q:=q') (N:=Nn) (bs:=bs) (bm:=tl) (hdct:=true) (sn:=sn) (sub:=sub) (ab:=ab) (col:=col) (dd:=dd) (k0:=k0) (k1:=k1) (k2:=k2) (k3:=k3) (k5:=k5) (fI:=fI)
  FB (mN:=mN) (T.hasType FB.hasBase) (I.ok.hd rfl) (by show (backTo cpos (starEach (e₀::rest) (envOfC qual scope s.heap.objs.size f cdv))).any _=false;rw [he];show (false || (backTo cpos (starEach rest (envOfC qual scope s.heap.objs.size f cdv))).any (·.1))=false;rw [hplain];rfl) hni (ld_glob I hx b ⟨rfl,?_⟩ hd)
 have hA:=ha cpos pins s0 σ H0 _ I h
 have he':starEach (e₀::rest) (cxOf (CXD P w) P w K mg base N qual scope f cdv A outer s H E).env=(false,eval e₀ (cxOf (CXD P w) P w K mg base N qual scope f cdv A outer s H E).env)::starEach rest (cxOf (CXD P w) P w K mg base N qual scope f cdv A outer s H E).env:=he
 rw [he'] at hA ⊢
 refine Calls.evalArgs_plain (wpAny_mono hA (fun us s2 ⟨vs,H2,I2,rv,v,hv,hE⟩=>?_) fun _ _ y=>y)
 subst hv
 obtain ⟨u,rfl,ru⟩:∃ u,us=[u]/\RelV v u:=by
  cases rv with
  | cons r t=>cases t;exact ⟨_,rfl,r⟩
 have hfn:∃ oI,s2.heap.get? fI=some oI/\oI.cls=.type "function" := by
  have q:((K.lookup fI).map (·.cls) == some (.type "function"))=true:=c.fn
  obtain ⟨oI,hoI,hcI⟩:=Option.map_eq_some_iff.mp (beq_iff_eq.mp q)
  exact ⟨oI,I2.kIn _ _ hoI,hcI⟩
 have kp:∀ b o,s2.heap.get? b=some o->((s2.heap.push { cls:=.type "tuple",data:=.seq #[u] }).push (newExc C s2.heap.objs.size none)).get? b=some o:=fun b o e=>Heap.get?_push_of_some _ (Heap.get?_push_of_some _ e)
 have g1:((s2.heap.push { cls:=.type "tuple",data:=.seq #[u] }).push (newExc C s2.heap.objs.size none)).get? (s2.heap.objs.size+1)=some (newExc C s2.heap.objs.size none):=by heap_get
 have fe:H2 (s2.heap.objs.size+1)=none:=I2.hok.fresh (Nat.le_succ _)
 have I3:=I2.laid (a:=s2.heap.objs.size+1) (o:=exN (s2.heap.objs.size+1) C s2.heap.objs.size) (t':=s2.toks) kp (Nat.le_succ _) (exN_ok g1)
 refine ⟨rfl,(by show 1<=sizeLine;decide),I2.bk _ _ hC,hN.keeps I2.bk,T.keeps I2.bk,hfn,?_⟩
 have r2:Vals [V.ref (s2.heap.objs.size+1),v] [Value.ref (s2.heap.objs.size+1),u]:=.cons rfl (.cons ru .nil)
 have hsp:spXI K C fI fl [V.ref (s2.heap.objs.size+1),v] (upd H2 (s2.heap.objs.size+1) (exN (s2.heap.objs.size+1) C s2.heap.objs.size)) (fun r H4=>r=.non/\∃ dx,H2 dx=none/\dx≠s2.heap.objs.size+1/\H4=upd (upd (upd H2 (s2.heap.objs.size+1) (exN (s2.heap.objs.size+1) C s2.heap.objs.size)) dx (.xd [(fl,v)])) (s2.heap.objs.size+1) (exD (s2.heap.objs.size+1) C s2.heap.objs.size dx)) E0:=by
  refine ⟨_,_,v,rfl,upd_same,fun dx hdx=>⟨rfl,dx,?_,?_,rfl⟩⟩
  ·by_cases z:dx=s2.heap.objs.size+1
   ·rw [z];exact fe
   ·rw [upd_ne z] at hdx;exact hdx
  ·intro z;rw [z,upd_same] at hdx;cases hdx
 have hl:([Value.ref (s2.heap.objs.size+1),u]++[]).length=ps.length:=by rw [List.append_nil,<- r2.length];exact F.len _ _ _ _ hsp
 refine wpAny_call (codeAny_mono (F.run _ (cxOf (CXD P w) P w K mg base N qual scope f cdv A outer s H E).stack _ _ ⟨[Value.ref (s2.heap.objs.size+1),u],[]⟩ ([Value.ref (s2.heap.objs.size+1),u]++[]) _ _ _ (hr.make C [u] []) (I3.env0.make C [u] []) (hb _ _ I3.kIn hl) (by rw [List.append_nil];exact r2) hsp) fun r s4 hq=>?_)
 cases r with
 | error e=>obtain ⟨_,_,_,_,_,_,_,z⟩:=hq;exact z.elim
 | ok fl' =>
  cases fl' with
  | next=>exact False.elim hq
  | brk=>exact False.elim hq
  | cont=>exact False.elim hq
  | ret u4 =>
   obtain ⟨v4,H4,os4,bare4,un4,hok4,r4,rfl,dx,hdx,hne,rfl⟩:=hq
   obtain rfl:u4=Value.none:=r4
   have un3:Un (frs (envOfC qual scope s.heap.objs.size f cdv::outer)) [] H2 (upd H2 (s2.heap.objs.size+1) (exN (s2.heap.objs.size+1) C s2.heap.objs.size)) s2.heap ((s2.heap.push { cls:=.type "tuple",data:=.seq #[u] }).push (newExc C s2.heap.objs.size none)):=Un.laid kp (Nat.le_succ _) fe
   have un24:=Un_off (un3.trans un4) fe
   obtain ⟨go,_,_⟩:=hok4 (s2.heap.objs.size+1) _ upd_same
   have go:s4.heap.get? (s2.heap.objs.size+1)=some (newExc C s2.heap.objs.size (some dx)):=go
   have I4:=I3.call' (ch:=[]) (s':=s4) os4 un4 hok4 bare4 (fun b z=>nomatch z)
   have eH:off (upd (upd (upd H2 (s2.heap.objs.size+1) (exN (s2.heap.objs.size+1) C s2.heap.objs.size)) dx (.xd [(fl,v)])) (s2.heap.objs.size+1) (exD (s2.heap.objs.size+1) C s2.heap.objs.size dx)) (s2.heap.objs.size+1)=upd H2 dx (.xd [(fl,v)]):=by
    funext b
    by_cases hb:b=s2.heap.objs.size+1
    ·subst hb;rw [off_eq,upd_ne (Ne.symm hne),fe]
    ·rw [off_ne hb,upd_ne hb]
     by_cases hb2:b=dx
     ·subst hb2;rw [upd_same,upd_same]
     ·rw [upd_ne hb2,upd_ne hb,upd_ne hb2]
   rw [eH] at un24
   have hokF:HOk P w (upd H2 dx (.xd [(fl,v)])) s4.heap:=fun b u' q=>by
    have hb:b≠s2.heap.objs.size+1:=fun z=>by
     subst z
     rw [upd_ne (Ne.symm hne),fe] at q;cases q
    have tr:∀ c o,upd H2 dx (.xd [(fl,v)]) c=some o->(upd (upd (upd H2 (s2.heap.objs.size+1) (exN (s2.heap.objs.size+1) C s2.heap.objs.size)) dx (.xd [(fl,v)])) (s2.heap.objs.size+1) (exD (s2.heap.objs.size+1) C s2.heap.objs.size dx)) c=some o:=fun c o z=>by
     rw [<- eH] at z
     by_cases hc:c=s2.heap.objs.size+1
     ·subst hc;rw [off_eq] at z;cases z
     ·rw [off_ne hc] at z;exact z
    refine (hok4 b u' (tr b u' q)).stay (fun c o _ z=>z) (fun c z=>?_) fun c xs z=>?_
    ·have hc:c≠s2.heap.objs.size+1:=fun y=>by subst y;rw [upd_same] at z;cases z
     rw [<- eH,off_ne hc];exact z
    ·have hc:c≠s2.heap.objs.size+1:=fun y=>by subst y;rw [upd_same] at z;cases z
     rw [<- eH,off_ne hc];exact z
   refine ⟨rfl,I4.bk _ _ hC,⟨_,_,go,rfl,rfl⟩,?_⟩
   have hfr:(A.deeper (envOfC qual scope s.heap.objs.size f cdv)).frames=some (envOfC qual scope s.heap.objs.size f cdv::outer):=I2.ok.frames
   have hin:∀ env∈(envOfC qual scope s.heap.objs.size f cdv::outer),∀ b,env.frame=some b->b∈(s2.heap.objs.size+1)::frs (envOfC qual scope s.heap.objs.size f cdv::outer):=fun env he b hb=>List.mem_cons_of_mem _ (List.mem_filterMap.mpr ⟨env,he,hb⟩)
   show wpAny _ _ (leaving _ _) _ _ _
   have fl0:s4.heap.FunFrames (PySem.W.hideAll s4.heap ((s2.heap.objs.size+1)::frs (envOfC qual scope s.heap.objs.size f cdv::outer))) (envOfC qual scope s.heap.objs.size f cdv::outer):=PySem.W.funFrames_hide I4.stack hin
   have hnoe:(PySem.W.hideAll s4.heap ((s2.heap.objs.size+1)::frs (envOfC qual scope s.heap.objs.size f cdv::outer))).get? (s2.heap.objs.size+1)=none:=PySem.W.hideAll_none _ (.head _)
   refine wpAny_mono ((kd_leaving _ _).any (wpAny_leaving_firstW (a0:=.ref s2.heap.objs.size) (E:=fun e' s''=>CXD P w outer H s E e' s'') (Q:=fun _ s'=>∃ h',s'={ s4 with heap:=h' }/\Heap.LeftW (PySem.W.hideAll s4.heap ((s2.heap.objs.size+1)::frs (envOfC qual scope s.heap.objs.size f cdv::outer))) (envOfC qual scope s.heap.objs.size f cdv::outer) (s2.heap.objs.size+1) (.ref C) (.ref s2.heap.objs.size) s4.heap h') hfr fl0 rfl go (fun b o q=>PySem.W.of_hideAll _ q) hnoe rfl rfl rfl fun h' hL=>⟨h',rfl,hL⟩)) (fun _ s5 ⟨⟨h',q5,hL⟩,dk⟩=>?_) fun _ _ z=>z.1
   subst q5
   obtain ⟨l1,⟨_,_,l2⟩,l3,l4⟩:=hL
   refine ⟨_,.ref C,some dx,_,rfl,?_,HasD.by ⟨_,go,rfl⟩ dk,hE dx hdx⟩
   refine fly_out (s2:=s4) (a0:=.ref s2.heap.objs.size) I2 (os4.trans rfl) bare4 un24 hokF (by rw [upd_ne (Ne.symm hne)];exact fe) (fun b o eb hh hb=>?_) ⟨l1,hnoe,l2,l3⟩ fun b hb o eb=>l4 b o eb ?_
   ·refine PySem.W.hideAll_get _ eb fun z=>?_
    rcases List.mem_cons.mp z with z | z
    ·subst z
     rcases hh with ⟨q,hq⟩ | ⟨u',hu⟩
     ·exact absurd (Heap.lt_size hq) (Nat.not_lt.mpr (Nat.le_succ _))
     ·rw [upd_ne (Ne.symm hne),fe] at hu;cases hu
    ·exact hb z
   ·obtain ⟨_,o',e',d⟩:=I4.stack.mem (show b∈(envOfC qual scope s.heap.objs.size f cdv::outer).filterMap (·.frame) from List.mem_cons_of_mem _ hb)
    rw [eb] at e';cases e'
    exact d
end
def XPd (X:Cx) (pins:List (Addr × Obj)) (σ:L2.St) (R:XK) (e:Value) (s':Shared):Prop:=∃ a cls od H1 s1 H',e=.ref a/\Inv X pins σ H1 s1/\Fly X.prog X.w X.stack H1 s1 H' a cls s'/\HasD s'.heap a od/\R cls od H'
def PED (X:Cx) (e:Expr) (tx:TX):Prop:=∀ (pins:List (Addr × Obj)) (s:Shared) (σ:L2.St) (H:Hp) (Q:VK) (R:XK),Inv X pins σ H s->tx σ H Q R->wpAny (model X.prog X.w) X.A (eval e X.env) (EP X pins σ Q) (XPd X pins σ R) s
section
variable {X:Cx} {k:Nat} {f:Addr} {fd:FuncData} {ps:List Str} {sp:Sp} {dvs:List V} {ds:List Value} {x:Str} {p pos:Pos} {e:Expr} {es:List Expr} {tf:TE} {t:TA}
theorem run_fnD {pins:List (Addr × Obj)} {σ:L2.St} {H:Hp} {s:Shared} {Q:VK} {R:XK} {us:List Value} {vs:List V} (F:FnOk X.prog X.w X.K X.mg X.base (CXD X.prog X.w) k f fd ps sp) (hr:Room k X.A) (hb:Binds X.K fd ps ds) (hd:Vals dvs ds)
  (I:Inv X pins σ H s) (r:Vals vs us) (h:sp (vs++dvs) H Q R):wpAny (model X.prog X.w) X.A (call (.ref f) us) (EP X pins σ Q) (XPd X pins σ R) s:=by
 have r2:Vals (vs++dvs) (us++ds):=r.append hd
 have hl:(us++ds).length=ps.length:=by rw [<- r2.length];exact F.len _ _ _ _ h
 refine wpAny_call (codeAny_mono (F.run X.A X.stack s H ⟨us,[]⟩ (us++ds) (vs++dvs) Q R hr I.env0 (hb s us I.kIn hl) r2 h) fun r s' hq=>?_)
 cases r with
 | error e =>
  obtain ⟨a,cls,od,H',rfl,fl,hd,hR⟩:=hq
  exact ⟨a,cls,od,H,s,H',rfl,I,fl,hd,hR⟩
 | ok fl =>
  cases fl with
  | ret u=>exact I.after hq
  | next=>exact False.elim hq
  | brk=>exact False.elim hq
  | cont=>exact False.elim hq
def tCallVX (f:Addr) (sp:Sp) (dvs:List V) (tf:TE) (t:TA):TX:=fun σ H Q R=>tf σ H fun x H1=>x=.ref f/\tCallX sp dvs t σ H1 Q R
theorem ped_callV (F:FnOk X.prog X.w X.K X.mg X.base (CXD X.prog X.w) k f fd ps sp) (hr:Room k X.A) (hk:PySem.W.keepIn X.K (.ref f)=true) (hb:Binds X.K fd ps ds) (hd:Vals dvs ds)
  (hv:∀ xe,PE (X.wish xe) (.Name x p) tf) (ha:∀ xe,PA (X.wish xe) (e::es) t) (he:starEach (e::es) X.env=(false,eval e X.env)::starEach es X.env:=by rfl) (hpl:(backTo pos (starEach es X.env)).any (·.1)=false:=by rfl) :
  PED X (.Call (.Name x p) (e::es) [] pos) (tCallVX f sp dvs tf t):=by
 intro pins s σ H Q R I h
 refine wpAny_Call_Name_kw (thn (hv (XPd X pins σ R) pins s σ H _ (I.wish _) h) fun u s0 ⟨y,H0,I0,ry,ey,h0⟩=>?_)
 subst ey
 obtain rfl:u=Value.ref f:=ry
 refine PySem.W.callWith_K (h₀:=X.base) I.ok.mod.kin hk (thn (ha (XPd X pins σ R) pos pins s0 σ H0 _ I0 h0) fun us s1 ⟨vs,H1,I1,r,q⟩=>⟨I1.unwish.kIn,?_⟩) he hpl
 exact run_fnD F hr hb hd I1.unwish r q
end
section
variable {X:Cx} {pins:List (Addr × Obj)} {σ:L2.St} {H:Hp} {s:Shared} {a:Addr}
theorem reext {φ ψ:Heap->Prop} (I:Inv X pins σ H s) (e:H a=some (.ext φ)) (p:ψ s.heap) (st:∀ h1 h2:Heap,ψ h1->(∀ o,h1.get? a=some o->h2.get? a=some o)->ψ h2):Inv X pins σ (upd H a (.ext ψ)) s:=by
 obtain ⟨_,th,_⟩:=I.hok a _ e
 have na:∀ b,H b=none->b≠a:=fun b q z=>by rw [z,e] at q;cases q
 have ne:∀ {b:Addr} {o:HO},H b=some o->o≠.ext φ->b≠a:=fun q n z=>by rw [z,e] at q;exact n (Option.some.inj q).symm
 refine I.un (h':=s.heap) (t':=s.toks) ⟨fun b o q _ _ _=>q,fun b o q _ _ _=>⟨o.slots,q⟩,fun b o q n _=>by rw [upd_ne (na b n)];exact n,fun b o q _=>⟨o,q⟩,fun b xs q=>?_,fun b o u q=>?_,fun b ps q=>⟨#[],?_⟩⟩ fun b u q=>?_
 ·rw [upd_ne (ne q (fun z=>nomatch z))];exact q
 ·rw [upd_ne (ne q (fun z=>nomatch z))];exact q
 ·rw [upd_ne (ne q (fun z=>nomatch z)),Array.append_empty];exact q
 ·by_cases hb:b=a
  ·subst hb
   rw [upd_same] at q;cases q
   exact ⟨p,th,st⟩
  ·rw [upd_ne hb] at q
   refine (I.hok b u q).stay (fun c v _ z=>z) (fun c z=>?_) fun c xs z=>?_
   ·rw [upd_ne (ne z (fun z=>nomatch z))];exact z
   ·rw [upd_ne (ne z (fun z=>nomatch z))];exact z
end
theorem _root_.L2.Fun.okD {CX:CXT} {P:Program} {w:World} {K:PySem.W.Frag} {mg:Str->Option Value} {base:Heap} {x qual:Str} {st:Stmt} {f:Addr} {fd:FuncData} {N ps:List Str} {k:Nat} {sp:Sp} (F:Fun K x qual st f fd) (S:FnScope N ps (defScope st)) (len:∀ vs H Q E,sp vs H Q E->vs.length=ps.length)
  (hbody:∀ (cdv:Value) (A:Around) (outer:List Env) (s:Shared) (H:Hp) (vs:List V) (Q:VK) (E:XK),Room k (A.deeper (envOfC qual (defScope st) s.heap.objs.size f cdv))->sp vs H Q E ->
   ∃ t,PSs (cxOf CX P w K mg base N qual (defScope st) f cdv A outer s H E) (defBody st) t/\t { nx:=fun _ H'=>Q .non H',rt:=Q } (start N vs) H):FnOk P w K mg base CX (k+1) f fd ps sp:=by
 obtain ⟨oc,od,kV,doc,pm,an,cdv,ct,osl,rfl,lk,hcd⟩:=F.ex
 exact fn_of lk hcd S len (hbody cdv)
def tTryD (K:PySem.W.Frag) (c:Value) (i:Nat) (tx:TX) (ts:TS):TS:=fun D σ H=>tx σ H (fun _ H1=>D.nx σ H1) fun cls od H1=>PySem.W.exmOne K cls c=some true/\∀ a,H1 a=none ->
 ts { nx:=fun σ2 H2=>D.nx (σ2.set i none) H2,rt:=D.rt,bk:=fun σ2 H2=>D.bk (σ2.set i none) H2,ct:=fun σ2 H2=>D.ct (σ2.set i none) H2 } (σ.set i (some (.ref a))) (upd H1 a (excD a cls od))
section
variable {X:Cx} {e:Expr} {tx:TX} {ts:TS} {x n:Str} {c:Value} {i:Nat} {b₀:Stmt} {suite:List Stmt} {pos pos' np hpos:Pos}
theorem ps_tryD (hst:X.stack=X.env::X.outer) (hf:X.env.frame=some X.env.locals) (he:PED X e tx) (hx:Gl X x) (hm:X.mg x=some c) (hN:X.N.Nodup) (hi:X.N[i]?=some n) (hn:X.env.scope.names.lookup n=some .local)
  (hs:∀ a,PSs ((X.catch a).nox) (b₀::suite) ts) (hd:(x == ("__debug__" : Str))=false:=by decide) (hsw:swapsWith e none pos'.line X.env=pure false:=by rfl) :
  PS X (.Try [.Expr e pos'] [.ExceptHandler (some (.Name x np)) (some n) (b₀::suite) hpos] [] [] pos) (tTryD X.K c i tx ts):=by
 intro pins s σ H D I h
 refine wpAny_Try_except (wpAny_execs_cons (wpAny_Expr_any (wpAny_mono (he pins s σ H _ _ I h) (fun v s1 ⟨y,H1,I1,r1,q1⟩=>wpAny_execs_nil (wpAny_execs_nil ⟨σ,H1,I1,q1⟩)) fun ev s2 hx2=>?_) I.quiet hsw))
 obtain ⟨a,cls,od,H1,s1,H2,rfl,I1,fl,hD,hex,hR⟩:=hx2
 obtain ⟨B,a0,hfl,hB⟩:=fl.fly
 have hfr:X.A.frames=some (X.env::X.outer):=by rw [I.ok.frames,hst]
 have hfl0:Heap.FlyingW B (X.env::X.outer) a cls a0 s2.heap:=hst ▸ hfl
 have fs0:∀ {g:Heap},s2.heap.UpToSlots g->∀ b∈frs X.stack,∀ o,s2.heap.get? b=some o->∃ sl,g.get? b=some { o with slots:=sl }:=fun {g} u b hb o e=>u b o e (by
  obtain ⟨_,o',e',d⟩:=hfl.2.2.1.mem (show b∈X.stack.filterMap (·.frame) from hb)
  rw [e] at e';cases e'
  exact d)
 refine looksD hfr hf hfl0 hD fun h4 held4 u4 hD4=>?_
 refine landsD held4 hD4 fun h5 fly5 u5 hD5=>?_
 have fly5':Heap.FlyingW B X.stack a cls a0 h5:=hst ▸ fly5
 have I5:=(fly_in I1 fl hB fly5' (fs0 (u4.trans u5))).1
 have J5:=I5.catch a
 refine wpAny_handleBy_cons (codeAny_handlers_test ?_) (by intro q;cases q)
 refine ld_glob (X:=X.catch a) J5 hx hm ?_ hd
 have LT:PySem.W.Looks (model X.prog X.w) h5 (typeOf (.ref a)) cls:=by
  obtain ⟨ob,hob,hc⟩:=fly5.there
  subst hc
  exact (PySem.W.Looks.ld hob).andThen .now
 refine PySem.W.Looks.here (s:={ s2 with heap:=h5 }) (PySem.W.exm_one I5.kIn LT hex) ?_
 show codeAny _ _ _ _ _
 refine codeAny_handlers_suite_as ?_
 refine landsD2 fly5' hD5 fun h6 fly6 u6 hD6=>?_
 have I6:=(fly_in I1 fl hB fly6 (fs0 ((u4.trans u5).trans u6))).2
 obtain ⟨oe,vs,he6,hc6,hd6,_⟩:=fly6.first
 obtain ⟨oe',he6',hdi⟩:=hD6
 have heq:oe'=oe:=Option.some.inj (he6'.symm.trans he6)
 have I7:=reext I6 upd_same (ψ:=fun h=>∃ o vs,h.get? a=some o/\o.cls=cls/\o.data=.fields vs/\o.dict=od) ⟨oe,vs,he6,hc6,hd6,heq ▸ hdi⟩ fun g1 g2 ⟨o,vs',q1,q2,q3,q4⟩ k=>⟨o,vs',k o q1,q2,q3,q4⟩
 rw [upd_upd] at I7
 have J6:=I7.catch a
 refine store_ok (X:=X.catch a) J6 hN hi (.inl hn) (v:=.ref a) rfl (fun s7 J7=>?_) (.inr hn)
 have J7':Inv ((X.catch a).nox) pins (σ.set i (some (.ref a))) (upd H2 a (excD a cls od)) s7:=J7.wish _
 refine wpAny_mono (hs a pins s7 _ _ _ J7' (hR a fl.an)) (fun f s8 q8=>?_) fun _ _ z=>False.elim z
 cases f with
 | next =>
  obtain ⟨σ8,H8,J8,q8⟩:=q8
  exact goes_ok (Inv.uncatch I.ok J8) hN hi hn fun s9 I9=>⟨_,H8,I9,q8⟩
 | brk =>
  obtain ⟨σ8,H8,J8,q8⟩:=q8
  exact goes_ok (Inv.uncatch I.ok J8) hN hi hn fun s9 I9=>⟨_,H8,I9,q8⟩
 | cont =>
  obtain ⟨σ8,H8,J8,q8⟩:=q8
  exact goes_ok (Inv.uncatch I.ok J8) hN hi hn fun s9 I9=>⟨_,H8,I9,q8⟩
 | ret u =>
  obtain ⟨v,σ8,H8,J8,r8,q8⟩:=q8
  exact goes_ok (Inv.uncatch I.ok J8) hN hi hn fun s9 I9=>⟨v,_,H8,I9,r8,q8⟩
end
end L6
namespace L2
open PySem PySem.Spec PyProof.Rows
theorem call_sorted_txtT {X:Cx} {K:PySem.W.Frag} (hK:X.K=K:=by rfl):CallR X (.builtin "sorted") (fun xs H Q=>∃ (p:Addr) (zs:List Str),xs=[.ref p]/\SqT K H p (zs.map V.str)/\zs.length < 64/\∀ l,H l=none->Q (.ref l) (upd H l (.lst ((srt zs).map V.str)))):=by
 subst hK
 intro pins s σ H xs us Q I r h
 obtain ⟨p,zs,rfl,hq,few,q⟩:=h
 obtain ⟨u,rfl,rx⟩:=vals1 r
 cases rx
 have big:64<=sizeLine:=by decide
 obtain ⟨its,rv,⟨o,ho,hc,n,hd⟩,hz⟩:=I.tuple hq
 have el:its.length=zs.length:=by rw [<- rv.length,List.length_map]
 refine Calls.call_function_entry kind_sorted plain_sorted entry_sorted (args_sorted1 _) ?_
 unfold Builtin.«sorted»
 apply wpAny_bind (m:=checkCount "sorted" 1 1 _)
 apply wpAny_pure
 apply wpAny_bind
 refine wpAny_collect_seq p (.inr rfl) ho hc hd (fun h1 keep=>?_) (by simp only [List.size_toArray];omega)
 apply wpAny_bind
 refine wpAny_newList ?_ (by simp only [];omega)
 apply wpAny_bind
 apply wpAny_holding
 refine wpAny_mono (sorts_new (prog:=X.prog) (w:=X.w) (s:=s) (h:=h1) (tk:=s.toks) (Q:=EP X pins σ Q) (by simpa using strs_of rv) (by simp;omega) fun out n h2 o1 o2 o3=>?_) (fun _ _ z=>wpAny_pure ⟨_,rfl,z⟩) fun _ _ z=>z
 have no:s.heap.get? h1.objs.size=none:=by
  cases e:s.heap.get? h1.objs.size with
  | none=>rfl
  | some o=>exact absurd (Heap.lt_size (keep _ _ e)) (Nat.lt_irrefl _)
 have noH:H h1.objs.size=none:=by
  cases e:H h1.objs.size with
  | none=>rfl
  | some o =>
   obtain ⟨u,eu⟩:=(I.hok _ _ e).there
   rw [no] at eu;cases eu
 refine ⟨.ref h1.objs.size,_,I.laidN (t':=s.toks) (o:=.lst ((srt zs).map V.str)) (fun b o e=>o2 _ _ (keep _ _ e)) no noH ?_,rfl,q _ noH⟩
 exact ⟨by rw [List.length_map,srt_len];omega,out,n,of_strs o1,o3⟩
theorem call_len_setT {X:Cx} {P:Program} {w:World} (hP:X.prog=P:=by rfl) (hw:X.w=w:=by rfl):CallR X (.builtin "len") (fun xs H Q=>∃ (p:Addr) (zs:List Str),xs=[.ref p]/\H p=some (TxtO P w p zs)/\zs.length < 1000/\Q (.int ((dist zs).length:Int)) H):=by
 subst hP hw
 intro pins s σ H xs us Q I r h
 obtain ⟨p,zs,rfl,hp,few,q⟩:=h
 obtain ⟨u,rfl,rx⟩:=vals1 r
 cases rx
 obtain ⟨⟨o,es,ep,t,x⟩,_⟩:=I.hok _ _ hp
 have sz:es.size=(dist zs).length:=by first | exact x.size | (have:=x.size;omega)
 have fit:(es.size:Int) < 2 ^ 63:=by
  have:=dist_le zs
  have:(es.size:Int) < 4096:=by omega
  exact Int.lt_of_lt_of_le this (by decide)
 rw [<- sz] at q
 exact call_len_set x.ho x.ex x.hd x.fits fit ⟨.int es.size,H,I.tok _,⟨_,rfl⟩,q⟩
end L2
namespace K41
open PySem PySem.Spec PyProof.Rows L2 L3
open Classical in
noncomputable def mis (ms:List Str) (ps:List (Str × Str)) (ks:List Nat):Option (List Str):=((srt ms).find? fun z=>decide ((rch (srt ms) (gr ps ks) z).length < (srt ms).length)).map fun z=>rch (srt ms) (gr ps ks) z
theorem find_at {α:Type} {p:α->Bool}:∀ {l:List α} {i:Nat} {z:α},l[i]?=some z->p z=true->(∀ a∈l.take i,p a=false)->l.find? p=some z
 | [],i,z,e,_,_=>by simp at e
 | x::l,0,z,e,hz,_=>by
  simp at e
  subst e
  rw [List.find?_cons,hz]
 | x::l,i+1,z,e,hz,hb=>by
  have hx:p x=false:=hb x (by simp)
  rw [List.find?_cons,hx]
  exact find_at (l:=l) (i:=i) (by simpa using e) hz fun a ha=>hb a (by simp [ha])
structure CutK (ms:List Str) (ps:List (Str × Str)) (ks:List Nat) (zs:List Str):Prop where
 nd:zs.Nodup
 up:srt zs=zs
 sub:∀ z∈zs,z∈ms
 ne:0 < zs.length
 lt:zs.length < ms.length
 out:∀ p∈ps,p.1∈zs->p.2∈zs
 inn:∀ k∈ks,∀ p,ps[k]?=some p->p.2∈zs->p.1∈zs
theorem mis_none {ms:List Str} {ps:List (Str × Str)} {ks:List Nat} (nd:ms.Nodup):mis ms ps ks=none ↔ Full ms ps ks:=by
 unfold mis
 rw [Option.map_eq_none_iff,List.find?_eq_none]
 constructor
 ·intro h a ha b hb
  refine Classical.byContradiction fun n=>h a (srt_mem.mpr ha) (decide_eq_true ((rch_full (srt_nd nd)).mpr ⟨b,srt_mem.mpr hb,n⟩))
 ·intro f a ha q
  obtain ⟨b,hb,n⟩:=(rch_full (srt_nd nd)).mp (of_decide_eq_true q)
  exact n (f a (srt_mem.mp ha) b (srt_mem.mp hb))
theorem mis_some {ms:List Str} {ps:List (Str × Str)} {ks:List Nat} {zs:List Str} (nd:ms.Nodup) (ins:InP ms ps) (h:mis ms ps ks=some zs):CutK ms ps ks zs:=by
 unfold mis at h
 obtain ⟨z,hz,rfl⟩:=Option.map_eq_some_iff.mp h
 have hm:z∈ms:=srt_mem.mp (List.mem_of_find?_eq_some hz)
 have hl:(rch (srt ms) (gr ps ks) z).length < (srt ms).length:=by have q:=List.find?_some hz;simpa using q
 have self:z∈rch (srt ms) (gr ps ks) z:=rch_mem.mpr ⟨srt_mem.mpr hm,.here _⟩
 refine ⟨rch_nd (srt_nd nd),?_,fun y hy=>srt_mem.mp (rch_mem.mp hy).1,List.length_pos_of_mem self,by rw [srt_len] at hl;exact hl,fun p hp h1=>?_,fun k hk p e h2=>?_⟩
 ·unfold rch;rw [srt_srt]
 ·exact rch_mem.mpr ⟨srt_mem.mpr (ins p hp).2,(rch_mem.mp h1).2.on (by unfold gr;exact List.mem_append_left _ hp)⟩
 ·have hp:=List.mem_of_getElem? e
  refine rch_mem.mpr ⟨srt_mem.mpr (ins p hp).1,(rch_mem.mp h2).2.on (by unfold gr;exact List.mem_append_right _ (turn_mem.mpr (sel_mem.mpr ⟨k,hk,by rw [e]⟩)))⟩
def Told (H:Hp) (v:V):Option (List Str)->Prop
 | none=>v=.non
 | some zs=>∃ t,v=.ref t/\H t=some (.tup (zs.map V.str))
structure Pc (ms:List Str) (ps:List (Str × Str)) (zs:List Str):Prop where
 nd:zs.Nodup
 up:srt zs=zs
 sub:∀ z∈zs,z∈ms
 ne:0 < zs.length
 lt:zs.length < ms.length
 bth:∀ p∈ps,p.1∈zs ↔ p.2∈zs
def Least (ms:List Str) (ps:List (Str × Str)) (zs:List Str):Prop:=(∃ z∈srt ms,zs=comp (srt ms) ps z)/\∀ z∈srt ms,ltT (comp (srt ms) ps z) zs=false
theorem Least.uniq {ms:List Str} {ps:List (Str × Str)} {zs ys:List Str} (a:Least ms ps zs) (b:Least ms ps ys):zs=ys:=by
 obtain ⟨⟨z,hz,ez⟩,az⟩:=a
 obtain ⟨⟨y,hy,ey⟩,by_⟩:=b
 have h1:=az y hy
 have h2:=by_ z hz
 rw [<- ey] at h1
 rw [<- ez] at h2
 exact ltT_total _ _ h2 h1
theorem Least.pc {ms:List Str} {ps:List (Str × Str)} {zs:List Str} (g:GoodW ms ps) (h:¬ Hangs ms ps) (a:Least ms ps zs):Pc ms ps zs:=by
 obtain ⟨⟨z,hz,rfl⟩,_⟩:=a
 have nS:=srt_nd g.good.nd
 have e:comp (srt ms) ps z=rch (srt ms) (both2 ps) z:=by unfold comp;rw [within_all g.inS]
 rw [e]
 have self:z∈rch (srt ms) (both2 ps) z:=rch_mem.mpr ⟨hz,.here _⟩
 refine ⟨rch_nd nS,by unfold rch;rw [srt_srt],fun y hy=>srt_mem.mp (rch_mem.mp hy).1,List.length_pos_of_mem self,?_,fun p hp=>⟨fun q=>?_,fun q=>?_⟩⟩
 ·have:(rch (srt ms) (both2 ps) z).length < (srt ms).length:=by
   refine (rch_full nS).mpr (Classical.byContradiction fun n=>h fun a ha b hb=>?_)
   have al:∀ b∈ms,Rch (both2 ps) z b:=fun b hb=>Classical.byContradiction fun m=>n ⟨b,srt_mem.mpr hb,m⟩
   exact (both_sym (al a ha)).trans (al b hb)
  rw [srt_len] at this
  exact this
 ·exact rch_mem.mpr ⟨srt_mem.mpr (g.ins p hp).2,(rch_mem.mp q).2.on (by unfold both2;exact List.mem_append_left _ hp)⟩
 ·exact rch_mem.mpr ⟨srt_mem.mpr (g.ins p hp).1,(rch_mem.mp q).2.on (by unfold both2;exact List.mem_append_right _ (turn_mem.mpr hp))⟩
theorem Pcs.least {ms:List Str} {ps:List (Str × Str)} {q:Addr × List Str} {qs:List (Addr × List Str)} (p:Pcs (srt ms) ps (q::qs)):Least ms ps q.2:=by
 refine ⟨(p.mem q.2).mp (by simp),fun z hz=>?_⟩
 have hm:=(p.mem (comp (srt ms) ps z)).mpr ⟨z,hz,rfl⟩
 rw [List.map_cons,List.mem_cons] at hm
 rcases hm with e | e
 ·rw [e];exact ltT_irrefl _
 ·obtain ⟨r,hr,er⟩:=List.mem_map.mp e
  rw [<- er]
  exact (List.pairwise_cons.mp p.up).1 r hr
theorem one_hangs {ns:List Str} {ps:List (Str × Str)} (g:GoodW ns ps) {qs:List (Addr × List Str)} (p:Pcs (srt ns) ps qs) (h:qs.length=1):Hangs ns ps:=by
 obtain ⟨q,rfl⟩:∃ q,qs=[q]:=by
  cases qs with
  | nil=>simp at h
  | cons q r=>cases r with
   | nil=>exact ⟨q,rfl⟩
   | cons _ _=>simp at h
 have one:∀ z∈srt ns,comp (srt ns) ps z=q.2:=fun z hz=>by
  have:=(p.mem _).mpr ⟨z,hz,rfl⟩
  simpa using this
 intro a ha b hb
 have hb':b∈comp (srt ns) ps a:=by rw [one a (srt_mem.mpr ha),<- one b (srt_mem.mpr hb)];exact comp_self (srt_mem.mpr hb)
 unfold comp at hb'
 rw [within_all g.inS] at hb'
 exact (rch_mem.mp hb').2
open PySem PySem.Spec PyProof.Rows L2 L3 L6
abbrev sAI:Stmt:=inClass (top 4) 0
theorem flat_n (l:List Nat):(nV l).all flatV=true:=by simp [nV,flatV]
theorem inV_n (j:Nat) (l:List Nat):inV (.int (j:Int)) (nV l)=decide (j∈l):=by
 unfold inV nV
 rw [List.any_map,Bool.eq_iff_iff,List.any_eq_true,decide_eq_true_iff]
 constructor
 ·rintro ⟨x,hx,e⟩
  have:(x:Int)=j:=by simpa [eqV] using e
  have:x=j:=by omega
  exact this ▸ hx
 ·intro h
  exact ⟨j,h,by simp [eqV]⟩
section
variable {P:Program} {w:World} {K:PySem.W.Frag} {mg:Str->Option Value} {base:Heap}
variable {C E1 E4 fP fM fT fS fWh fL fTu fSp fPi fHa fCh fCL fFr fMB fMd fIs fAI:Addr} {fdP fdM fdT fdS fdWh fdL fdTu fdSp fdPi fdHa fdCh fdCL fdFr fdMB fdMd fdIs fdAI:FuncData}
def spMB (C:Addr):Sp:=fun vs H Q _=>∃ (x l:Addr) (ms:List Str) (ps:List (Str × Str)) (ks:List Nat),vs=[.ref x,.ref l]/\Nm C H x l ms ps ks/\∀ v H',Told H' v (mis ms ps ks)->Same H H'->Q v H'
abbrev nMB:List Str:=["web","ties","steps","place","inside"]
theorem scMB:FnScope nMB nWT (defScope sMissB):=⟨rfl,rfl,rfl,by decide +kernel,rfl,by decide +kernel,by decide +kernel⟩
theorem ok_mb {f:Addr} {fd:FuncData} (F:Fun K "missed_by" "missed_by" sMissB f fd) (M:Mh K mg C E1 fP fM fT fS fWh fdP fdM fdT fdS fdWh) (DF:Df K mg "freed" sFreed nWT fFr fdFr) (GF:FnOk P w K mg base CX0 3 fFr fdFr nWT (spFreed C)) (DS:Df K mg "spread" sSpread ["steps","start"] fSp fdSp) (T:Glb mg):FnOk P w K mg base CX0 4 f fd nWT (spMB C):=by
 have GP:FnOk P w K mg base CX0 1 fP fdP ["self"] (spPl C):=ok_places M.m.pF M.m.wc T
 have GS:FnOk P w K mg base CX0 1 fSp fdSp ["steps","start"] spSpread:=ok_spread DS.fn T
 refine F.ok scMB (fun vs H Q E h=>?_) (fun cdv A outer s H vs Q E hr h=>?_)
 ·obtain ⟨x,l,ms,ps,ks,rfl,_⟩:=h
  rfl
 ·obtain ⟨x,l,ms,ps,ks,rfl,n,k⟩:=h
  have h1:=hr.mono (j:=1) (by decide)
  refine ⟨_,pss_cons (ps_set (i:=2) scMB.nd rfl (Or.inl rfl) (pe_call GF hr rfl DF.mgf DF.fn.kp DF.b .nil pass0 (pa_cons (pv 0) (pa_cons (pv 1) pa_nil))))
   (pss_cons (ps_for PassesOwn.never rfl (pi_list (pe_meth0 (pv 0) M.m.wc.cl M.m.pM GP h1 M.m.pB .nil pass0)) (pg_name (i:=3) scMB.nd rfl (Or.inl rfl))
    (pss_cons (ps_set (i:=4) scMB.nd rfl (Or.inl rfl) (pe_call GS h1 rfl DS.mgf DS.fn.kp DS.b .nil pass0 (pa_cons (pv 2) (pa_cons (pv 3) pa_nil))))
    (pss_one (ps_if (pt_cmpR op_lt (pe_callB call_len_seq (by rfl) T.len PySem.boot_len (pa_cons (pv 4) pa_nil)) (pe_callB call_len_seq (by rfl) T.len PySem.boot_len (pa_cons (pe_meth0 (pv 0) M.m.wc.cl M.m.pM GP h1 M.m.pB .nil pass0) pa_nil)) (nomark _))
     (pss_one (ps_ret (pe_callTy call_tuple_of (by rfl) T.tuple PyProof.Rows.boot_tuple (pa_cons (pv 4) pa_nil)))) pss_nil))))
   (pss_one (ps_ret pe_non))),?_⟩
  have n12:=n.good.good.few
  have nd:=n.good.good.nd
  have nS:=srt_nd nd
  refine ⟨_,rfl,_,rfl,x,l,ms,ps,ks,rfl,n,fun d ls H1 hS s1=>?_⟩
  obtain ⟨d1,f1,q1,r1⟩:=(n.web.same s1).meth "places"
  refine ⟨_,rfl,x,d1,f1,rfl,q1,r1,x,ms,ps,rfl,n.web.same s1,fun l2 n2=>⟨l2,rfl,⟨_,SqL.of upd_same⟩,?_⟩⟩
  have s2:=same_upd (o:=.lst ((srt ms).map V.str)) n2
  have h2:=upd_same (H:=H1) (a:=l2) (o:=.lst ((srt ms).map V.str))
  generalize upd H1 l2 (.lst ((srt ms).map V.str))=H2 at s2 h2 ⊢
  have s02:=s1.trans s2
  have lg:=gr_len ps ks
  have few:=n.few
  have p30:=n.good.few
  refine for_list (K:=K) (xs:=(srt ms).map V.str) (fun i σ HH=>∃ v3 v4,σ=[some (.ref x),some (.ref l),some (.ref d),v3,v4]/\Same H2 HH/\∀ a∈(srt ms).take i,¬ (rch (srt ms) (gr ps ks) a).length < (srt ms).length) ⟨_,_,rfl,Same.refl _,(fun a h=>by simp at h)⟩ ?_ ?_ ?_
  ·rintro i σ HH _ ⟨_,_,rfl,sH,_⟩
   exact SqL.of (sH _ _ h2)
  ·rintro i v σ HH hv ⟨v3,v4,rfl,sH,al⟩
   rw [List.getElem?_map] at hv
   obtain ⟨z,ez,rfl⟩:=Option.map_eq_some_iff.mp hv
   have hz:=List.mem_of_getElem? ez
   refine ⟨_,rfl,_,rfl,d,z,srt ms,gr ps ks,ls,rfl,(hS.same s2).same sH,nS,by rw [srt_len];exact n12,gr_in n.good.inS ks,by omega,hz,fun l3 H3 n3 h3 s3=>?_⟩
   have s03:=s02.trans (sH.trans s3)
   obtain ⟨d4,f4,q4,r4⟩:=(n.web.same s03).meth "places"
   refine ⟨_,rfl,l3,_,rfl,.inl (SqL.of h3),_,rfl,x,d4,f4,rfl,q4,r4,x,ms,ps,rfl,n.web.same s03,fun l4 n4=>⟨l4,_,rfl,.inl (SqL.of upd_same),?_⟩⟩
   have s4:=same_upd (o:=.lst ((srt ms).map V.str)) n4
   have h34:=s4 _ _ h3
   generalize upd H3 l4 (.lst ((srt ms).map V.str))=H4 at s4 h34 ⊢
   refine ⟨_,_,rfl,rfl,_,rfl,?_⟩
   rw [List.length_map,List.length_map]
   by_cases c:(rch (srt ms) (gr ps ks) z).length < (srt ms).length
   ·rw [decide_eq_true (show ((rch (srt ms) (gr ps ks) z).length:Int) < ((srt ms).length:Int) by omega)]
    refine iteT ⟨_,rfl,l3,_,rfl,.inl ⟨SqL.of h34,fun t nt=>?_⟩⟩
    have em:mis ms ps ks=some (rch (srt ms) (gr ps ks) z):=by
     unfold mis
     rw [find_at ez (by simpa using c) fun a ha=>by simpa using al a ha]
     rfl
    refine k _ _ ?_ (s03.trans (s4.trans (same_upd nt)))
    rw [em]
    exact ⟨t,rfl,upd_same⟩
   ·rw [decide_eq_false (show ¬ ((rch (srt ms) (gr ps ks) z).length:Int) < ((srt ms).length:Int) by omega)]
    refine iteF ⟨_,_,rfl,sH.trans (s3.trans s4),fun a ha=>?_⟩
    rw [List.take_add_one,ez] at ha
    rcases List.mem_append.mp ha with q | q
    ·exact al a q
    ·have:a=z:=by simpa using q
     subst this
     exact c
  ·rintro σ HH ⟨v3,v4,rfl,sH,al⟩
   rw [List.length_map,List.take_length] at al
   have em:mis ms ps ks=none:=by
    unfold mis
    rw [Option.map_eq_none_iff,List.find?_eq_none]
    intro a ha q
    exact al a ha (of_decide_eq_true q)
   refine k _ _ ?_ (s02.trans sH)
   rw [em]
   exact rfl
def spHaB (C:Addr):Sp:=fun vs H Q _=>∃ (x:Addr) (ns:List Str) (ps:List (Str × Str)),vs=[.ref x]/\WebObj C H x ns ps/\GoodW ns ps/\∀ b H',(b=true ↔ Hangs ns ps)->Same H H'->Q (.bl b) H'
theorem ok_hangsB {f:Addr} {fd:FuncData} (F:Fun K "hangs" "hangs" sHangs f fd) (DPi:Df K mg "pieces" sPieces ["web"] fPi fdPi) (G:FnOk P w K mg base CX0 3 fPi fdPi ["web"] (spPi C)) (T:Glb mg):FnOk P w K mg base CX0 4 f fd ["web"] (spHaB C):=by
 refine F.ok scHa (fun vs H Q E h=>?_) (fun cdv A outer s H vs Q E hr h=>?_)
 ·obtain ⟨x,ns,ps,rfl,_⟩:=h
  rfl
 ·obtain ⟨x,ns,ps,rfl,hW,g,k⟩:=h
  refine ⟨_,pss_one (ps_ret (pe_cmpR op_eq (pe_callB call_len_seq (by rfl) T.len PySem.boot_len (pa_cons (pe_call G hr rfl DPi.mgf DPi.fn.kp DPi.b .nil pass0 (pa_cons (pv 0) pa_nil)) pa_nil)) pe_int (nomark _))),?_⟩
  refine ⟨_,rfl,x,ns,ps,rfl,hW,g,fun l qs H' nl hl ho pc s'=>⟨l,_,rfl,.inl (SqL.of hl),rfl,?_⟩⟩
  refine k _ H' ?_ s'
  rw [List.length_map,decide_eq_true_iff]
  constructor
  ·intro e
   have:(qs.length:Int)=1:=by injection e
   exact one_hangs g pc (by omega)
  ·intro hh
   rw [one_piece g hh pc]
   rfl
theorem ok_chkH1 {f:Addr} {fd:FuncData} (F:Fun K "check_hangs" "check_hangs" sChkH f fd) (DHa:Df K mg "hangs" sHangs ["web"] fHa fdHa) (G:FnOk P w K mg base CX0 4 fHa fdHa ["web"] (spHaB C)) (T:Glb mg):FnOk P w K mg base CX0 5 f fd ["web"] (spChkH C):=by
 refine F.ok scCkH (fun vs H Q E h=>?_) (fun cdv A outer s H vs Q E hr h=>?_)
 ·obtain ⟨x,ns,ps,rfl,_⟩:=h
  rfl
 ·obtain ⟨x,ns,ps,rfl,hW,g,hh,k⟩:=h
  refine ⟨_,pss_one (ps_if (pt_not (pt_val (pe_call G hr rfl DHa.mgf DHa.fn.kp DHa.b .nil pass0 (pa_cons (pv 0) pa_nil)) (fun _=>rfl))) (pss_one ps_never) pss_nil),?_⟩
  refine ⟨_,rfl,x,ns,ps,rfl,hW,g,fun b H' eb s'=>?_⟩
  rw [eb.mpr hh]
  exact ⟨_,rfl,iteF (k H' s')⟩
structure Ap (K:PySem.W.Frag) (mg:Str->Option Value) (E4 fAI:Addr) (fdAI:FuncData):Prop where
 b:mg "Apart" = some (.ref E4)
 x:XCl K E4 fAI
 no:NoAttr K E4 "cut"
 f:Fun K "__init__" "Apart.__init__" sAI fAI fdAI
 bi:Binds K fdAI ["self","cut"] []
theorem scAI:FnScope ["self","cut"] ["self","cut"] (defScope sAI):=⟨rfl,rfl,rfl,by decide +kernel,rfl,by decide +kernel,by decide +kernel⟩
theorem ok_ai {CX:CXT} (A4:Ap K mg E4 fAI fdAI):FnOk P w K mg base CX 1 fAI fdAI ["self","cut"] (spXI K E4 fAI "cut"):=by
 refine A4.f.okD scAI (fun vs H Q E h=>?_) (fun cdv A outer s H vs Q E hr h=>?_)
 ·obtain ⟨e,t,v,rfl,_⟩:=h
  rfl
 ·obtain ⟨e,t,v,rfl,he,k⟩:=h
  refine ⟨_,pss_one (ps_xfld (pv 0) (pv 1) rfl),?_⟩
  exact ⟨_,rfl,_,rfl,e,E4,t,fAI,rfl,he,A4.x,A4.no,fun dx hdx=>k dx hdx⟩
def ApE (E4:Addr) (H:Hp) (ms:List Str) (ps:List (Str × Str)) (E:XK):Prop:=∀ (zs:List Str) (q dx:Addr) (H':Hp),Least ms ps zs->H' q=some (.tup (zs.map V.str))->H' dx=some (.xd [("cut",.ref q)])->Same H H'->E (.ref E4) (some dx) H'
def spChkHX (C E4:Addr):Sp:=fun vs H _ E=>∃ (x:Addr) (ns:List Str) (ps:List (Str × Str)),vs=[.ref x]/\WebObj C H x ns ps/\GoodW ns ps/\¬ Hangs ns ps/\ApE E4 H ns ps E
theorem ok_chkHX {f:Addr} {fd:FuncData} (F:Fun K "check_hangs" "check_hangs" sChkH f fd) (DHa:Df K mg "hangs" sHangs ["web"] fHa fdHa) (G:FnOk P w K mg base CX0 4 fHa fdHa ["web"] (spHaB C)) (DPi:Df K mg "pieces" sPieces ["web"] fPi fdPi) (GP:FnOk P w K mg base CX0 3 fPi fdPi ["web"] (spPi C)) (A4:Ap K mg E4 fAI fdAI) (T:Glb mg):FnOk P w K mg base (CXD P w) 5 f fd ["web"] (spChkHX C E4):=by
 have GI:FnOk P w K mg base (CXD P w) 1 fAI fdAI ["self","cut"] (spXI K E4 fAI "cut"):=ok_ai A4
 refine F.okD scCkH (fun vs H Q E h=>?_) (fun cdv A outer s H vs Q E hr h=>?_)
 ·obtain ⟨x,ns,ps,rfl,_⟩:=h
  rfl
 ·obtain ⟨x,ns,ps,rfl,hW,g,hh,k⟩:=h
  have h2:=hr.mono (j:=2) (by decide)
  have h3:=hr.mono (j:=3) (by decide)
  refine ⟨_,pss_one (ps_if (pt_not (pt_val (pe_call G hr rfl DHa.mgf DHa.fn.kp DHa.b .nil pass0 (pa_cons (pv 0) pa_nil)) (fun _=>rfl)))
   (pss_one (ps_raiseD rfl A4.b A4.x GI h2 A4.bi (pa_cons (pe_ix ix_list (pe_call GP h3 rfl DPi.mgf DPi.fn.kp DPi.b .nil pass0 (pa_cons (pv 0) pa_nil)) pe_int (fun _ _=>rfl)) pa_nil))) pss_nil),?_⟩
  refine ⟨_,rfl,x,ns,ps,rfl,hW,g,fun b H' eb s'=>?_⟩
  have bf:b=false:=by cases b with | false=>rfl | true=>exact absurd (eb.mp rfl) hh
  subst bf
  refine ⟨_,rfl,iteT ?_⟩
  refine ⟨_,rfl,x,ns,ps,rfl,hW.same s',g,fun l qs H2 nl hl ho pc s2=>?_⟩
  obtain ⟨q,r,rfl⟩:∃ q r,qs=q::r:=by
   cases qs with
   | cons q r=>exact ⟨q,r,rfl⟩
   | nil =>
    obtain ⟨z0,h0⟩:∃ z,z∈srt ns:=by
     have h1:=g.good.one
     cases e:srt ns with
     | nil=>exact absurd (show ns.length=0 from by have:=congrArg List.length e;rw [srt_len] at this;exact this) (by omega)
     | cons z r=>exact ⟨z,List.mem_cons_self⟩
    have:=(pc.mem (comp (srt ns) ps z0)).mpr ⟨z0,h0,rfl⟩
    simp at this
  refine ⟨l,_,_,V.ref q.1,rfl,rfl,SqL.of hl,atI_nat (j:=0) rfl,_,rfl,fun dx hdx=>?_⟩
  exact k q.2 q.1 dx _ pc.least (by rw [upd_ne (ne_of_none (ho q (by simp)) hdx)];exact ho q (by simp)) upd_same (s'.trans (s2.trans (same_upd hdx)))
structure Nr (C:Addr) (H:Hp) (x l:Addr) (ms:List Str) (ps:List (Str × Str)) (ks:List Nat):Prop where
 nm:Nm C H x l ms ps ks
 rs:Rs ps ks
theorem Nr.same {H H':Hp} {x l:Addr} {ms:List Str} {ps:List (Str × Str)} {ks:List Nat} (h:Nr C H x l ms ps ks) (s:Same H H'):Nr C H' x l ms ps ks:={ h with nm:=h.nm.same s }
structure Me (P:Program) (w:World) (K:PySem.W.Frag) (mg:Str->Option Value) (base:Heap) (C E4 fCh fCL fMB:Addr) (fdCh fdCL fdMB:FuncData):Prop where
 dh:Df K mg "check_hangs" sChkH ["web"] fCh fdCh
 gh:FnOk P w K mg base CX0 5 fCh fdCh ["web"] (spChkH C)
 gx:FnOk P w K mg base (CXD P w) 5 fCh fdCh ["web"] (spChkHX C E4)
 dl:Df K mg "check_list" sChkL nWT fCL fdCL
 gl:FnOk P w K mg base CX0 3 fCL fdCL nWT (spChkL C)
 db:Df K mg "missed_by" sMissB nWT fMB fdMB
 gb:FnOk P w K mg base CX0 4 fMB fdMB nWT (spMB C)
def spMd (C:Addr):Sp:=fun vs H Q _=>∃ (x l:Addr) (ms:List Str) (ps:List (Str × Str)) (ks:List Nat),vs=[.ref x,.ref l]/\Nr C H x l ms ps ks/\Hangs ms ps/\∀ v H',Told H' v (mis ms ps ks)->Same H H'->Q v H'
def spMdX (C E4:Addr):Sp:=fun vs H _ E=>∃ (x l:Addr) (ms:List Str) (ps:List (Str × Str)) (ks:List Nat),vs=[.ref x,.ref l]/\Nr C H x l ms ps ks/\¬ Hangs ms ps/\ApE E4 H ms ps E
theorem scMd:FnScope nWT nWT (defScope sMissed):=⟨rfl,rfl,rfl,by decide +kernel,rfl,by decide +kernel,by decide +kernel⟩
theorem ok_md {f:Addr} {fd:FuncData} (F:Fun K "missed" "missed" sMissed f fd) (B:Me P w K mg base C E4 fCh fCL fMB fdCh fdCL fdMB) (T:Glb mg):FnOk P w K mg base CX0 6 f fd nWT (spMd C):=by
 have Gh:=B.gh
 have Gl:=B.gl
 have Gb:=B.gb
 refine F.ok scMd (fun vs H Q E h=>?_) (fun cdv A outer s H vs Q E hr h=>?_)
 ·obtain ⟨x,l,ms,ps,ks,rfl,_⟩:=h
  rfl
 ·obtain ⟨x,l,ms,ps,ks,rfl,n,hh,k⟩:=h
  have h3:=hr.mono (j:=3) (by decide)
  have h4:=hr.mono (j:=4) (by decide)
  refine ⟨_,pss_cons (ps_expr (pe_call Gh hr rfl B.dh.mgf B.dh.fn.kp B.dh.b .nil pass0 (pa_cons (pv 0) pa_nil)))
   (pss_cons (ps_expr (pe_call Gl h3 rfl B.dl.mgf B.dl.fn.kp B.dl.b .nil pass0 (pa_cons (pv 0) (pa_cons (pv 1) pa_nil))))
   (pss_one (ps_ret (pe_call Gb h4 rfl B.db.mgf B.db.fn.kp B.db.b .nil pass0 (pa_cons (pv 0) (pa_cons (pv 1) pa_nil)))))),?_⟩
  refine ⟨_,rfl,x,ms,ps,rfl,n.nm.web,n.nm.good,hh,fun H1 s1=>?_⟩
  have n1:=n.same s1
  refine ⟨_,rfl,_,rfl,x,l,ms,ps,ks,rfl,n1.nm.web,n1.nm.good.few,n1.nm.hl,n1.rs,fun H2 s2=>?_⟩
  have n2:=n1.same s2
  exact ⟨_,rfl,_,rfl,x,l,ms,ps,ks,rfl,n2.nm,fun v H3 e s3=>k v H3 e (s1.trans (s2.trans s3))⟩
theorem ok_mdX {f:Addr} {fd:FuncData} (F:Fun K "missed" "missed" sMissed f fd) (B:Me P w K mg base C E4 fCh fCL fMB fdCh fdCL fdMB) (T:Glb mg):FnOk P w K mg base (CXD P w) 6 f fd nWT (spMdX C E4):=by
 have Gx:=B.gx
 refine F.okD scMd (fun vs H Q E h=>?_) (fun cdv A outer s H vs Q E hr h=>?_)
 ·obtain ⟨x,l,ms,ps,ks,rfl,_⟩:=h
  rfl
 ·obtain ⟨x,l,ms,ps,ks,rfl,n,hh,k⟩:=h
  refine ⟨_,pss_cons (ps_expr (pe_call Gx hr rfl B.dh.mgf B.dh.fn.kp B.dh.b .nil passD (pa_cons (pv 0) pa_nil))) (pss_cons ps_never (pss_one ps_never)),?_⟩
  exact ⟨_,rfl,x,ms,ps,rfl,n.nm.web,n.nm.good,hh,k⟩
def spIsM (C:Addr):Sp:=fun vs H Q _=>∃ (x l:Addr) (ms:List Str) (ps:List (Str × Str)) (ks:List Nat),vs=[.ref x,.ref l]/\Nr C H x l ms ps ks/\Hangs ms ps/\∀ b H',(b=true ↔ Full ms ps ks)->Same H H'->Q (.bl b) H'
theorem scIM:FnScope nWT nWT (defScope sIsMt):=⟨rfl,rfl,rfl,by decide +kernel,rfl,by decide +kernel,by decide +kernel⟩
theorem ok_ism {f:Addr} {fd:FuncData} (F:Fun K "is_meeter" "is_meeter" sIsMt f fd) (DM:Df K mg "missed" sMissed nWT fMd fdMd) (GM:FnOk P w K mg base CX0 6 fMd fdMd nWT (spMd C)) (T:Glb mg):FnOk P w K mg base CX0 7 f fd nWT (spIsM C):=by
 refine F.ok scIM (fun vs H Q E h=>?_) (fun cdv A outer s H vs Q E hr h=>?_)
 ·obtain ⟨x,l,ms,ps,ks,rfl,_⟩:=h
  rfl
 ·obtain ⟨x,l,ms,ps,ks,rfl,n,hh,k⟩:=h
  refine ⟨_,pss_one (ps_ret (pe_cmpR op_isN (pe_call GM hr rfl DM.mgf DM.fn.kp DM.b .nil pass0 (pa_cons (pv 0) (pa_cons (pv 1) pa_nil))) pe_non (nomark _))),?_⟩
  refine ⟨_,rfl,_,rfl,x,l,ms,ps,ks,rfl,n,hh,fun v H1 e s1=>⟨rfl,?_⟩⟩
  refine k _ _ ?_ s1
  rw [decide_eq_true_iff,<- mis_none n.nm.good.good.nd]
  cases em:mis ms ps ks with
  | none=>rw [em] at e;exact ⟨fun _=>rfl,fun _=>e⟩
  | some zs =>
   rw [em] at e
   obtain ⟨t,rfl,_⟩:=e
   exact ⟨(fun z=>nomatch z),(fun z=>nomatch z)⟩
theorem ok_ismX {f:Addr} {fd:FuncData} (F:Fun K "is_meeter" "is_meeter" sIsMt f fd) (DM:Df K mg "missed" sMissed nWT fMd fdMd) (GM:FnOk P w K mg base (CXD P w) 6 fMd fdMd nWT (spMdX C E4)) (T:Glb mg):FnOk P w K mg base (CXD P w) 7 f fd nWT (spMdX C E4):=by
 refine F.okD scIM (fun vs H Q E h=>?_) (fun cdv A outer s H vs Q E hr h=>?_)
 ·obtain ⟨x,l,ms,ps,ks,rfl,_⟩:=h
  rfl
 ·obtain ⟨x,l,ms,ps,ks,rfl,n,hh,k⟩:=h
  refine ⟨_,pss_one (ps_ret (pe_cmpR op_isN (pe_call GM hr rfl DM.mgf DM.fn.kp DM.b .nil passD (pa_cons (pv 0) (pa_cons (pv 1) pa_nil))) pe_non (nomark _))),?_⟩
  exact ⟨_,rfl,_,rfl,x,l,ms,ps,ks,rfl,n,hh,k⟩
end
open PySem PySem.Spec PyProof.Rows L2 L3
abbrev sAny:Stmt:=top 41 -- _law_any
abbrev sFlo:Stmt:=top 42 -- _law_flood
section
variable {P:Program} {w:World} {K:PySem.W.Frag} {mg:Str->Option Value} {base:Heap}
def spAny:Sp:=fun vs H Q _=>∃ (p:Addr) (m o:Int),vs=[.ref p,.int m,.int o]/\0 < m/\m<=12/\0 < o/\o<=20/\Row H p/\∀ (t a b:Addr) (ns:List Str) (ps:List (Str × Str)) (ts:List Addr) (H':Hp),Lists H' a b ns ps ts->a≠p->b≠p->H' t=some (.tup [.ref a,.ref b])->Row H' p->But p H H'->Q (.ref t) H'
abbrev nAny:List Str:=["_law_pot_here","_law_most","_law_more","_law_names_here","_law_ties","_law_k"]
theorem scAny:FnScope nAny aHg (defScope sAny):=⟨rfl,rfl,rfl,by decide +kernel,rfl,by decide +kernel,by decide +kernel⟩
theorem ok_any {f fD fW fN:Addr} {fd fdD fdW fdN:FuncData} (F:Fun K "_law_any" "_law_any" sAny f fd) (D:Df K mg "_law_draw" sTake ["_law_pot_here","_law_many"] fD fdD) (DW:Df K mg "_law_name" sWord ["_law_pot_here"] fW fdW)
  (DN:Df K mg "_law_names" sNames ["_law_pot_here","_law_most"] fN fdN) (T:Glb mg):FnOk P w K mg base CX0 4 f fd aHg spAny:=by
 have G:FnOk P w K mg base CX0 1 fD fdD ["_law_pot_here","_law_many"] spDraw:=ok_take D.fn T
 have GN:FnOk P w K mg base CX0 3 fN fdN ["_law_pot_here","_law_most"] spNames:=ok_names DN.fn D DW T
 refine F.ok scAny (fun vs H Q E h=>?_) (fun cdv A outer s H vs Q E hr h=>?_)
 ·obtain ⟨p,m,o,rfl,_⟩:=h
  rfl
 ·obtain ⟨p,m,o,rfl,m0,m12,o0,o20,hp,k⟩:=h
  have h1:=hr.mono (j:=1) (by decide)
  refine ⟨_,pss_cons (ps_set (i:=3) scAny.nd rfl (Or.inl rfl) (pe_call GN hr rfl DN.mgf DN.fn.kp DN.b .nil pass0 (pa_cons (pv 0) (pa_cons (pv 1) pa_nil))))
   (pss_cons (ps_set (i:=4) scAny.nd rfl (Or.inl rfl) (pe_lst pa_nil))
   (pss_cons (ps_for PassesOwn.never rfl (pi_range1 rfl T.range (pa_cons (pe_call G h1 rfl D.mgf D.fn.kp D.b .nil pass0 (pa_cons (pv 0) (pa_cons (pv 2) pa_nil))) pa_nil)) (pg_name (i:=5) scAny.nd rfl (Or.inl rfl))
    (pss_one (ps_expr (pe_bm PySem.F.plainAttrs_list PySem.F.slot_list_append PySem.F.type_list_append mt_append (pv 4) (pa_cons
     (pe_tup (pa_cons (pe_ix ix_list (pv 3) (pe_call G h1 rfl D.mgf D.fn.kp D.b .nil pass0 (pa_cons (pv 0) (pa_cons (pe_callB call_len_seq (by rfl) T.len PySem.boot_len (pa_cons (pv 3) pa_nil)) pa_nil))) (fun _ _=>rfl))
      (pa_cons (pe_ix ix_list (pv 3) (pe_call G h1 rfl D.mgf D.fn.kp D.b .nil pass0 (pa_cons (pv 0) (pa_cons (pe_callB call_len_seq (by rfl) T.len PySem.boot_len (pa_cons (pv 3) pa_nil)) pa_nil))) (fun _ _=>rfl)) pa_nil))) pa_nil)))))
   (pss_one (ps_ret (pe_tup (pa_cons (pv 3) (pa_cons (pv 4) pa_nil))))))),?_⟩
  have big:1000<=sizeLine:=by decide
  have nep:∀ {HH:Hp} {q:Addr},Row HH p->HH q=none->q≠p:=fun r n e=>by obtain ⟨x,y,z⟩:=r;rw [e,z] at n;cases n
  refine ⟨_,rfl,_,rfl,p,m,rfl,m0,m12,hp,fun a ns H2 good na ha r2 b2=>?_⟩
  have nap:=nep hp na
  refine ⟨(by decide),fun b nb=>?_⟩
  have nbp:=nep r2 nb
  have nab:a≠b:=ne_of_none ha nb
  have Hb:H b=none:=b2.none nb nbp
  have W0:WI p a b ns H 0 [] [] (upd H2 b (.lst [])):=⟨r2.upd_ne (Ne.symm nbp),b2.upd_new Hb,by rw [L2.upd_ne nab];exact ha,upd_same,.nil,(fun _ z=>nomatch z),rfl⟩
  have few:=good.few
  have one:=good.one
  refine ⟨_,rfl,_,rfl,p,o,rfl,W0.row,o0,by omega,fun d H6 d0 d1 r6 b6=>?_⟩
  obtain ⟨dn,rfl⟩:=Int.eq_ofNat_of_zero_le d0
  have W6:=W0.drawn b6 r6 nap nbp
  refine ⟨_,rfl,by omega,by omega,?_⟩
  rw [Int.toNat_natCast]
  refine for_range (fun i σ HH=>∃ v5 ps ts,σ=[some (.ref p),some (.int m),some (.int o),some (.ref a),some (.ref b),v5]/\WI p a b ns H i ps ts HH) ⟨_,[],[],rfl,W6⟩ ?_ ?_
  ·rintro i σ H7 hi ⟨v5,ps,ts,rfl,W7⟩
   have hlen:((ns.map V.str).length:Int)=ns.length:=by rw [List.length_map]
   refine ⟨_,rfl,.inl ⟨rfl,_,SqL.of W7.hb⟩,_,rfl,_,rfl,_,rfl,a,_,rfl,.inl (SqL.of W7.ha),p,_,rfl,W7.row,by rw [hlen];omega,by rw [hlen];omega,fun i0 H8 i1 i2 r8 b8=>?_⟩
   have W8:=W7.drawn b8 r8 nap nbp
   rw [hlen] at i2
   obtain ⟨x,rfl⟩:=Int.eq_ofNat_of_zero_le i1
   have lx:x < ns.length:=by omega
   refine ⟨a,_,_,_,rfl,rfl,SqL.of W8.ha,atI_nat (j:=x) (v:=.str ns[x]) (by simp [lx]),?_⟩
   refine ⟨_,rfl,_,rfl,_,rfl,a,_,rfl,.inl (SqL.of W8.ha),p,_,rfl,W8.row,by rw [hlen];omega,by rw [hlen];omega,fun j0 H9 j1 j2 r9 b9=>?_⟩
   have W9:=W8.drawn b9 r9 nap nbp
   rw [hlen] at j2
   obtain ⟨y,rfl⟩:=Int.eq_ofNat_of_zero_le j1
   have ly:y < ns.length:=by omega
   refine ⟨a,_,_,_,rfl,rfl,SqL.of W9.ha,atI_nat (j:=y) (v:=.str ns[y]) (by simp [ly]),(by show 2<=sizeLine;decide),fun t nt=>?_⟩
   have lt7:ts.length=i:=by rw [W9.ties.len,W9.len]
   have WB:=(W9.new nt).put ts.length (e:=(ns[x],ns[y])) upd_same (List.getElem_mem lx) (List.getElem_mem ly) (by omega) nbp nab Hb
   have e1:(ts.map V.ref).take ts.length++V.ref t::(ts.map V.ref).drop ts.length=ts.map V.ref++[V.ref t]:=by rw [List.take_of_length_le (by simp),List.drop_of_length_le (by simp)]
   rw [e1] at WB
   exact ⟨b,_,_,rfl,rfl,(W9.new nt).hb,by rw [List.length_map];omega,_,_,_,rfl,WB⟩
  ·rintro σ H7 ⟨v5,ps,ts,rfl,W7⟩
   refine ⟨_,rfl,_,rfl,(by show 2<=sizeLine;decide),fun tq ntq=>?_⟩
   have WF:=W7.new (o:=.tup [.ref a,.ref b]) ntq
   exact k tq a b ns ps ts _ ⟨WF.ha,WF.hb,WF.ties,good,WF.ins,by rw [WF.len];omega⟩ nap nbp upd_same WF.row WF.but
structure Fa (ns:List Str) (gs:List (Str × Str)) (a:Str) (zs:List Str):Prop where
 nd:zs.Nodup
 sub:∀ z∈zs,z∈ns
 rch:∀ z∈zs,Rch gs a z
 mem:a∈zs
theorem Fa.more {ns:List Str} {gs:List (Str × Str)} {a b c:Str} {zs:List Str} (F:Fa ns gs a zs) (hi:InP ns gs) (hb:b∈zs) (t:(b,c)∈gs) (n:c ∉ zs):Fa ns gs a (zs++[c]) :=
 ⟨nd_snoc F.nd n,fun z hz=>(List.mem_append.mp hz).elim (F.sub z) fun e=>by rw [List.mem_singleton.mp e];exact (hi _ t).2,fun z hz=>(List.mem_append.mp hz).elim (F.rch z) fun e=>by rw [List.mem_singleton.mp e];exact (F.rch b hb).on t,List.mem_append_left _ F.mem⟩
def Cl (ps:List (Str × Str)) (ks:List Nat) (i:Nat) (zs:List Str):Prop:=∀ j p,j < i->ps[j]?=some p->(p.1∈zs->p.2∈zs)/\(j∈ks->p.2∈zs->p.1∈zs)
theorem Cl.all {ns:List Str} {ps:List (Str × Str)} {ks:List Nat} {zs:List Str} {a:Str} (h:Cl ps ks ps.length zs) (F:Fa ns (gr ps ks) a zs):∀ z,z∈zs ↔ Rch (gr ps ks) a z:=fun z=>⟨F.rch z,fun r=>r.stays (S:=(·∈zs)) F.mem fun p hp h1=>by
 obtain ⟨x,y⟩:=p
 unfold gr at hp
 rcases List.mem_append.mp hp with q | q
 ·obtain ⟨j,hj,e⟩:=List.getElem_of_mem q
  exact (h j (x,y) hj (by rw [<- e];simp [hj])).1 h1
 ·obtain ⟨j,hj,e⟩:=sel_mem.mp (turn_mem.mp q)
  have hl:j < ps.length:=by
   refine Classical.byContradiction fun n=>?_
   rw [List.getElem?_eq_none (by omega)] at e;cases e
  exact (h j (y,x) hl e).2 hj h1⟩
def spFlo:Sp:=fun vs H Q _=>∃ (b l:Addr) (a:Str) (ns:List Str) (ts:List Addr) (ps:List (Str × Str)) (ks:List Nat),vs=[.ref b,.ref l,.str a]/\H b=some (.lst (ts.map V.ref))/\TiesAt H ts ps/\H l=some (.lst (nV ks))/\ns.length<=12/\InP ns ps/\a∈ns /\
 ∀ (q:Addr) (zs:List Str) (H':Hp),H q=none->zs.Nodup->(∀ z∈zs,z∈ns)->(∀ z,z∈zs ↔ Rch (gr ps ks) a z)->H' q=some (.lst (zs.map V.str))->Same H H'->Q (.ref q) H'
abbrev nFlo:List Str:=["_law_ties","_law_both","_law_begin","_law_found","_law_many","_law_k","_law_a","_law_b"]
abbrev aFlo:List Str:=["_law_ties","_law_both","_law_begin"]
theorem scFlo:FnScope nFlo aFlo (defScope sFlo):=⟨rfl,rfl,rfl,by decide +kernel,rfl,by decide +kernel,by decide +kernel⟩
def FaW (b l fo:Addr) (a:Str) (ns:List Str) (ps:List (Str × Str)) (ks:List Nat) (H:Hp) (m:Nat) (σ:L2.St) (H2:Hp):Prop :=
 ∃ (n:Nat) (v5 v6 v7:Option V) (zs:List Str),σ=[some (.ref b),some (.ref l),some (.str a),some (.ref fo),some (.int (n:Int)),v5,v6,v7]/\Same H H2/\H2 fo=some (.lst (zs.map V.str))/\Fa ns (gr ps ks) a zs/\n<=zs.length /\
  (n=zs.length->Cl ps ks ps.length zs)/\m=ns.length - n
theorem ok_flo {f:Addr} {fd:FuncData} (F:Fun K "_law_flood" "_law_flood" sFlo f fd) (en:mg "enumerate" = none) (T:Glb mg):FnOk P w K mg base CX0 1 f fd aFlo spFlo:=by
 refine F.ok scFlo (fun vs H Q E h=>?_) (fun cdv A outer s H vs Q E hr h=>?_)
 ·obtain ⟨b,l,a,ns,ts,ps,ks,rfl,_⟩:=h
  rfl
 ·obtain ⟨b,l,a,ns,ts,ps,ks,rfl,hb,hT,hl,few,gi,ha,k⟩:=h
  have gg:=gr_in gi ks
  refine ⟨_,pss_cons (ps_set (i:=3) scFlo.nd rfl (Or.inl rfl) (pe_lst (pa_cons (pv 2) pa_nil)))
   (pss_cons (ps_set (i:=4) scFlo.nd rfl (Or.inl rfl) pe_int)
   (pss_cons (ps_while PassesOwn.never (pt_cmpR op_lt (pv 4) (pe_callB call_len_seq (by rfl) T.len PySem.boot_len (pa_cons (pv 3) pa_nil)) (nomark _))
    (pss_cons (ps_set (i:=4) scFlo.nd rfl (Or.inl rfl) (pe_callB call_len_seq (by rfl) T.len PySem.boot_len (pa_cons (pv 3) pa_nil)))
    (pss_one (ps_for PassesOwn.never rfl (pi_enum rfl en (pa_cons (pv 0) pa_nil)) (pg_tup rfl (pgs_cons (pg_name (i:=5) scFlo.nd rfl (Or.inl rfl)) (pgs_cons (pg_tup rfl (pgs_cons (pg_name (i:=6) scFlo.nd rfl (Or.inl rfl)) (pgs_cons (pg_name (i:=7) scFlo.nd rfl (Or.inl rfl)) pgs_nil))) pgs_nil)))
     (pss_cons (ps_if (PW.pt (pw_and (pt_cmpR op_in_seq (pv 6) (pv 3) rfl) (pw_and1 (pt_cmpR op_notIn_seq (pv 7) (pv 3) rfl))))
      (pss_one (ps_expr (pe_bm PySem.F.plainAttrs_list PySem.F.slot_list_append PySem.F.type_list_append mt_append (pv 3) (pa_cons (pv 7) pa_nil)))) pss_nil)
     (pss_one (ps_if (PW.pt (pw_and (pt_cmpR op_in_seq (pv 5) (pv 1) rfl) (pw_and (pt_cmpR op_in_seq (pv 7) (pv 3) rfl) (pw_and1 (pt_cmpR op_notIn_seq (pv 6) (pv 3) rfl)))))
      (pss_one (ps_expr (pe_bm PySem.F.plainAttrs_list PySem.F.slot_list_append PySem.F.type_list_append mt_append (pv 3) (pa_cons (pv 6) pa_nil)))) pss_nil)))))))
   (pss_one (ps_ret (pv 3))))),?_⟩
  refine ⟨_,rfl,(by show 1<=sizeLine;decide),fun fo hfo=>?_⟩
  refine ⟨FaW b l fo a ns ps ks H,⟨_,0,_,_,_,[a],rfl,same_upd hfo,upd_same,⟨by simp,fun z hz=>by rw [List.mem_singleton.mp hz];exact ha,fun z hz=>by rw [List.mem_singleton.mp hz];exact .here _,List.mem_singleton.mpr rfl⟩,Nat.zero_le _,(fun e=>by simp at e),rfl⟩,?_⟩
  rintro m σ H2 ⟨n,v5,v6,v7,zs,rfl,s2,hfo2,FL,nle,cl,rfl⟩
  have zle:zs.length<=ns.length:=nd_le FL.nd FL.sub
  refine ⟨_,rfl,_,rfl,fo,_,rfl,.inl (SqL.of hfo2),_,_,rfl,rfl,_,rfl,?_⟩
  rw [List.length_map]
  refine ite2 (fun c=>?_) (fun c=>?_)
  ·have hn:n < zs.length:=by have:=of_decide_eq_true c;omega
   refine ⟨fun σ' H'=>∃ m',m' < ns.length - n/\FaW b l fo a ns ps ks H m' σ' H',fun σ' H' h=>h,?_⟩
   refine ⟨_,rfl,fo,_,rfl,.inl (SqL.of hfo2),?_⟩
   rw [List.length_map]
   refine ⟨_,rfl,b,rfl,⟨_,SqL.of (s2 _ _ hb)⟩,?_⟩
   refine for_enum (K:=K) (xs:=ts.map V.ref) (fun i σ H4=>∃ (v5 v6 v7:Option V) (zs4:List Str),σ=[some (.ref b),some (.ref l),some (.str a),some (.ref fo),some (.int (zs.length:Int)),v5,v6,v7]/\Same H H4/\H4 fo=some (.lst (zs4.map V.str))/\Fa ns (gr ps ks) a zs4/\zs.length<=zs4.length/\(zs.length=zs4.length->Cl ps ks i zs4))
    ⟨_,_,_,zs,rfl,s2,hfo2,FL,Nat.le_refl _,fun _ j p hj=>absurd hj (Nat.not_lt_zero _)⟩ ?_ ?_ ?_
   ·rintro i σ H4 _ ⟨_,_,_,_,rfl,s4,_⟩
    exact SqL.of (s4 _ _ hb)
   ·rintro i y σ H4 q hy ⟨v5,v6,v7,zs4,rfl,s4,hfo4,F4,le4,cl4⟩ hq
    rw [List.getElem?_map] at hy
    obtain ⟨u,eu,rfl⟩:=Option.map_eq_some_iff.mp hy
    obtain ⟨pr,ep,hpr⟩:=(hT.same s4).get eu
    have hm:pr∈ps:=List.mem_of_getElem? ep
    have sq:=same_upd (o:=.tup [.int i,.ref u]) hq
    have hq5:=upd_same (H:=H4) (a:=q) (o:=.tup [.int i,.ref u])
    have s5:=s4.trans sq
    have hfo5:=sq _ _ hfo4
    have hpr5:=sq _ _ hpr
    generalize upd H4 q (.tup [.int i,.ref u])=H5 at hq5 s5 hfo5 hpr5 ⊢
    have hl5:=s5 _ _ hl
    have l12:=nd_le F4.nd F4.sub
    refine ⟨q,_,rfl,SqT.of hq5,rfl,_,_,rfl,_,_,rfl,u,_,rfl,SqT.of hpr5,rfl,_,_,rfl,_,_,rfl,rfl,rfl,?_⟩
    have g1:(pr.1,pr.2)∈gr ps ks:=by unfold gr;exact List.mem_append_left _ hm
    refine ⟨_,rfl,_,rfl,fo,_,rfl,.inl (SqL.of hfo5),rfl,flat_strs zs4,_,rfl,?_⟩
    simp only [Bool.false_eq_true,if_false]
    rw [inV_str]
    refine ite2 (fun h1=>⟨_,rfl,_,rfl,fo,_,rfl,.inl (SqL.of hfo5),rfl,flat_strs zs4,_,rfl,?c1⟩) (fun h1=>?c2)
    case' c1 =>
     have h1:pr.1∈zs4:=by simpa using h1
     simp only [if_true]
     rw [inV_str]
     refine ite2 (fun h2=>⟨_,rfl,.inl ⟨rfl,_,SqL.of hfo5⟩,_,rfl,fo,_,_,rfl,rfl,hfo5,(by rw [List.length_map];exact small1000 (by omega)),?c3⟩) (fun h2=>?c4)
    case' c3 =>
     have h2:pr.2 ∉ zs4:=by simpa using h2
     obtain ⟨H6,zs6,e6,s6,h6,F6,le6,c1,c6⟩:∃ H6 zs6,upd H5 fo (.lst (zs4.map V.str++[V.str pr.2]))=H6/\Same H H6/\H6 fo=some (.lst (zs6.map V.str))/\Fa ns (gr ps ks) a zs6/\zs.length<=zs6.length/\(pr.1∈zs6->pr.2∈zs6)/\(zs.length=zs6.length->Cl ps ks i zs6) :=
      ⟨_,zs4++[pr.2],rfl,Same.upd_new s5 hfo,by rw [upd_same];simp,F4.more gg h1 g1 h2,by rw [List.length_append];omega,fun _=>List.mem_append_right _ (List.mem_singleton.mpr rfl),fun e=>by rw [List.length_append,List.length_singleton] at e;omega⟩
     rw [e6]
    case' c4 =>
     have h2:pr.2∈zs4:=by simpa using h2
     obtain ⟨H6,zs6,e6,s6,h6,F6,le6,c1,c6⟩:∃ H6 zs6,H5=H6/\Same H H6/\H6 fo=some (.lst (zs6.map V.str))/\Fa ns (gr ps ks) a zs6/\zs.length<=zs6.length/\(pr.1∈zs6->pr.2∈zs6)/\(zs.length=zs6.length->Cl ps ks i zs6) :=
      ⟨_,zs4,rfl,s5,hfo5,F4,le4,fun _=>h2,cl4⟩
     rw [e6]
    case' c2 =>
     have h1:pr.1 ∉ zs4:=by simpa using h1
     obtain ⟨H6,zs6,e6,s6,h6,F6,le6,c1,c6⟩:∃ H6 zs6,H5=H6/\Same H H6/\H6 fo=some (.lst (zs6.map V.str))/\Fa ns (gr ps ks) a zs6/\zs.length<=zs6.length/\(pr.1∈zs6->pr.2∈zs6)/\(zs.length=zs6.length->Cl ps ks i zs6) :=
      ⟨_,zs4,rfl,s5,hfo5,F4,le4,fun h=>absurd h h1,cl4⟩
     rw [e6]
    all_goals
     have l6:=nd_le F6.nd F6.sub
     have stay:(i∈ks->pr.2∈zs6->pr.1∈zs6)->(zs.length=zs6.length->Cl ps ks (i+1) zs6):=fun c2 e j p hj ej=>by
      rcases Nat.lt_succ_iff_lt_or_eq.mp hj with h | rfl
      ·exact c6 e j p h ej
      ·rw [ep] at ej;cases ej;exact ⟨c1,c2⟩
     refine ⟨_,rfl,_,rfl,l,_,rfl,.inl (SqL.of (s6 _ _ hl)),rfl,flat_n ks,_,rfl,?_⟩
     simp only [Bool.false_eq_true,if_false]
     rw [inV_n]
     refine ite2 (fun k1=>⟨_,rfl,_,rfl,fo,_,rfl,.inl (SqL.of h6),rfl,flat_strs zs6,_,rfl,?_⟩) (fun k1=>⟨_,_,_,zs6,rfl,s6,h6,F6,le6,stay fun h=>absurd (decide_eq_true h) k1⟩)
     have k1:i∈ks:=by simpa using k1
     simp only [Bool.false_eq_true,if_false]
     rw [inV_str]
     refine ite2 (fun k2=>⟨_,rfl,_,rfl,fo,_,rfl,.inl (SqL.of h6),rfl,flat_strs zs6,_,rfl,?_⟩) (fun k2=>⟨_,_,_,zs6,rfl,s6,h6,F6,le6,stay fun _ h=>absurd (decide_eq_true h) k2⟩)
     have k2:pr.2∈zs6:=by simpa using k2
     simp only [if_true]
     rw [inV_str]
     refine ite2 (fun k3=>?_) (fun k3=>⟨_,_,_,zs6,rfl,s6,h6,F6,le6,stay fun _ _=>by simpa using k3⟩)
     have k3:pr.1 ∉ zs6:=by simpa using k3
     have g2:(pr.2,pr.1)∈gr ps ks:=by unfold gr;exact List.mem_append_right _ (turn_mem.mpr (sel_mem.mpr ⟨i,k1,ep⟩))
     refine ⟨_,rfl,.inl ⟨rfl,_,SqL.of h6⟩,_,rfl,fo,_,_,rfl,rfl,h6,(by rw [List.length_map];exact small1000 (by omega)),_,_,_,zs6++[pr.1],rfl,Same.upd_new s6 hfo,by rw [upd_same];simp,F6.more gg k2 g2 k3,by rw [List.length_append];omega,fun e=>?_⟩
     rw [List.length_append,List.length_singleton] at e;omega
   ·rintro σ H4 ⟨v5,v6,v7,zs4,rfl,s4,hfo4,F4,le4,cl4⟩
    rw [List.length_map,hT.len] at cl4
    exact ⟨ns.length - zs.length,by omega,zs.length,_,_,_,zs4,rfl,s4,hfo4,F4,le4,cl4,rfl⟩
  ·have hn:n=zs.length:=by
    have:¬ ((n:Int) < (zs.length:Int)):=fun h=>c (decide_eq_true h)
    omega
   exact ⟨_,rfl,k fo zs _ hfo FL.nd FL.sub ((cl hn).all FL) hfo2 s2⟩
end
abbrev sIP:Stmt:=top 43 -- _law_is_part
abbrev sCr:Stmt:=top 44 -- _law_crossing
theorem dist_self {zs:List Str} (h:zs.Nodup):(dist zs).length=zs.length:=by
 have h1:=dist_le zs
 have h2:=L3.nd_len h (m:=dist zs) fun z hz=>mem_dist.mpr hz
 omega
structure Prt (ns zs:List Str):Prop where
 nd:zs.Nodup
 up:srt zs=zs
 sub:∀ z∈zs,z∈ns
 ne:0 < zs.length
 lt:zs.length < ns.length
section
variable {P:Program} {w:World} {K:PySem.W.Frag} {mg:Str->Option Value} {base:Heap}
def spIP:Sp:=fun vs H Q _=>∃ (a t:Addr) (ns zs:List Str),vs=[.ref a,.ref t]/\H a=some (.lst (ns.map V.str))/\ns.length<=12/\H t=some (.tup (zs.map V.str))/\Prt ns zs/\∀ H',Same H H'->Q (.bl true) H'
abbrev nIP:List Str:=["_law_names_here","_law_thing"]
theorem scIP:FnScope nIP nIP (defScope sIP):=⟨rfl,rfl,rfl,by decide +kernel,rfl,by decide +kernel,by decide +kernel⟩
theorem ok_ip {f:Addr} {fd:FuncData} (F:Fun K "_law_is_part" "_law_is_part" sIP f fd) (T:Glb mg):FnOk P w K mg base CX0 1 f fd nIP spIP:=by
 refine F.ok scIP (fun vs H Q E h=>?_) (fun cdv A outer s H vs Q E hr h=>?_)
 ·obtain ⟨a,t,ns,zs,rfl,_⟩:=h
  rfl
 ·obtain ⟨a,t,ns,zs,rfl,ha,few,ht,pt,k⟩:=h
  refine ⟨_,pss_cons (ps_if (PW.pt (pw_or (pt_not (pt_val (pe_callB (call_isinst (T:="tuple")) (by rfl) T.isinst boot_isinstance (pa_cons (pv 1) (pa_cons (pe_bltn (v:=.ty "tuple") rfl T.tuple PyProof.Rows.boot_tuple rfl) pa_nil))) (fun _=>rfl)))
    (pw_or1 (pt_not (pt_chain op_lt op_lt pe_int (pe_callB call_len_seq (by rfl) T.len PySem.boot_len (pa_cons (pv 1) pa_nil)) (pe_callB call_len_seq (by rfl) T.len PySem.boot_len (pa_cons (pv 0) pa_nil))))))) (pss_one (ps_ret pe_bl)) pss_nil)
   (pss_one (ps_ret (pe_and (pe_cmpR (op_eq_flat (low 0 hr)) (pe_callTy call_list_of (by rfl) T.list PyProof.Rows.boot_list (pa_cons (pv 1) pa_nil)) (pe_callB call_sorted_txtT (by rfl) T.sorted boot_sorted (pa_cons (pv 1) pa_nil)) (nomark _))
    (pe_and (pe_cmpR op_eq (pe_callB (call_len_setT (P:=P) (w:=w)) (by rfl) T.len PySem.boot_len (pa_cons (pe_callTy (call_setP (P:=P) (w:=w) (K:=K) rfl) (by rfl) T.set PyProof.Rows.boot_set (pa_cons (pv 1) pa_nil)) pa_nil)) (pe_callB call_len_seq (by rfl) T.len PySem.boot_len (pa_cons (pv 1) pa_nil)) (nomark _))
     (pe_one (pe_callB (call_all rfl) (by rfl) T.all boot_all (pa_cons (pe_lc ["_law_one"] [0] rfl (compSc (osc:=(defScope sIP).names) (N:=nIP) rfl rfl (by decide +kernel)) (gk_name (by decide)) (pi_tup (pv 1)) (fun _ _ _=>pg_name (i:=0) (show (["_law_one","_law_names_here"]:List Str).Nodup by decide +kernel) rfl (Or.inl rfl)) (fun _ _ _=>pifs_nil)
      (fun _ _ _=>pe_cmpR (r:=rIn K false) op_in_seq (pv 0) (pv 1) rfl)) pa_nil))))))),?_⟩
  have lz:=pt.lt
  have ne:=pt.ne
  refine ⟨_,rfl,_,_,true,rfl,.tup ht,rfl,_,rfl,?_⟩
  refine iteF ⟨_,rfl,t,_,rfl,.inr (SqT.of ht),_,_,rfl,rfl,_,rfl,?_⟩
  rw [List.length_map]
  rw [decide_eq_true (show (0:Int) < (zs.length:Int) by omega)]
  refine iteT ⟨_,rfl,a,_,rfl,.inl (SqL.of ha),_,_,rfl,rfl,_,rfl,?_⟩
  rw [List.length_map,decide_eq_true (show (zs.length:Int) < (ns.length:Int) by omega)]
  refine iteF ?_
  refine ⟨_,rfl,t,_,rfl,.inr (SqT.of ht),fun l1 n1=>?_⟩
  have s1:=same_upd (o:=.lst (zs.map V.str)) n1
  have h1:=upd_same (H:=H) (a:=l1) (o:=.lst (zs.map V.str))
  generalize upd H l1 (.lst (zs.map V.str))=H1 at s1 h1 ⊢
  refine ⟨_,rfl,t,zs,rfl,SqT.of (s1 _ _ ht),by omega,fun l2 n2=>?_⟩
  rw [pt.up]
  have s2:=same_upd (o:=.lst (zs.map V.str)) n2
  have h2:=upd_same (H:=H1) (a:=l2) (o:=.lst (zs.map V.str))
  have h12:=s2 _ _ h1
  generalize upd H1 l2 (.lst (zs.map V.str))=H2 at s2 h2 h12 ⊢
  have s02:=s1.trans s2
  refine ⟨l1,l2,_,_,rfl,rfl,.inl ⟨SqL.of h12,SqL.of h2⟩,flat_strs zs,flat_strs zs,?_⟩
  rw [eqVs_str,decide_eq_true rfl]
  refine ⟨_,rfl,iteT ?_⟩
  refine ⟨_,rfl,t,zs,rfl,.inr (SqT.of (s02 _ _ ht)),Nat.lt_trans (show zs.length+1 < 100 by omega) (by decide),fun l3 n3=>?_⟩
  have s3:=same_upd (o:=TxtO P w l3 zs) n3
  refine ⟨l3,zs,rfl,upd_same,by omega,?_⟩
  have s03:=s02.trans s3
  generalize upd H2 l3 (TxtO P w l3 zs)=H3 at s3 s03 ⊢
  refine ⟨_,rfl,t,_,rfl,.inr (SqT.of (s03 _ _ ht)),rfl,?_⟩
  rw [List.length_map,dist_self pt.nd,decide_eq_true rfl]
  refine ⟨_,rfl,iteT ?_⟩
  refine ⟨_,rfl,t,rfl,⟨_,SqT.of (s03 _ _ ht)⟩,lc_tup (K:=K) (xs:=zs.map V.str) (fun i ys H4=>Same H3 H4/\ys=(zs.take i).map fun _=>V.bl true) ⟨Same.refl _,rfl⟩ ?_ ?_ ?_ ?_⟩
  ·rintro i ys H4 hi ⟨_,rfl⟩
   rw [List.length_map,List.length_take]
   exact Nat.le_trans (Nat.min_le_right _ _) (Nat.le_trans (Nat.le_of_lt lz) (Nat.le_trans few (by decide)))
  ·rintro i ys H4 _ ⟨s4,_⟩
   exact SqT.of (s4 _ _ (s03 _ _ ht))
  ·rintro i x ys H4 R hx ⟨s4,rfl⟩ kR
   rw [List.getElem?_map] at hx
   obtain ⟨z,ez,rfl⟩:=Option.map_eq_some_iff.mp hx
   simp only [tYes,gName,if_true]
   refine ⟨_,rfl,_,rfl,a,_,rfl,.inl (SqL.of (s4 _ _ (s03 _ _ ha))),rfl,flat_strs ns,?_⟩
   simp only [Bool.false_eq_true,if_false]
   rw [inV_str,decide_eq_true (pt.sub z (List.mem_of_getElem? ez))]
   exact kR _ _ ⟨s4,by rw [List.take_add_one,ez];simp⟩
  ·rintro ys H4 ⟨s4,rfl⟩ D hD
   rw [List.length_map,List.take_length]
   have e:zs.map (fun _=>V.bl true)=(zs.map fun _=>true).map V.bl:=by simp
   refine ⟨D,zs.map fun _=>true,rfl,(by rw [e];exact SqL.of upd_same),?_⟩
   have e2:(zs.map fun _=>true).all id=true:=by simp
   rw [e2]
   exact k _ (s03.trans (s4.trans (same_upd hD)))
def cfl (f:Str × Str->Bool) (ps:List (Str × Str)) (n:Nat):List Nat:=(List.range n).filter fun k=>match ps[k]? with | some p=>f p | none=>false
theorem cfl_succ {f:Str × Str->Bool} {ps:List (Str × Str)} {i:Nat} {p:Str × Str} (h:ps[i]?=some p):cfl f ps (i+1)=cfl f ps i++(if f p=true then [i] else []):=by
 unfold cfl
 rw [List.range_succ,List.filter_append]
 congr 1
 rw [List.filter_cons]
 simp only [h,List.filter_nil]
theorem cfl_len (f:Str × Str->Bool) (ps:List (Str × Str)) (n:Nat):(cfl f ps n).length<=n:=by
 unfold cfl
 exact Nat.le_trans (List.length_filter_le _ _) (by rw [List.length_range];exact Nat.le_refl _)
theorem cfl_mem {f:Str × Str->Bool} {ps:List (Str × Str)} {n k:Nat}:k∈cfl f ps n ↔ k < n/\∃ p,ps[k]?=some p/\f p=true:=by
 unfold cfl
 rw [List.mem_filter,List.mem_range]
 refine and_congr_right fun _=>?_
 cases e:ps[k]? with
 | none=>simp
 | some p=>simp
def lvF (zs:List Str) (p:Str × Str):Bool:=decide (p.1∈zs) && !decide (p.2∈zs)
def enF (zs:List Str) (p:Str × Str):Bool:=!decide (p.1∈zs) && decide (p.2∈zs)
theorem nV_app (a b:List Nat):nV (a++b)=nV a++nV b:=by unfold nV;rw [List.map_append]
def spCr:Sp:=fun vs H Q _=>∃ (b t:Addr) (ts:List Addr) (ps:List (Str × Str)) (zs:List Str),vs=[.ref b,.ref t]/\H b=some (.lst (ts.map V.ref))/\TiesAt H ts ps/\ps.length<=30/\H t=some (.tup (zs.map V.str)) /\
 ∀ (r l1 l2:Addr) (H':Hp),H' r=some (.tup [.ref l1,.ref l2])->H' l1=some (.lst (nV (cfl (lvF zs) ps ps.length)))->H' l2=some (.lst (nV (cfl (enF zs) ps ps.length)))->Same H H'->Q (.ref r) H'
abbrev nCr:List Str:=["_law_ties","_law_cut","_law_leaving"]
abbrev aCr:List Str:=["_law_ties","_law_cut"]
theorem scCr:FnScope nCr aCr (defScope sCr):=⟨rfl,rfl,rfl,by decide +kernel,rfl,by decide +kernel,by decide +kernel⟩
theorem ok_cr {f:Addr} {fd:FuncData} (F:Fun K "_law_crossing" "_law_crossing" sCr f fd) (en:mg "enumerate" = none) (T:Glb mg):FnOk P w K mg base CX0 1 f fd aCr spCr:=by
 refine F.ok scCr (fun vs H Q E h=>?_) (fun cdv A outer s H vs Q E hr h=>?_)
 ·obtain ⟨b,t,ts,ps,zs,rfl,_⟩:=h
  rfl
 ·obtain ⟨b,t,ts,ps,zs,rfl,hb,hT,p30,ht,k⟩:=h
  refine ⟨_,pss_cons (ps_setL (i:=2) ["_law_k","_law_a","_law_b"] [1] scCr.nd rfl rfl rfl (compSc (osc:=(defScope sCr).names) (N:=nCr) rfl rfl (by decide +kernel)) (gk_one_two (K:=K) (k:=2) (l:=2) (by decide) (by decide) (by decide)) (pi_enum rfl en (pa_cons (pv 0) pa_nil))
    (fun _ _ _=>pg_tup rfl (pgs_cons (pg_name (i:=0) (show (["_law_k","_law_a","_law_b","_law_cut"]:List Str).Nodup by decide +kernel) rfl (Or.inl rfl)) (pgs_cons (pg_tup rfl (pgs_cons (pg_name (i:=1) (show (["_law_k","_law_a","_law_b","_law_cut"]:List Str).Nodup by decide +kernel) rfl (Or.inl rfl)) (pgs_cons (pg_name (i:=2) (show (["_law_k","_law_a","_law_b","_law_cut"]:List Str).Nodup by decide +kernel) rfl (Or.inl rfl)) pgs_nil))) pgs_nil)))
    (fun _ _ _=>pifs_one (PW.pt (pw_and (pt_cmpR (r:=rIn K false) op_in_seq (pv 1) (pv 3) rfl) (pw_and1 (pt_cmpR (r:=rIn K true) op_notIn_seq (pv 2) (pv 3) rfl)))))
    (fun _ _ _=>pv 0))
   (pss_one (ps_ret (pe_tup (pa_cons (pv 2) (pa_cons (pe_lc ["_law_k","_law_a","_law_b"] [1] rfl (compSc (osc:=(defScope sCr).names) (N:=nCr) rfl rfl (by decide +kernel)) (gk_one_two (K:=K) (k:=2) (l:=2) (by decide) (by decide) (by decide)) (pi_enum rfl en (pa_cons (pv 0) pa_nil))
    (fun _ _ _=>pg_tup rfl (pgs_cons (pg_name (i:=0) (show (["_law_k","_law_a","_law_b","_law_cut"]:List Str).Nodup by decide +kernel) rfl (Or.inl rfl)) (pgs_cons (pg_tup rfl (pgs_cons (pg_name (i:=1) (show (["_law_k","_law_a","_law_b","_law_cut"]:List Str).Nodup by decide +kernel) rfl (Or.inl rfl)) (pgs_cons (pg_name (i:=2) (show (["_law_k","_law_a","_law_b","_law_cut"]:List Str).Nodup by decide +kernel) rfl (Or.inl rfl)) pgs_nil))) pgs_nil)))
    (fun _ _ _=>pifs_one (PW.pt (pw_and (pt_cmpR (r:=rIn K true) op_notIn_seq (pv 1) (pv 3) rfl) (pw_and1 (pt_cmpR (r:=rIn K false) op_in_seq (pv 2) (pv 3) rfl)))))
    (fun _ _ _=>pv 0)) pa_nil))))),?_⟩
  have le:(ts.map V.ref).length=ps.length:=by rw [List.length_map,hT.len]
  have big:30<=sizeLine:=by decide
  have nl:∀ l:List Nat,(nV l).length=l.length:=fun l=>by unfold nV;rw [List.length_map]
  refine ⟨_,rfl,b,rfl,⟨_,SqL.of hb⟩,?_⟩
  refine lc_enum (K:=K) (xs:=ts.map V.ref) (fun i ys H4=>Same H H4/\ys=nV (cfl (lvF zs) ps i)) ⟨Same.refl _,rfl⟩ ?_ ?_ ?_ ?_
  ·rintro i ys H4 hi ⟨_,rfl⟩
   rw [nl]
   rw [le] at hi
   exact Nat.le_trans (cfl_len _ ps i) (Nat.le_trans hi (Nat.le_trans p30 big))
  ·rintro i ys H4 _ ⟨s4,_⟩
   exact SqL.of (s4 _ _ hb)
  ·rintro i v ys H4 qn R hv ⟨s4,rfl⟩ hqn kR
   rw [List.getElem?_map] at hv
   obtain ⟨u,et,rfl⟩:=Option.map_eq_some_iff.mp hv
   obtain ⟨p,ep,hp⟩:=hT.get et
   have s5:=s4.trans (same_upd (o:=.tup [.int i,.ref u]) hqn)
   have hq5:=upd_same (H:=H4) (a:=qn) (o:=.tup [.int i,.ref u])
   generalize upd H4 qn (.tup [.int i,.ref u])=H5 at s5 hq5 ⊢
   have fin:=cfl_succ (f:=lvF zs) ep
   unfold lvF at fin
   refine ⟨qn,_,rfl,SqT.of hq5,rfl,_,_,rfl,_,_,rfl,⟨u,_,rfl,SqT.of (s5 _ _ hp),rfl,_,_,rfl,_,_,rfl,rfl,rfl,?_⟩⟩
   refine ⟨_,rfl,_,rfl,t,_,rfl,.inr (SqT.of (s5 _ _ ht)),rfl,flat_strs zs,_,rfl,?_⟩
   simp only [Bool.false_eq_true,if_false]
   rw [inV_str]
   by_cases h1:p.1∈zs
   ·rw [decide_eq_true h1] at fin ⊢
    refine iteT ⟨_,rfl,_,rfl,t,_,rfl,.inr (SqT.of (s5 _ _ ht)),rfl,flat_strs zs,_,rfl,?_⟩
    simp only [if_true]
    rw [inV_str]
    by_cases h2:p.2∈zs
    ·rw [decide_eq_true h2] at fin ⊢
     exact iteF (kR _ _ ⟨s5,by unfold lvF;rw [fin];simp⟩)
    ·rw [decide_eq_false h2] at fin ⊢
     exact iteT ⟨_,rfl,kR _ _ ⟨s5,by unfold lvF;rw [fin,nV_app];rfl⟩⟩
   ·rw [decide_eq_false h1] at fin ⊢
    exact iteF (kR _ _ ⟨s5,by unfold lvF;rw [fin];simp⟩)
  ·rintro ys H4 ⟨s4,rfl⟩ l1 n1
   rw [le]
   have s5:=s4.trans (same_upd (o:=.lst (nV (cfl (lvF zs) ps ps.length))) n1)
   have h1:=upd_same (H:=H4) (a:=l1) (o:=.lst (nV (cfl (lvF zs) ps ps.length)))
   generalize upd H4 l1 (.lst (nV (cfl (lvF zs) ps ps.length)))=H5 at s5 h1 ⊢
   refine ⟨_,rfl,_,rfl,b,rfl,⟨_,SqL.of (s5 _ _ hb)⟩,?_⟩
   refine lc_enum (K:=K) (xs:=ts.map V.ref) (fun i ys H6=>Same H5 H6/\ys=nV (cfl (enF zs) ps i)) ⟨Same.refl _,rfl⟩ ?_ ?_ ?_ ?_
   ·rintro i ys H6 hi ⟨_,rfl⟩
    rw [nl]
    rw [le] at hi
    exact Nat.le_trans (cfl_len _ ps i) (Nat.le_trans hi (Nat.le_trans p30 big))
   ·rintro i ys H6 _ ⟨s6,_⟩
    exact SqL.of (s6 _ _ (s5 _ _ hb))
   ·rintro i v ys H6 qn R hv ⟨s6,rfl⟩ hqn kR
    rw [List.getElem?_map] at hv
    obtain ⟨u,et,rfl⟩:=Option.map_eq_some_iff.mp hv
    obtain ⟨p,ep,hp⟩:=hT.get et
    have s7:=s6.trans (same_upd (o:=.tup [.int i,.ref u]) hqn)
    have hq7:=upd_same (H:=H6) (a:=qn) (o:=.tup [.int i,.ref u])
    generalize upd H6 qn (.tup [.int i,.ref u])=H7 at s7 hq7 ⊢
    have s07:=s5.trans s7
    have fin:=cfl_succ (f:=enF zs) ep
    unfold enF at fin
    refine ⟨qn,_,rfl,SqT.of hq7,rfl,_,_,rfl,_,_,rfl,⟨u,_,rfl,SqT.of (s07 _ _ hp),rfl,_,_,rfl,_,_,rfl,rfl,rfl,?_⟩⟩
    refine ⟨_,rfl,_,rfl,t,_,rfl,.inr (SqT.of (s07 _ _ ht)),rfl,flat_strs zs,_,rfl,?_⟩
    simp only [if_true]
    rw [inV_str]
    by_cases h1:p.1∈zs
    ·rw [decide_eq_true h1] at fin ⊢
     refine iteF ?_
     simp only [Bool.false_eq_true,if_false]
     exact kR _ _ ⟨s7,by unfold enF;rw [fin];simp⟩
    ·rw [decide_eq_false h1] at fin ⊢
     refine iteT ⟨_,rfl,_,rfl,t,_,rfl,.inr (SqT.of (s07 _ _ ht)),rfl,flat_strs zs,_,rfl,?_⟩
     simp only [Bool.false_eq_true,if_false]
     rw [inV_str]
     by_cases h2:p.2∈zs
     ·rw [decide_eq_true h2] at fin ⊢
      exact iteT ⟨_,rfl,kR _ _ ⟨s7,by unfold enF;rw [fin,nV_app];rfl⟩⟩
     ·rw [decide_eq_false h2] at fin ⊢
      exact iteF (kR _ _ ⟨s7,by unfold enF;rw [fin];simp⟩)
   ·rintro ys H6 ⟨s6,rfl⟩ l2 n2
    rw [le]
    have s7:=same_upd (o:=.lst (nV (cfl (enF zs) ps ps.length))) n2
    have h2:=upd_same (H:=H6) (a:=l2) (o:=.lst (nV (cfl (enF zs) ps ps.length)))
    have h17:=s7 _ _ (s6 _ _ h1)
    have s07:=s5.trans (s6.trans s7)
    generalize upd H6 l2 (.lst (nV (cfl (enF zs) ps ps.length)))=H7 at s7 h2 h17 s07 ⊢
    refine ⟨(by show 2<=sizeLine;decide),fun r nr=>?_⟩
    have s8:=same_upd (o:=.tup [.ref l1,.ref l2]) nr
    exact k r l1 l2 _ upd_same (s8 _ _ h17) (s8 _ _ h2) (s07.trans s8)
end
open PySem PySem.Spec PyProof.Rows L2 L3 L6
abbrev sCT:Stmt:=top 45 -- _law_cut_told
abbrev sApt:Stmt:=top 46 -- _law_apart
theorem exm_mk {K:PySem.W.Frag} {t c:Value} (h1:PySem.W.subIn K c (.type "BaseException")=some true) (h2:PySem.W.kitOne K t c=some true) (h3:(t == c)=false):PySem.W.exmOne K t c=some true:=by
 unfold PySem.W.exmOne
 unfold PySem.W.kitOne at h2
 rw [h3,if_neg Bool.false_ne_true] at h2
 rw [if_pos (by rw [h1];rfl),h2]
theorem boot_VE:bootBuiltins "ValueError" = some (.type "ValueError"):=by rfl
structure Errs (K:PySem.W.Frag) (mg:Str->Option Value) (E0 E1 E4 E5 E6:Addr):Prop where
 b0:mg "WebError" = some (.ref E0)
 b1:mg "NoTie" = some (.ref E1)
 b4:mg "Apart" = some (.ref E4)
 b5:mg "NoMeeter" = some (.ref E5)
 b6:mg "TooFew" = some (.ref E6)
 ve:mg "ValueError" = none
 ex:PySem.W.exmOne K (.ref E4) (.ref E0)=some true
 k1:PySem.W.kitOne K (.ref E4) (.ref E4)=some true
 k2:PySem.W.kitOne K (.ref E4) (.type "ValueError")=some true
 k3:PySem.W.kitAny K (.ref E4) [.ref E5,.ref E1,.ref E6]=some false
abbrev rIsD (K:PySem.W.Frag):List V->Hp->VK->Prop:=fun xs H Q=>∃ (a C:Addr) (od:Option Addr) (c:V) (cv:Value) (b:Bool),xs=[.ref a,c]/\(∀ u,RelV c u->u=cv)/\H a=some (excD a (.ref C) od)/\ExcCl K C/\PySem.W.kitOne K (.ref C) cv=some b/\Q (.bl b) H
abbrev rIsDT (K:PySem.W.Frag):List V->Hp->VK->Prop:=fun xs H Q=>∃ (a C tp:Addr) (od:Option Addr) (cs:List V) (cvs:List Value) (b:Bool),xs=[.ref a,.ref tp]/\H tp=some (.tup cs)/\(∀ us,Vals cs us->us=cvs)/\H a=some (excD a (.ref C) od)/\ExcCl K C/\PySem.W.kitAny K (.ref C) cvs=some b/\Q (.bl b) H
section
variable {P:Program} {w:World} {K:PySem.W.Frag} {mg:Str->Option Value} {base:Heap}
variable {C E0 E1 E4 E5 E6 fAI fX fCT fIP fCr:Addr} {fdAI fdX fdCT fdIP fdCr:FuncData}
def spCT (C fX:Addr):Sp:=fun vs H Q _=>∃ (x l:Addr) (ms:List Str) (ps:List (Str × Str)) (ks:List Nat),vs=[.ref fX,.ref x,.ref l]/\Nr C H x l ms ps ks/\¬ Hangs ms ps/\∀ (zs:List Str) (q:Addr) (H':Hp),Least ms ps zs->H' q=some (.tup (zs.map V.str))->Same H H'->Q (.ref q) H'
abbrev nCT:List Str:=["_law_call","_law_web","_law_some","_law_told","e"]
abbrev aCT:List Str:=["_law_call","_law_web","_law_some"]
theorem scCTd:FnScope nCT aCT (defScope sCT):=⟨rfl,rfl,rfl,by decide +kernel,rfl,by decide +kernel,by decide +kernel⟩
theorem ok_ct {f:Addr} {fd:FuncData} (F:Fun K "_law_cut_told" "_law_cut_told" sCT f fd) (A4:Ap K mg E4 fAI fdAI) (X:Errs K mg E0 E1 E4 E5 E6) (kx:PySem.W.keepIn K (.ref fX)=true) (bx:Binds K fdX nWT []) (G:FnOk P w K mg base (CXD P w) 7 fX fdX nWT (spMdX C E4)) (T:Glb mg):FnOk P w K mg base CX0 8 f fd aCT (spCT C fX):=by
 refine F.ok scCTd (fun vs H Q E h=>?_) (fun cdv A outer s H vs Q E hr h=>?_)
 ·obtain ⟨x,l,ms,ps,ks,rfl,_⟩:=h
  rfl
 ·obtain ⟨x,l,ms,ps,ks,rfl,n,nh,k⟩:=h
  refine ⟨_,pss_cons (ps_set (i:=3) scCTd.nd rfl (Or.inl rfl) pe_non)
   (pss_cons (ps_tryD rfl rfl (ped_callV G hr kx bx .nil (fun _=>pv 0) (fun _=>pa_cons (pv 1) (pa_cons (pv 2) pa_nil))) rfl X.b0 scCTd.nd (i:=4) rfl rfl (fun _=>pss_one (ps_if
    (PW.pt (pw_and (pt_val (pe_callB (r:=rIsD K) call_isD (by rfl) T.isinst boot_isinstance (pa_cons (pv 4) (pa_cons (pe_glob (v:=.ref E4) rfl X.b4 rfl) pa_nil))) (fun _=>rfl))
     (pw_and (pt_val (pe_callB (r:=rIsD K) call_isD (by rfl) T.isinst boot_isinstance (pa_cons (pv 4) (pa_cons (pe_bltn (v:=.ty "ValueError") rfl X.ve boot_VE rfl) pa_nil))) (fun _=>rfl))
     (pw_and1 (pt_not (pt_val (pe_callB (r:=rIsDT K) call_isDT (by rfl) T.isinst boot_isinstance (pa_cons (pv 4) (pa_cons (pe_tup (pa_cons (pe_glob (v:=.ref E5) rfl X.b5 rfl) (pa_cons (pe_glob (v:=.ref E1) rfl X.b1 rfl) (pa_cons (pe_glob (v:=.ref E6) rfl X.b6 rfl) pa_nil)))) pa_nil))) (fun _=>rfl)))))))
    (pss_one (ps_set (i:=3) scCTd.nd rfl (Or.inl rfl) (pe_xfldK (K:=K) (pv 4) rfl))) pss_nil)))
   (pss_one (ps_ret (pv 3)))),?_⟩
  refine ⟨_,rfl,rfl,_,rfl,_,rfl,x,l,ms,ps,ks,rfl,n,nh,fun zs q dx H1 le hq hd s1=>⟨X.ex,fun a ha=>?_⟩⟩
  have ha':=upd_same (H:=H1) (a:=a) (o:=excD a (.ref E4) (some dx))
  have s2:=same_upd (o:=excD a (.ref E4) (some dx)) ha
  have hd':=s2 _ _ hd
  have hq':=s2 _ _ hq
  generalize upd H1 a (excD a (.ref E4) (some dx))=H2 at ha' s2 hd' hq' ⊢
  refine ⟨_,rfl,a,E4,some dx,_,.ref E4,true,rfl,(fun u r=>r),ha',A4.x.xc,X.k1,_,rfl,?_⟩
  refine iteT ⟨_,rfl,a,E4,some dx,_,.type "ValueError",true,rfl,(fun u r=>r),ha',A4.x.xc,X.k2,_,rfl,?_⟩
  refine iteT ⟨_,rfl,(by show 3<=sizeLine;decide),fun tp htp=>?_⟩
  have s3:=same_upd (o:=.tup [V.ref E5,V.ref E1,V.ref E6]) htp
  refine ⟨a,E4,tp,some dx,_,[.ref E5,.ref E1,.ref E6],false,rfl,upd_same,?_,s3 _ _ ha',A4.x.xc,X.k3,_,rfl,iteT ?_⟩
  ·intro us r
   cases r with
   | cons r1 r =>
    cases r with
    | cons r2 r =>
     cases r with
     | cons r3 r =>
      cases r
      cases r1
      cases r2
      cases r3
      rfl
  refine ⟨_,rfl,a,E4,dx,_,.ref q,rfl,s3 _ _ ha',s3 _ _ hd',A4.x.xc,A4.x.hd,A4.no,rfl,?_⟩
  exact ⟨_,rfl,k zs q _ le (s3 _ _ hq') (s1.trans (s2.trans s3))⟩
theorem cfl_nil {f:Str × Str->Bool} {ps:List (Str × Str)} (n:Nat) (h:∀ p∈ps,f p=false):cfl f ps n=[]:=by
 refine List.eq_nil_iff_forall_not_mem.mpr fun k hk=>?_
 obtain ⟨_,p,e,q⟩:=cfl_mem.mp hk
 rw [h p (List.mem_of_getElem? e)] at q
 cases q
theorem Pc.prt {ms:List Str} {ps:List (Str × Str)} {zs:List Str} (p:Pc ms ps zs):Prt ms zs:=⟨p.nd,p.up,p.sub,p.ne,p.lt⟩
theorem Pc.lv {ms:List Str} {ps:List (Str × Str)} {zs:List Str} (p:Pc ms ps zs) (n:Nat):cfl (lvF zs) ps n=[]:=cfl_nil n fun q hq=>by
 unfold lvF
 by_cases h:q.1∈zs
 ·simp [h,(p.bth q hq).mp h]
 ·simp [h]
theorem Pc.en {ms:List Str} {ps:List (Str × Str)} {zs:List Str} (p:Pc ms ps zs) (n:Nat):cfl (enF zs) ps n=[]:=cfl_nil n fun q hq=>by
 unfold enF
 by_cases h:q.2∈zs
 ·simp [h,(p.bth q hq).mpr h]
 ·simp [h]
theorem al_tup {K:PySem.W.Frag} {H:Hp} {p q:Addr} {zs:List Str} (hp:H p=some (.tup (zs.map V.str))) (hq:H q=some (.tup (zs.map V.str))):AlS K H 0 (.ref p) (.ref q) :=
 ⟨p,q,_,_,rfl,rfl,.inr ⟨SqT.of hp,SqT.of hq⟩,rfl,fun i a b ha hb=>by
  rw [ha] at hb;cases hb
  rw [List.getElem?_map] at ha
  obtain ⟨z,_,rfl⟩:=Option.map_eq_some_iff.mp ha
  exact ⟨rfl,rfl⟩⟩
def spApt (C fX:Addr):Sp:=fun vs H Q _=>∃ (a b x l:Addr) (ms:List Str) (ps:List (Str × Str)) (ts:List Addr) (ks:List Nat),vs=[.ref a,.ref b,.ref fX,.ref x,.ref l]/\Lists H a b ms ps ts/\Nr C H x l ms ps ks/\¬ Hangs ms ps/\∀ H',Same H H'->Q (.bl true) H'
abbrev nApt:List Str:=["_law_names_here","_law_ties","_law_call","_law_web","_law_some","_law_told"]
abbrev aApt:List Str:=["_law_names_here","_law_ties","_law_call","_law_web","_law_some"]
theorem scApt:FnScope nApt aApt (defScope sApt):=⟨rfl,rfl,rfl,by decide +kernel,rfl,by decide +kernel,by decide +kernel⟩
theorem ok_apt {f:Addr} {fd:FuncData} (F:Fun K "_law_apart" "_law_apart" sApt f fd) (DC:Df K mg "_law_cut_told" sCT aCT fCT fdCT) (GC:FnOk P w K mg base CX0 8 fCT fdCT aCT (spCT C fX)) (DI:Df K mg "_law_is_part" sIP nIP fIP fdIP) (DR:Df K mg "_law_crossing" sCr aCr fCr fdCr) (en:mg "enumerate" = none) (T:Glb mg):FnOk P w K mg base CX0 9 f fd aApt (spApt C fX):=by
 have GI:FnOk P w K mg base CX0 1 fIP fdIP nIP spIP:=ok_ip DI.fn T
 have GR:FnOk P w K mg base CX0 1 fCr fdCr aCr spCr:=ok_cr DR.fn en T
 refine F.ok scApt (fun vs H Q E h=>?_) (fun cdv A outer s H vs Q E hr h=>?_)
 ·obtain ⟨a,b,x,l,ms,ps,ts,ks,rfl,_⟩:=h
  rfl
 ·obtain ⟨a,b,x,l,ms,ps,ts,ks,rfl,L,n,nh,k⟩:=h
  have h1:=hr.mono (j:=1) (by decide)
  refine ⟨_,pss_cons (ps_set (i:=5) scApt.nd rfl (Or.inl rfl) (pe_call GC hr rfl DC.mgf DC.fn.kp DC.b .nil pass0 (pa_cons (pv 2) (pa_cons (pv 3) (pa_cons (pv 4) pa_nil)))))
   (pss_cons (ps_if (PW.pt (pw_or (pt_not (pt_val (pe_call GI h1 rfl DI.mgf DI.fn.kp DI.b .nil pass0 (pa_cons (pv 0) (pa_cons (pv 5) pa_nil))) (fun _=>rfl)))
    (pw_or1 (pt_cmpR (op_ne_al 1 (low 1 hr)) (pe_call GR h1 rfl DR.mgf DR.fn.kp DR.b .nil pass0 (pa_cons (pv 1) (pa_cons (pv 5) pa_nil))) (pe_tup (pa_cons (pe_lst pa_nil) (pa_cons (pe_lst pa_nil) pa_nil))) (nomark _))))) (pss_one (ps_ret pe_bl)) pss_nil)
   (pss_one (ps_ret (pe_cmpR (op_eq_al 0 (low 0 hr)) (pe_call GC hr rfl DC.mgf DC.fn.kp DC.b .nil pass0 (pa_cons (pv 2) (pa_cons (pv 3) (pa_cons (pv 4) pa_nil)))) (pv 5) (nomark _))))),?_⟩
  refine ⟨_,rfl,_,rfl,_,rfl,x,l,ms,ps,ks,rfl,n,nh,fun zs q H1 le hq s1=>?_⟩
  have pc:=le.pc n.nm.good nh
  refine ⟨_,rfl,_,rfl,a,q,ms,zs,rfl,s1 _ _ L.ha,n.nm.good.good.few,hq,pc.prt,fun H2 s2=>⟨_,rfl,iteF ?_⟩⟩
  have s12:=s1.trans s2
  refine ⟨_,rfl,_,rfl,b,q,ts,ps,zs,rfl,s12 _ _ L.hb,L.hT.same s12,n.nm.good.few,s2 _ _ hq,fun r l1 l2 H3 hr3 hl1 hl2 s3=>?_⟩
  rw [pc.lv] at hl1
  rw [pc.en] at hl2
  refine ⟨(by decide),fun e1 n1=>?_⟩
  refine ⟨(by decide),fun e2 n2=>?_⟩
  refine ⟨(by show 2<=sizeLine;decide),fun t nt=>?_⟩
  have t1:=same_upd (o:=.lst []) n1
  have t2:=same_upd (o:=.lst []) n2
  have t3:=same_upd (o:=.tup [V.ref e1,V.ref e2]) nt
  have he1:=t3 _ _ (t2 _ _ (upd_same (H:=H3) (a:=e1) (o:=.lst [])))
  have he2:=t3 _ _ (upd_same (H:=upd H3 e1 (.lst [])) (a:=e2) (o:=.lst []))
  have het:=upd_same (H:=upd (upd H3 e1 (.lst [])) e2 (.lst [])) (a:=t) (o:=.tup [V.ref e1,V.ref e2])
  have t13:=t1.trans (t2.trans t3)
  generalize upd (upd (upd H3 e1 (.lst [])) e2 (.lst [])) t (.tup [V.ref e1,V.ref e2])=H4 at he1 he2 het t13 ⊢
  have s04:=s12.trans (s3.trans t13)
  have ni:∀ {x y:Addr},H4 x=some (.lst [])->H4 y=some (.lst [])->Al K H4 1 (.ref x) (.ref y):=fun hx hy=>.inr ⟨_,_,[],[],rfl,rfl,.inl ⟨SqL.of hx,SqL.of hy⟩,rfl,fun i a b ha=>by simp at ha⟩
  refine ⟨⟨r,t,_,_,rfl,rfl,.inr ⟨SqT.of (t13 _ _ hr3),SqT.of het⟩,rfl,fun i u v hu hv=>?_⟩,_,rfl,iteF ?_⟩
  ·match i with
   | 0=>cases hu;cases hv;exact ni (t13 _ _ hl1) he1
   | 1=>cases hu;cases hv;exact ni (t13 _ _ hl2) he2
   | _+2=>cases hu
  refine ⟨_,rfl,_,rfl,_,rfl,x,l,ms,ps,ks,rfl,n.same s04,nh,fun ys q2 H5 le2 hq2 s5=>?_⟩
  obtain rfl:=le2.uniq le
  exact ⟨_,rfl,al_tup hq2 ((s2.trans (s3.trans (t13.trans s5))) _ _ hq),k _ (s04.trans s5)⟩
end
end K41
namespace L2
open PySem PySem.Spec PyProof.Rows
def upto (n:Nat):List V:=(List.range n).map fun (k:Nat)=>V.int k
def tListRng (ta:TA):TE:=fun σ H Q=>ta σ H fun vs H1=>∃ n:Nat,vs=[.int n]/\n<=1000/\∀ l,H1 l=none->Q (.ref l) (upd H1 l (.lst (upto n)))
section
variable {X:Cx}
theorem pe_list_range {a:Expr} {ta:TA} {p p2 pos pos2:Pos} (hc:X.calm=true) (hgl:Gl X "list") (hml:X.mg "list" = none) (hg:Gl X "range") (hm:X.mg "range" = none) (ha:PA X [a] ta) (hs:starEach [a] X.env=[(false,eval a X.env)]:=by rfl)
  (hs2:starEach [.Call (.Name "range" p2) [a] [] pos2] X.env=[(false,eval (.Call (.Name "range" p2) [a] [] pos2) X.env)]:=by rfl):PE X (.Call (.Name "list" p) [.Call (.Name "range" p2) [a] [] pos2] [] pos) (tListRng ta):=by
 intro pins s σ H Q I h
 refine wpAny_Call_Name_kw (ld_blt I hgl hml PyProof.Rows.boot_list ?_)
 refine PyProof.Rows.callWith_type1 ?_ hs2 rfl
 rw [hs2]
 show wpAny _ _ (spliced ((false,eval _ X.env)::[])) _ _ s
 refine Calls.spliced_cons ?_
 refine wpAny_Call_Name_kw (ld_blt I hg hm boot_range ?_)
 refine PyProof.Rows.callWith_type1 (thn (ha pos2 pins s σ H _ I h) fun us s1 ⟨vs,H1,I1,r1,q1⟩=>?_) hs rfl
 obtain ⟨n,rfl,hn,q⟩:=q1
 obtain ⟨u,rfl,t,rfl⟩:=vals1 r1
 refine call_range_1 ?_
 refine Calls.spliced_nil ?_
 have I2:Inv X pins σ H1 { s1 with heap:=s1.heap.push { cls:=.type "range",data:=.fields #[.int 0 s1.toks,.int n t,.int 1 (s1.toks+1)] },toks:=s1.toks+1+1 }:=I1.kept fun b o e=>Heap.get?_push_of_some _ e
 refine PySem.call_list_range (n:=n) (I2.ok.hd hc) (IsRange.new ..) (small_one (by omega) (by omega) (by omega) (by omega)) (by rw [rangeSize_one];split<;>omega) (by omega) fun h' tk acc c' hk hS hacc=>?_
 refine ⟨.ref _,_,I2.laid (t':=tk) (o:=.lst (upto n)) hk (Nat.le_refl _) ?_,rfl,q _ (I2.hok.fresh (Nat.le_refl _))⟩
 refine ⟨by simp [upto];exact Nat.le_trans hn (by decide),acc.toList,c',vals_of_get (by simp [upto,hacc.1]) fun j w e=>?_,by simpa using hS⟩
 obtain ⟨k,rfl⟩:=hacc.2 j w (by simpa using e)
 have hj:j < n:=by
  have:=(List.getElem?_eq_some_iff.mp e).1
  simp [hacc.1] at this
  exact this
 exact ⟨.int j,by simp [upto,hj],k,by simp⟩
end
end L2
namespace K41
open PySem PySem.Spec PyProof.Rows L2 L3
abbrev sRi:Stmt:=top 47 -- _law_right
abbrev rLen (K:PySem.W.Frag):List V->Hp->VK->Prop:=fun xs H Q=>∃ (p:Addr) (ys:List V),xs=[V.ref p]/\(SqL K H p ys\/SqT K H p ys)/\Q (V.int ys.length) H
theorem upto_nV (n:Nat):upto n=nV (List.range n):=rfl
theorem rs_all (ps:List (Str × Str)):Rs ps (List.range ps.length):=⟨List.pairwise_lt_range,fun k hk=>List.mem_range.mp hk⟩
theorem full_all {ms:List Str} {ps:List (Str × Str)}:Full ms ps (List.range ps.length) ↔ Hangs ms ps:=by
 have e:∀ p,p∈gr ps (List.range ps.length) ↔ p∈both2 ps:=fun p=>by
  obtain ⟨x,y⟩:=p
  unfold gr both2
  rw [List.mem_append,List.mem_append]
  refine or_congr Iff.rfl ?_
  rw [turn_mem,turn_mem,sel_mem]
  constructor
  ·rintro ⟨k,_,h⟩
   exact List.mem_of_getElem? h
  ·intro h
   obtain ⟨j,hj,e⟩:=List.getElem_of_mem h
   exact ⟨j,List.mem_range.mpr hj,by rw [<- e];simp [hj]⟩
 exact ⟨fun f a ha b hb=>(f a ha b hb).mono fun p hp=>(e p).mp hp,fun f a ha b hb=>(f a ha b hb).mono fun p hp=>(e p).mpr hp⟩
theorem len_all {ms zs:List Str} {gs:List (Str × Str)} {a:Str} (nd:ms.Nodup) (nz:zs.Nodup) (sub:∀ z∈zs,z∈ms) (al:∀ z,z∈zs ↔ Rch gs a z):zs.length=ms.length ↔ ∀ b∈ms,Rch gs a b:=by
 constructor
 ·intro e b hb
  have p:=perm_of_sub nz sub (by omega)
  exact (al b).mp (p.mem_iff.mpr hb)
 ·intro h
  have h1:=nd_le nz sub
  have h2:=nd_le nd (fun b hb=>(al b).mpr (h b hb))
  omega
theorem CutK.prt {ms:List Str} {ps:List (Str × Str)} {ks:List Nat} {zs:List Str} (c:CutK ms ps ks zs):Prt ms zs:=⟨c.nd,c.up,c.sub,c.ne,c.lt⟩
theorem CutK.lv {ms:List Str} {ps:List (Str × Str)} {ks:List Nat} {zs:List Str} (c:CutK ms ps ks zs) (n:Nat):cfl (lvF zs) ps n=[]:=cfl_nil n fun q hq=>by
 unfold lvF
 by_cases h:q.1∈zs
 ·simp [h,c.out q hq h]
 ·simp [h]
theorem CutK.en {ms:List Str} {ps:List (Str × Str)} {ks:List Nat} {zs:List Str} (c:CutK ms ps ks zs) (n:Nat):((cfl (enF zs) ps n).filter fun k=>decide (k∈ks))=[]:=by
 refine List.eq_nil_iff_forall_not_mem.mpr fun k hk=>?_
 obtain ⟨h1,h2⟩:=List.mem_filter.mp hk
 obtain ⟨_,p,e,q⟩:=cfl_mem.mp h1
 unfold enF at q
 simp only [Bool.and_eq_true,Bool.not_eq_true',decide_eq_false_iff_not,decide_eq_true_eq] at q
 exact q.1 (c.inn k (of_decide_eq_true h2) p e q.2)
section
variable {P:Program} {w:World} {K:PySem.W.Frag} {mg:Str->Option Value} {base:Heap}
variable {C fFl fIP fCr fMd fIs:Addr} {fdFl fdIP fdCr fdMd fdIs:FuncData}
def spRi (C:Addr):Sp:=fun vs H Q _=>∃ (x a b l:Addr) (ms:List Str) (ps:List (Str × Str)) (ts:List Addr) (ks:List Nat),vs=[.ref x,.ref a,.ref b,.ref l]/\Lists H a b ms ps ts/\Nr C H x l ms ps ks/\Hangs ms ps/\∀ H',Same H H'->Q (.bl true) H'
abbrev nRi:List Str:=["_law_web","_law_names_here","_law_ties","_law_some","_law_due","_law_kept","_law_told","_law_cut","_law_leaving","_law_entering"]
abbrev aRi:List Str:=["_law_web","_law_names_here","_law_ties","_law_some"]
theorem scRi:FnScope nRi aRi (defScope sRi):=⟨rfl,rfl,rfl,by decide +kernel,rfl,by decide +kernel,by decide +kernel⟩
theorem ok_ri {f:Addr} {fd:FuncData} (F:Fun K "_law_right" "_law_right" sRi f fd) (DF:Df K mg "_law_flood" sFlo aFlo fFl fdFl) (DI:Df K mg "_law_is_part" sIP nIP fIP fdIP) (DR:Df K mg "_law_crossing" sCr aCr fCr fdCr)
  (DM:Df K mg "missed" sMissed nWT fMd fdMd) (GM:FnOk P w K mg base CX0 6 fMd fdMd nWT (spMd C)) (DS:Df K mg "is_meeter" sIsMt nWT fIs fdIs) (GS:FnOk P w K mg base CX0 7 fIs fdIs nWT (spIsM C)) (en:mg "enumerate" = none) (T:Glb mg):FnOk P w K mg base CX0 8 f fd aRi (spRi C):=by
 have GF:FnOk P w K mg base CX0 1 fFl fdFl aFlo spFlo:=ok_flo DF.fn en T
 have GI:FnOk P w K mg base CX0 1 fIP fdIP nIP spIP:=ok_ip DI.fn T
 have GR:FnOk P w K mg base CX0 1 fCr fdCr aCr spCr:=ok_cr DR.fn en T
 refine F.ok scRi (fun vs H Q E h=>?_) (fun cdv A outer s H vs Q E hr h=>?_)
 ·obtain ⟨x,a,b,l,ms,ps,ts,ks,rfl,_⟩:=h
  rfl
 ·obtain ⟨x,a,b,l,ms,ps,ts,ks,rfl,L,n,hh,k⟩:=h
  have h1:=hr.mono (j:=1) (by decide)
  have h6:=hr.mono (j:=6) (by decide)
  refine ⟨_,pss_cons (ps_set (i:=4) scRi.nd rfl (Or.inl rfl) (pe_callB (call_all rfl) (by rfl) T.all boot_all (pa_cons (pe_lc ["_law_name_here"] [1,2,3] rfl (compSc (osc:=(defScope sRi).names) (N:=nRi) rfl rfl (by decide +kernel)) (gk_name (by decide)) (pi_list (pv 1))
    (fun _ _ _=>pg_name (i:=0) (show (["_law_name_here","_law_names_here","_law_ties","_law_some"]:List Str).Nodup by decide +kernel) rfl (Or.inl rfl)) (fun _ _ _=>pifs_nil)
    (fun _ _ _=>pe_cmpR op_eq (pe_callB (r:=rLen K) call_len_seq (by rfl) T.len PySem.boot_len (pa_cons (pe_call GF h1 rfl DF.mgf DF.fn.kp DF.b .nil pass0 (pa_cons (pv 2) (pa_cons (pv 3) (pa_cons (pv 0) pa_nil)))) pa_nil)) (pe_callB (r:=rLen K) call_len_seq (by rfl) T.len PySem.boot_len (pa_cons (pv 1) pa_nil)) (nomark _))) pa_nil)))
   (pss_cons (ps_set (i:=5) scRi.nd rfl (Or.inl rfl) (pe_callTy call_list_of (by rfl) T.list PyProof.Rows.boot_list (pa_cons (pv 3) pa_nil)))
   (pss_cons (ps_set (i:=6) scRi.nd rfl (Or.inl rfl) (pe_call GS hr rfl DS.mgf DS.fn.kp DS.b .nil pass0 (pa_cons (pv 0) (pa_cons (pv 3) pa_nil))))
   (pss_cons (ps_set (i:=7) scRi.nd rfl (Or.inl rfl) (pe_call GM h6 rfl DM.mgf DM.fn.kp DM.b .nil pass0 (pa_cons (pv 0) (pa_cons (pv 3) pa_nil))))
   (pss_cons (ps_if (PW.pt (pw_or (pt_cmpR (op_ne_al 0 (low 0 hr)) (pv 3) (pv 5) (nomark _)) (pw_or (pt_not (pt_val (pe_callB (call_isinst (T:="bool")) (by rfl) T.isinst boot_isinstance (pa_cons (pv 6) (pa_cons (pe_bltn (v:=.ty "bool") rfl T.bool PyProof.Rows.boot_bool rfl) pa_nil))) (fun _=>rfl))) (pw_or1 (pt_cmpR op_ne (pv 6) (pv 4) (nomark _)))))) (pss_one (ps_ret pe_bl)) pss_nil)
   (pss_cons (ps_if (PW.pt (pw_or (pt_val (pv 4) (fun _=>rfl)) (pw_or1 (pt_cmpR op_isN (pv 7) pe_non (nomark _))))) (pss_one (ps_ret (pe_and (pv 4) (pe_one (pe_cmpR op_isN (pv 7) pe_non (nomark _)))))) pss_nil)
   (pss_cons (ps_if (pt_not (pt_val (pe_call GI h1 rfl DI.mgf DI.fn.kp DI.b .nil pass0 (pa_cons (pv 1) (pa_cons (pv 7) pa_nil))) (fun _=>rfl))) (pss_one (ps_ret pe_bl)) pss_nil)
   (pss_cons (ps_asg (pe_call GR h1 rfl DR.mgf DR.fn.kp DR.b .nil pass0 (pa_cons (pv 2) (pa_cons (pv 7) pa_nil))) (pg_tup rfl (pgs_cons (pg_name (i:=8) scRi.nd rfl (Or.inl rfl)) (pgs_cons (pg_name (i:=9) scRi.nd rfl (Or.inl rfl)) pgs_nil))))
   (pss_cons (ps_if (PW.pt (pw_or (pt_cmpR (op_ne_nil (low 0 hr)) (pv 8) (pe_lst pa_nil) (nomark _)) (pw_or1 (pt_cmpR (op_ne_nil (low 0 hr)) (pe_lc ["_law_k"] [3] rfl (compSc (osc:=(defScope sRi).names) (N:=nRi) rfl rfl (by decide +kernel)) (gk_name (by decide)) (pi_list (pv 9))
     (fun _ _ _=>pg_name (i:=0) (show (["_law_k","_law_some"]:List Str).Nodup by decide +kernel) rfl (Or.inl rfl)) (fun _ _ _=>pifs_one (pt_cmpR (r:=rIn K false) op_in_seq (pv 0) (pv 1) rfl)) (fun _ _ _=>pv 0)) (pe_lst pa_nil) (nomark _))))) (pss_one (ps_ret pe_bl)) pss_nil)
   (pss_one (ps_ret (pe_and (pe_cmpR op_isN (pe_call GM h6 rfl DM.mgf DM.fn.kp DM.b .nil pass0 (pa_cons (pv 0) (pa_cons (pe_list_range rfl rfl T.list rfl T.range (pa_cons (pe_callB call_len_seq (by rfl) T.len PySem.boot_len (pa_cons (pv 2) pa_nil)) pa_nil)) pa_nil))) pe_non (nomark _))
    (pe_one (pe_cmpR (op_eq_al 0 (low 0 hr)) (pe_call GM h6 rfl DM.mgf DM.fn.kp DM.b .nil pass0 (pa_cons (pv 0) (pa_cons (pv 3) pa_nil))) (pv 7) (nomark _)))))))))))))),?_⟩
  have g:=n.nm.good
  have nd:=g.good.nd
  have few:=g.good.few
  have p30:=g.few
  have lts:ts.length=ps.length:=L.hT.len
  have big:1000<=sizeLine:=by decide
  refine ⟨_,rfl,a,rfl,⟨_,SqL.of L.ha⟩,lc_list (K:=K) (xs:=ms.map V.str) (fun i ys H1=>Same H H1/\∃ bs:List Bool,ys=bs.map V.bl/\bs.length=i/\(bs.all id=true ↔ ∀ z∈ms.take i,∀ y∈ms,Rch (gr ps ks) z y)) ⟨Same.refl _,[],rfl,rfl,by simp⟩ ?_ ?_ ?_ ?_⟩
  ·rintro i ys H1 hi ⟨_,bs,rfl,e,_⟩
   rw [List.length_map] at hi ⊢
   omega
  ·rintro i ys H1 _ ⟨s1,_⟩
   exact SqL.of (s1 _ _ L.ha)
  ·rintro i v ys H1 R hv ⟨s1,bs,rfl,el,eb⟩ kR
   rw [List.getElem?_map] at hv
   obtain ⟨z,ez,rfl⟩:=Option.map_eq_some_iff.mp hv
   have hz:=List.mem_of_getElem? ez
   simp only [tYes,gName,if_true]
   refine ⟨_,rfl,_,rfl,_,rfl,b,l,z,ms,ts,ps,ks,rfl,s1 _ _ L.hb,L.hT.same s1,s1 _ _ n.nm.hl,few,g.ins,hz,fun q zs H2 nq nz sub al hq s2=>?_⟩
   refine ⟨q,_,rfl,.inl (SqL.of hq),_,rfl,a,_,rfl,.inl (SqL.of ((s1.trans s2) _ _ L.ha)),rfl,?_⟩
   rw [List.length_map,List.length_map]
   refine kR _ _ ⟨s1.trans s2,bs++[decide (V.int (zs.length:Int)=V.int (ms.length:Int))],by simp,by simp [el],?_⟩
   rw [List.all_append,Bool.and_eq_true,eb,List.take_add_one,ez]
   have e1:([decide (V.int (zs.length:Int)=V.int (ms.length:Int))].all id=true) ↔ ∀ y∈ms,Rch (gr ps ks) z y:=by
    rw [<- len_all nd nz sub al]
    simp only [List.all_cons,List.all_nil,Bool.and_true,id_eq,decide_eq_true_eq]
    constructor
    ·intro h
     have:(zs.length:Int)=(ms.length:Int):=by injection h
     omega
    ·intro h;rw [h]
   rw [e1]
   simp only [Option.toList_some,List.mem_append,List.mem_singleton]
   constructor
   ·rintro ⟨h1,h2⟩ y (hy | rfl)
    ·exact h1 y hy
    ·exact h2
   ·intro h
    exact ⟨fun y hy=>h y (.inl hy),h z (.inr rfl)⟩
  rintro ys H1 ⟨s1,bs,rfl,el,eb⟩ D hD
  rw [List.length_map,List.take_length] at eb
  have eF:bs.all id=true ↔ Full ms ps ks:=eb
  refine ⟨D,bs,rfl,SqL.of upd_same,?_⟩
  have s1:Same H (upd H1 D (.lst (bs.map V.bl))):=s1.trans (same_upd hD)
  generalize upd H1 D (.lst (bs.map V.bl))=H1 at s1 ⊢
  generalize bs.all id=due at eF ⊢
  refine ⟨_,rfl,l,_,rfl,.inl (SqL.of (s1 _ _ n.nm.hl)),fun l5 n5=>?_⟩
  have s2:=s1.trans (same_upd (o:=.lst (nV ks)) n5)
  have hl5:=upd_same (H:=H1) (a:=l5) (o:=.lst (nV ks))
  generalize upd H1 l5 (.lst (nV ks))=H2 at s2 hl5 ⊢
  refine ⟨_,rfl,_,rfl,x,l,ms,ps,ks,rfl,n.same s2,hh,fun told H3 eT s3=>?_⟩
  have s03:=s2.trans s3
  refine ⟨_,rfl,_,rfl,x,l,ms,ps,ks,rfl,n.same s03,hh,fun cut H4 eC s4=>?_⟩
  have s04:=s03.trans s4
  have etd:told=due:=by rw [Bool.eq_iff_iff,eT,eF]
  subst etd
  refine ⟨_,rfl,_,rfl,al_nV (s04 _ _ n.nm.hl) ((s3.trans s4) _ _ hl5),_,rfl,iteF ?_⟩
  refine ⟨_,rfl,_,_,true,rfl,.bl _,rfl,_,rfl,iteF ?_⟩
  refine ⟨_,rfl,_,rfl,rfl,_,rfl,?_⟩
  rw [decide_eq_true rfl]
  refine iteF ?_
  cases em:mis ms ps ks with
  | none =>
   rw [em] at eC
   have fu:told=true:=eF.mpr ((mis_none nd).mp em)
   have eC:cut=.non:=eC
   subst fu eC
   refine ⟨_,rfl,_,rfl,iteT ⟨_,rfl,_,rfl,iteT ⟨_,rfl,rfl,?_⟩⟩⟩
   rw [decide_eq_true rfl]
   exact k _ s04
  | some zs =>
   rw [em] at eC
   have fu:told=false:=by
    cases ht:told with
    | false=>rfl
    | true=>have:=(mis_none nd).mpr (eF.mp ht);rw [em] at this;cases this
   obtain ⟨t,rfl,ht⟩:=eC
   subst fu
   have ck:=mis_some nd g.ins em
   refine ⟨_,rfl,_,rfl,iteF ⟨_,rfl,rfl,_,rfl,?_⟩⟩
   rw [decide_eq_false (show ¬ V.ref t=V.non from fun z=>nomatch z)]
   refine iteF ?_
   refine ⟨_,rfl,_,rfl,a,t,ms,zs,rfl,s04 _ _ L.ha,few,ht,ck.prt,fun H5 s5=>⟨_,rfl,iteF ?_⟩⟩
   have s05:=s04.trans s5
   refine ⟨_,rfl,_,rfl,b,t,ts,ps,zs,rfl,s05 _ _ L.hb,L.hT.same s05,p30,s5 _ _ ht,fun r l1 l2 H6 hr6 hl1 hl2 s6=>?_⟩
   rw [ck.lv] at hl1
   have s06:=s05.trans s6
   have ht6:=(s5.trans s6) _ _ ht
   refine ⟨r,_,rfl,SqT.of hr6,rfl,_,_,rfl,_,_,rfl,rfl,?_⟩
   refine ⟨_,rfl,(by decide),fun e1 n1=>?_⟩
   have t1:=same_upd (o:=.lst []) n1
   have he1:=upd_same (H:=H6) (a:=e1) (o:=.lst [])
   have hl1':=t1 _ _ hl1
   have hl2':=t1 _ _ hl2
   generalize upd H6 e1 (.lst [])=H7 at t1 he1 hl1' hl2' ⊢
   have s07:=s06.trans t1
   refine ⟨l1,e1,[],rfl,rfl,SqL.of hl1',SqL.of he1,_,rfl,?_⟩
   simp only [if_true,decide_true,Bool.not_true]
   refine iteF ?_
   have nl:∀ l:List Nat,(nV l).length=l.length:=fun l=>by unfold nV;rw [List.length_map]
   refine ⟨_,rfl,l2,rfl,⟨_,SqL.of hl2'⟩,lc_list (K:=K) (xs:=nV (cfl (enF zs) ps ps.length)) (fun i ys H8=>Same H7 H8/\ys=nV (((cfl (enF zs) ps ps.length).take i).filter fun k=>decide (k∈ks))) ⟨Same.refl _,rfl⟩ ?_ ?_ ?_ ?_⟩
   ·rintro i ys H8 hi ⟨_,rfl⟩
    rw [nl]
    have h1:=List.length_filter_le (fun k=>decide (k∈ks)) ((cfl (enF zs) ps ps.length).take i)
    rw [List.length_take] at h1
    have h2:=cfl_len (enF zs) ps ps.length
    omega
   ·rintro i ys H8 _ ⟨s8,_⟩
    exact SqL.of (s8 _ _ hl2')
   ·rintro i v ys H8 R hv ⟨s8,rfl⟩ kR
    unfold nV at hv
    rw [List.getElem?_map] at hv
    obtain ⟨j,ej,rfl⟩:=Option.map_eq_some_iff.mp hv
    simp only [gName]
    refine ⟨_,rfl,_,rfl,l,_,rfl,.inl (SqL.of ((s07.trans s8) _ _ n.nm.hl)),rfl,flat_n ks,_,rfl,?_⟩
    simp only [Bool.false_eq_true,if_false]
    rw [inV_n]
    by_cases c:j∈ks
    ·rw [decide_eq_true c]
     refine iteT ⟨_,rfl,kR _ _ ⟨s8,?_⟩⟩
     rw [List.take_add_one,ej,List.filter_append,nV_app]
     simp [c,nV]
    ·rw [decide_eq_false c]
     refine iteF (kR _ _ ⟨s8,?_⟩)
     rw [List.take_add_one,ej,List.filter_append,nV_app]
     simp [c,nV]
   rintro ys H8 ⟨s8,rfl⟩ D8 n8
   rw [nl,List.take_length,ck.en]
   have s9:=same_upd (o:=.lst (nV [])) n8
   have hD8:=upd_same (H:=H8) (a:=D8) (o:=.lst (nV []))
   generalize upd H8 D8 (.lst (nV []))=H9 at s9 hD8 ⊢
   refine ⟨(by decide),fun e2 n2=>?_⟩
   have t2:=same_upd (o:=.lst []) n2
   have he2:=upd_same (H:=H9) (a:=e2) (o:=.lst [])
   have hD8':=t2 _ _ hD8
   generalize upd H9 e2 (.lst [])=HA at t2 he2 hD8' ⊢
   have s6A:=t1.trans (s8.trans (s9.trans t2))
   have s0A:=s06.trans s6A
   refine ⟨D8,e2,[],rfl,rfl,SqL.of hD8',SqL.of he2,_,rfl,?_⟩
   simp only [if_true,decide_true,Bool.not_true]
   refine iteF ?_
   refine ⟨_,rfl,_,rfl,b,_,rfl,.inl (SqL.of (s0A _ _ L.hb)),ps.length,by rw [List.length_map,lts],by omega,fun lr nr=>?_⟩
   have tr:=same_upd (o:=.lst (upto ps.length)) nr
   have hlr:=upd_same (H:=HA) (a:=lr) (o:=.lst (upto ps.length))
   rw [upto_nV] at tr hlr ⊢
   generalize upd HA lr (.lst (nV (List.range ps.length)))=HB at tr hlr ⊢
   have s0B:=s0A.trans tr
   have ra:=rs_all ps
   refine ⟨x,lr,ms,ps,List.range ps.length,rfl,⟨nmr_of (n.nm.web.same s0B) g hlr ra,ra⟩,hh,fun v HC eV sC=>?_⟩
   rw [(mis_none nd).mpr (full_all.mpr hh)] at eV
   have eV:v=.non:=eV
   subst eV
   refine ⟨rfl,?_⟩
   rw [decide_eq_true rfl]
   refine ⟨_,rfl,iteT ?_⟩
   have s0C:=s0B.trans sC
   refine ⟨_,rfl,_,rfl,x,l,ms,ps,ks,rfl,n.same s0C,hh,fun v2 HE eV2 sE=>?_⟩
   rw [em] at eV2
   obtain ⟨t2',rfl,ht2⟩:=eV2
   exact ⟨_,rfl,al_tup ht2 ((s6A.trans (tr.trans (sC.trans sE))) _ _ ht6),k _ (s0C.trans sE)⟩
end
open PySem PySem.Spec PyProof.Rows L2 L3 L6
theorem int_len {a b:Nat}:V.int (a:Int)=V.int (b:Int) ↔ a=b:=by
 constructor
 ·intro h
  have:(a:Int)=(b:Int):=by injection h
  omega
 ·intro h;rw [h]
structure Tells (P:Program) (w:World) (K:PySem.W.Frag) (mg:Str->Option Value) (base:Heap) (C fPo fTk fAn fHg fIn fFl fAp fRi fIs fMd:Addr) (fdPo fdTk fdAn fdHg fdIn fdFl fdAp fdRi:FuncData):Prop where
 dpo:Df K mg "_law_pot" sPot ["_law_script","_law_k"] fPo fdPo
 gpo:FnOk P w K mg base CX0 1 fPo fdPo ["_law_script","_law_k"] (spPot (K:=K))
 dtk:Df K mg "_law_draw" sTake ["_law_pot_here","_law_many"] fTk fdTk
 gtk:FnOk P w K mg base CX0 1 fTk fdTk ["_law_pot_here","_law_many"] spDraw
 dan:Df K mg "_law_any" sAny aHg fAn fdAn
 gan:FnOk P w K mg base CX0 4 fAn fdAn aHg spAny
 dhg:Df K mg "_law_hanging" sHg aHg fHg fdHg
 ghg:FnOk P w K mg base CX0 4 fHg fdHg aHg spHg
 wc:WC K mg C
 mkw:Mk K C fIn
 bi:Binds K fdIn ["self","places","ties"] []
 gi:FnOk P w K mg base CX0 4 fIn fdIn ["self","places","ties"] (spInit C)
 dfl:Df K mg "_law_flood" sFlo aFlo fFl fdFl
 gfl:FnOk P w K mg base CX0 1 fFl fdFl aFlo spFlo
 dap:Df K mg "_law_apart" sApt aApt fAp fdAp
 gap1:FnOk P w K mg base CX0 9 fAp fdAp aApt (spApt C fIs)
 gap2:FnOk P w K mg base CX0 9 fAp fdAp aApt (spApt C fMd)
 dri:Df K mg "_law_right" sRi aRi fRi fdRi
 gri:FnOk P w K mg base CX0 8 fRi fdRi aRi (spRi C)
 mis_:mg "is_meeter" = some (.ref fIs)
 mmd:mg "missed" = some (.ref fMd)
section
variable {P:Program} {w:World} {K:PySem.W.Frag} {mg:Str->Option Value} {base:Heap}
def spLaw (K:PySem.W.Frag):Sp:=fun vs H Q _=>∃ (a:Addr) (ns:List Int),vs=[.ref a]/\SqL K H a (ns.map V.int)/\ns.length<=63/\∀ H',Q (.bl true) H'
abbrev nL:List Str:=["_law_script","_law_pot_here","_law_names_here","_law_ties","_law_web","_law_every","_law_hung","_law_j","_law_own","_law_rate","_law_some"]
theorem scL:FnScope nL ["_law_script"] (defScope sLaw):=⟨rfl,rfl,rfl,by decide +kernel,rfl,by decide +kernel,by decide +kernel⟩
theorem ok_law {C f fPo fTk fAn fHg fIn fFl fAp fRi fIs fMd:Addr} {fd fdPo fdTk fdAn fdHg fdIn fdFl fdAp fdRi:FuncData} (F:Fun K "law" "law" sLaw f fd) (B:Tells P w K mg base C fPo fTk fAn fHg fIn fFl fAp fRi fIs fMd fdPo fdTk fdAn fdHg fdIn fdFl fdAp fdRi) (T:Glb mg):FnOk P w K mg base CX0 10 f fd ["_law_script"] (spLaw K):=by
 have GPo:=B.gpo
 have GTk:=B.gtk
 have GAn:=B.gan
 have GHg:=B.ghg
 have GI:=B.gi
 have GFl:=B.gfl
 have GA1:=B.gap1
 have GA2:=B.gap2
 have GRi:=B.gri
 refine F.ok scL (fun vs H Q E h=>?_) (fun cdv A outer s H vs Q E hr h=>?_)
 ·obtain ⟨a,ns,rfl,_⟩:=h
  rfl
 ·obtain ⟨a0,ns,rfl,hS,hlen,k⟩:=h
  have hr1:=hr.mono (j:=1) (by decide)
  have hr4:=hr.mono (j:=4) (by decide)
  have hr5:=hr.mono (j:=5) (by decide)
  have hr8:=hr.mono (j:=8) (by decide)
  refine ⟨_,pss_cons (ps_set (i:=1) scL.nd rfl (Or.inl rfl) (pe_call GPo hr1 rfl B.dpo.mgf B.dpo.fn.kp B.dpo.b .nil pass0 (pa_cons (pv 0) (pa_cons pe_int pa_nil))))
   (pss_cons (ps_if (pt_cmpR op_eq (pe_call GTk hr1 rfl B.dtk.mgf B.dtk.fn.kp B.dtk.b .nil pass0 (pa_cons (pv 1) (pa_cons pe_int pa_nil))) pe_int (nomark _))
    (pss_one (ps_asg (pe_call GAn hr4 rfl B.dan.mgf B.dan.fn.kp B.dan.b .nil pass0 (pa_cons (pv 1) (pa_cons pe_int (pa_cons pe_int pa_nil)))) (pg_tup rfl (pgs_cons (pg_name (i:=2) scL.nd rfl (Or.inl rfl)) (pgs_cons (pg_name (i:=3) scL.nd rfl (Or.inl rfl)) pgs_nil)))))
    (pss_one (ps_asg (pe_call GHg hr4 rfl B.dhg.mgf B.dhg.fn.kp B.dhg.b .nil pass0 (pa_cons (pv 1) (pa_cons pe_int (pa_cons pe_int pa_nil)))) (pg_tup rfl (pgs_cons (pg_name (i:=2) scL.nd rfl (Or.inl rfl)) (pgs_cons (pg_name (i:=3) scL.nd rfl (Or.inl rfl)) pgs_nil))))))
   (pss_cons (ps_set (i:=4) scL.nd rfl (Or.inl rfl) (pe_make B.mkw GI hr5 rfl B.wc.mgC B.bi .nil pass0 (pa_cons (pv 2) (pa_cons (pv 3) pa_nil))))
   (pss_cons (ps_set (i:=5) scL.nd rfl (Or.inl rfl) (pe_list_range rfl rfl T.list rfl T.range (pa_cons (pe_callB call_len_seq (by rfl) T.len PySem.boot_len (pa_cons (pv 3) pa_nil)) pa_nil)))
   (pss_cons (ps_set (i:=6) scL.nd rfl (Or.inl rfl) (pe_cmpR op_eq (pe_callB call_len_seq (by rfl) T.len PySem.boot_len (pa_cons (pe_call GFl hr1 rfl B.dfl.mgf B.dfl.fn.kp B.dfl.b .nil pass0 (pa_cons (pv 3) (pa_cons (pv 5) (pa_cons (pe_ix ix_list (pv 2) pe_int (fun _ _=>rfl)) pa_nil)))) pa_nil)) (pe_callB call_len_seq (by rfl) T.len PySem.boot_len (pa_cons (pv 2) pa_nil)) (nomark _)))
   (pss_cons (ps_for PassesOwn.never rfl (pi_range2 rfl T.range (pa_cons pe_int (pa_cons (pe_callB (call_max2 rfl) (by rfl) T.max boot_max (pa_cons pe_int (pa_cons (pe_callB (call_min2 rfl) (by rfl) T.min boot_min (pa_cons (pe_callB call_len_seq (by rfl) T.len PySem.boot_len (pa_cons (pv 0) pa_nil)) (pa_cons pe_int pa_nil))) pa_nil))) pa_nil))) (pg_name (i:=7) scL.nd rfl (Or.inl rfl))
    (pss_cons (ps_set (i:=8) scL.nd rfl (Or.inr rfl) (pe_call GPo hr1 rfl B.dpo.mgf B.dpo.fn.kp B.dpo.b .nil pass0 (pa_cons (pv 0) (pa_cons (pv 7) pa_nil))))
    (pss_cons (ps_set (i:=9) scL.nd rfl (Or.inr rfl) (pe_op op_add pe_int (pe_call GTk hr1 rfl B.dtk.mgf B.dtk.fn.kp B.dtk.b .nil pass0 (pa_cons (pv 8) (pa_cons pe_int pa_nil)))))
    (pss_cons (ps_setL (i:=10) ["_law_k"] [8,9] scL.nd rfl rfl rfl (compSc (osc:=(defScope sLaw).names) (N:=nL) rfl rfl (by decide +kernel)) (gk_name (by decide)) (pi_list (pv 5))
      (fun _ _ _=>pg_name (i:=0) (show (["_law_k","_law_own","_law_rate"]:List Str).Nodup by decide +kernel) rfl (Or.inl rfl)) (fun _ _ _=>pifs_one (pt_cmpR op_gt (pe_call GTk hr1 rfl B.dtk.mgf B.dtk.fn.kp B.dtk.b .nil pass0 (pa_cons (pv 1) (pa_cons (pv 2) pa_nil))) pe_int (nomark _))) (fun _ _ _=>pv 0))
    (pss_one (ps_if (pt_not (pt_val (pv 6) (fun _=>rfl)))
     (pss_one (ps_if (PW.pt (pw_or (pt_not (pt_val (pe_call GA1 hr rfl B.dap.mgf B.dap.fn.kp B.dap.b .nil pass0 (pa_cons (pv 2) (pa_cons (pv 3) (pa_cons (pe_glob (v:=.ref fIs) rfl B.mis_ rfl) (pa_cons (pv 4) (pa_cons (pv 10) pa_nil)))))) (fun _=>rfl)))
      (pw_or1 (pt_not (pt_val (pe_call GA2 hr rfl B.dap.mgf B.dap.fn.kp B.dap.b .nil pass0 (pa_cons (pv 2) (pa_cons (pv 3) (pa_cons (pe_glob (v:=.ref fMd) rfl B.mmd rfl) (pa_cons (pv 4) (pa_cons (pv 10) pa_nil)))))) (fun _=>rfl)))))) (pss_one (ps_ret pe_bl)) pss_nil))
     (pss_one (ps_if (PW.pt (pw_or (pt_not (pt_val (pe_call GRi hr8 rfl B.dri.mgf B.dri.fn.kp B.dri.b .nil pass0 (pa_cons (pv 4) (pa_cons (pv 2) (pa_cons (pv 3) (pa_cons (pv 10) pa_nil))))) (fun _=>rfl)))
      (pw_or1 (pt_not (pt_val (pe_call GRi hr8 rfl B.dri.mgf B.dri.fn.kp B.dri.b .nil pass0 (pa_cons (pv 4) (pa_cons (pv 2) (pa_cons (pv 3) (pa_cons (pv 5) pa_nil))))) (fun _=>rfl)))))) (pss_one (ps_ret pe_bl)) pss_nil))))))))
   (pss_one (ps_ret (pe_or (pe_not (pv 6)) (pe_one (pe_call GRi hr8 rfl B.dri.mgf B.dri.fn.kp B.dri.b .nil pass0 (pa_cons (pv 4) (pa_cons (pv 2) (pa_cons (pv 3) (pa_cons (pe_lst pa_nil) pa_nil)))))))))))))),?_⟩
  have big:1000<=sizeLine:=by decide
  refine ⟨_,rfl,a0,ns,0,rfl,hS,hlen,fun p0 H3 np row3 same3=>?_⟩
  refine ⟨_,rfl,p0,4,rfl,row3,by decide,by decide,fun d0 H3' _ _ row3' but3=>⟨rfl,_,rfl,?_⟩⟩
  have same3':Same H H3':=Same.but same3 but3 np
  refine ite2 (fun _=>?c1) (fun _=>?c2)
  case' c1 =>
   refine ⟨_,rfl,p0,12,20,rfl,by decide,by decide,by decide,by decide,row3',fun t a b ms ps ts H4 L4 nap nbp ht4 row4 but4=>?_⟩
  case' c2 =>
   refine ⟨_,rfl,p0,12,31,rfl,by decide,by decide,by decide,by decide,row3',fun t a b ms ps ts H4 Lw4 nap nbp ht4 row4 but4=>?_⟩
   have L4:=Lw4.ls
  all_goals
   have s4:Same H H4:=Same.but same3' but4 np
   refine ⟨t,_,rfl,SqT.of ht4,rfl,_,_,rfl,_,_,rfl,rfl,?_⟩
   refine ⟨_,rfl,_,rfl,?_⟩
   intro x dx nx ndx nex
   have sx:Same H4 (upd (upd H4 dx (.own x)) x (.ins C dx [])):=Same.upd_new (same_upd ndx) nx
   refine ⟨x,a,b,ms,ps,ts,rfl,⟨dx,upd_same⟩,L4.same sx,fun H7 W7 b7=>⟨rfl,?_⟩⟩
   have s47:Same H4 H7:=Same.but sx b7 nx
   have L7:=L4.same s47
   have s07:Same H H7:=s4.trans s47
   have g:GoodW ms ps:=⟨L7.good,L7.ins,L7.few⟩
   have few:=g.good.few
   have one:=g.good.one
   have nd:=g.good.nd
   have p30:=g.few
   have lts:ts.length=ps.length:=L7.hT.len
   have ra:=rs_all ps
   refine ⟨_,rfl,b,_,rfl,.inl (SqL.of L7.hb),ps.length,by rw [List.length_map,lts],by omega,fun l5 n5=>?_⟩
   rw [upto_nV]
   have s8:=same_upd (o:=.lst (nV (List.range ps.length))) n5
   have hl5:=upd_same (H:=H7) (a:=l5) (o:=.lst (nV (List.range ps.length)))
   generalize upd H7 l5 (.lst (nV (List.range ps.length)))=H8 at s8 hl5 ⊢
   have L8:=L7.same s8
   have W8:=W7.same s8
   have s08:=s07.trans s8
   have m0:ms[0]?=some ms[0]:=by simp
   refine ⟨_,rfl,_,rfl,_,rfl,a,_,_,_,rfl,rfl,SqL.of L8.ha,atI_nat (j:=0) (v:=.str ms[0]) (by rw [List.getElem?_map,m0];rfl),?_⟩
   refine ⟨b,l5,ms[0],ms,ts,ps,List.range ps.length,rfl,L8.hb,L8.hT,hl5,few,g.ins,List.getElem_mem _,fun q zs H9 nq nz sub al hq s9=>?_⟩
   refine ⟨q,_,rfl,.inl (SqL.of hq),_,rfl,a,_,rfl,.inl (SqL.of (s9 _ _ L8.ha)),rfl,?_⟩
   rw [List.length_map,List.length_map]
   have eH:decide (V.int (zs.length:Int)=V.int (ms.length:Int))=true ↔ Hangs ms ps:=by
    rw [decide_eq_true_iff]
    rw [int_len,len_all nd nz sub al,<- full_all]
    constructor
    ·intro h
     rw [full_all]
     have h':∀ b∈ms,Rch (both2 ps) ms[0] b:=fun b hb=>(h b hb).mono fun p hp=>by
      obtain ⟨u,v⟩:=p
      unfold gr at hp
      unfold both2
      rcases List.mem_append.mp hp with z | z
      ·exact List.mem_append_left _ z
      ·obtain ⟨j,_,e⟩:=sel_mem.mp (turn_mem.mp z)
       exact List.mem_append_right _ (turn_mem.mpr (List.mem_of_getElem? e))
     exact fun a ha b hb=>(both_sym (h' a ha)).trans (h' b hb)
    ·intro h b hb
     exact h _ (List.getElem_mem _) b hb
   generalize decide (V.int (zs.length:Int)=V.int (ms.length:Int))=hung at eH ⊢
   have L9:=L8.same s9
   have W9:=W8.same s9
   have hl9:=s9 _ _ hl5
   have s09:=s08.trans s9
   have hS9:=s09.seq hS
   refine ⟨_,rfl,a0,_,rfl,.inl hS9,_,_,rfl,_,_,rfl,?_⟩
   rw [List.length_map]
   refine ⟨_,_,rfl,⟨by decide,by decide,by split<;>split<;>omega,by split<;>split<;>omega⟩,?_⟩
   refine for_range (fun i σ HH=>∃ v7 v8 v9 v10,σ=[some (.ref a0),some (.ref p0),some (.ref a),some (.ref b),some (.ref x),some (.ref l5),some (.bl hung),v7,v8,v9,v10]/\Same H9 HH) ⟨_,_,_,_,rfl,Same.refl _⟩ ?_ ?_
   ·rintro i σ HA hi ⟨v7,v8,v9,v10,rfl,sA⟩
    have e1:(1+(i:Int))=((i+1:Nat):Int):=by omega
    rw [e1]
    refine ⟨_,rfl,_,rfl,a0,ns,i+1,rfl,sA.seq hS9,hlen,fun p HB npB rowB sB=>?_⟩
    refine ⟨_,rfl,p,4,rfl,rowB,by decide,by decide,fun d1 HC d1a d1b rowC butC=>⟨_,_,rfl,rfl,?_⟩⟩
    have hlC:∀ {c:Addr} {u:HO},HA c=some u->HC c=some u:=fun {c u} e=>butC c u (sB c u e) (ne_of_none e npB)
    have hl5C:=hlC (sA _ _ hl9)
    refine ⟨_,rfl,l5,rfl,⟨_,SqL.of hl5C⟩,lc_list (K:=K) (xs:=nV (List.range ps.length)) (fun i ys HD=>Row HD p/\But p HC HD/\∃ ks:List Nat,ys=nV ks/\ks.Pairwise (· < ·)/\(∀ k∈ks,k < i)/\ks.length<=i) ⟨rowC,But.refl _ _,[],rfl,.nil,(fun _ h=>nomatch h),Nat.le_refl _⟩ ?_ ?_ ?_ ?_⟩
    ·rintro i ys HD hi ⟨_,_,ks,rfl,_,_,hk⟩
     rw [nV_len,List.length_range] at hi
     rw [nV_len]
     omega
    ·rintro i ys HD _ ⟨rD,bD,_⟩
     exact SqL.of (bD _ _ hl5C (by intro z;rw [z] at hl5;have:=(s8.trans (s9.trans sA)).free npB;rw [z] at hl9;have q:=sA _ _ hl9;rw [npB] at q;cases q))
    ·rintro i v ys HD R hv ⟨rD,bD,ks,rfl,up,lt,hk⟩ kR
     unfold nV at hv
     rw [List.getElem?_map] at hv
     obtain ⟨j,ej,rfl⟩:=Option.map_eq_some_iff.mp hv
     have hj:i < ps.length:=by
      refine Classical.byContradiction fun n=>?_
      rw [List.getElem?_eq_none (by rw [List.length_range];omega)] at ej;cases ej
     rw [List.getElem?_range hj] at ej
     cases ej
     simp only [gName]
     refine ⟨_,rfl,_,rfl,p,_,rfl,rD,by omega,by omega,fun d2 HE _ _ rE bE=>⟨_,_,rfl,rfl,_,rfl,?_⟩⟩
     refine ite2 (fun _=>⟨_,rfl,kR _ _ ⟨rE,bD.trans bE,ks++[i],by rw [nV_app];rfl,?_,?_,by simp;omega⟩⟩) (fun _=>kR _ _ ⟨rE,bD.trans bE,ks,rfl,up,fun k h=>Nat.lt_succ_of_lt (lt k h),by omega⟩)
     ·rw [List.pairwise_append]
      exact ⟨up,by simp,fun x hx y hy=>by rw [List.mem_singleton.mp hy];exact lt x hx⟩
     ·intro k h
      rcases List.mem_append.mp h with h | h
      ·exact Nat.lt_succ_of_lt (lt k h)
      ·rw [List.mem_singleton.mp h];exact Nat.lt_succ_self _
    rintro ys HD ⟨rD,bD,ks,rfl,up,lt,hk⟩ ls nls
    rw [nV_len,List.length_range] at lt hk
    have rs:Rs ps ks:=⟨up,lt⟩
    have sAD:Same HA (upd HD ls (.lst (nV ks))):=(Same.but sB (butC.trans bD) npB).trans (same_upd nls)
    have hls:=upd_same (H:=HD) (a:=ls) (o:=.lst (nV ks))
    generalize upd HD ls (.lst (nV ks))=HE at sAD hls ⊢
    have s9E:=sA.trans sAD
    have LE:=L9.same s9E
    have WE:=W9.same s9E
    have nE:Nr C HE x ls ms ps ks:=⟨nmr_of WE g hls rs,rs⟩
    have nE5:Nr C HE x l5 ms ps (List.range ps.length):=⟨nmr_of WE g (s9E _ _ hl9) ra,ra⟩
    refine ⟨_,rfl,_,rfl,?_⟩
    refine ite2 (fun c=>?_) (fun c=>?_)
    ·have nh:¬ Hangs ms ps:=fun h=>by rw [eH.mpr h] at c;cases c
     refine ⟨_,rfl,_,rfl,_,rfl,_,rfl,a,b,x,ls,ms,ps,ts,ks,rfl,LE,nE,nh,fun HF sF=>⟨_,rfl,iteF ?_⟩⟩
     refine ⟨_,rfl,_,rfl,_,rfl,_,rfl,a,b,x,ls,ms,ps,ts,ks,rfl,LE.same sF,nE.same sF,nh,fun HG sG=>⟨_,rfl,iteF ?_⟩⟩
     exact ⟨_,_,_,_,rfl,s9E.trans (sF.trans sG)⟩
    ·have hh:Hangs ms ps:=eH.mp (by cases hung with | true=>rfl | false=>exact absurd rfl c)
     refine ⟨_,rfl,_,rfl,_,rfl,_,rfl,x,a,b,ls,ms,ps,ts,ks,rfl,LE,nE,hh,fun HF sF=>⟨_,rfl,iteF ?_⟩⟩
     refine ⟨_,rfl,_,rfl,_,rfl,_,rfl,x,a,b,l5,ms,ps,ts,_,rfl,LE.same sF,nE5.same sF,hh,fun HG sG=>⟨_,rfl,iteF ?_⟩⟩
     exact ⟨_,_,_,_,rfl,s9E.trans (sF.trans sG)⟩
   ·rintro σ HA ⟨v7,v8,v9,v10,rfl,sA⟩
    refine ⟨_,rfl,_,rfl,_,rfl,?_⟩
    cases hung with
    | false=>exact iteT (k _)
    | true =>
     refine iteF ?_
     refine ⟨_,rfl,_,rfl,_,rfl,(by decide),fun l0 n0=>?_⟩
     have s0:=same_upd (o:=.lst []) n0
     have h0:=upd_same (H:=HA) (a:=l0) (o:=.lst [])
     have r0:Rs ps []:=⟨.nil,fun _ h=>nomatch h⟩
     have sA0:=sA.trans s0
     exact ⟨x,a,b,l0,ms,ps,ts,[],rfl,L9.same sA0,⟨nmr_of (W9.same sA0) g h0 r0,r0⟩,eH.mp rfl,fun H' _=>k _⟩
end
section
variable {P:Program} {w:World} {K:PySem.W.Frag} {mg:Str->Option Value} {base:Heap}
variable {C E0 E1 E4 E5 E6 fAI fP fM fT fS fWh fIn fN fA fTi f1 f2 fL fTu fSp fPA fPi fHa fCh fAr fCL fFr fMB fMd fIs:Addr} {fdAI fdP fdM fdT fdS fdWh fdIn fdN fdA fdTi fd1 fd2 fdL fdTu fdSp fdPA fdPi fdHa fdCh fdAr fdCL fdFr fdMB fdMd fdIs:FuncData}
variable {f fPo fTk fWd fNa fHg fAn fFl fIP fCr fCT fAp fRi:Addr} {fd fdPo fdTk fdWd fdNa fdHg fdAn fdFl fdIP fdCr fdCT fdAp fdRi:FuncData}
theorem law_all (F:Fun K "law" "law" sLaw f fd) (FI:Fun K "__init__" "Web.__init__" sInit fIn fdIn) (MkW:Mk K C fIn) (bI:Binds K fdIn ["self","places","ties"] []) (DN:Df K mg "is_name" sName ["thing"] fN fdN) (DA:Df K mg "is_among" sAmong ["places","thing"] fA fdA) (DTi:Df K mg "is_tie" sTie ["places","thing"] fTi fdTi) (D1:Df K mg "check_places" sChkP ["places"] f1 fd1) (D2:Df K mg "check_ties" sChkT ["places","ties"] f2 fd2)
  (M:Mh K mg C E1 fP fM fT fS fWh fdP fdM fdT fdS fdWh) (A4:Ap K mg E4 fAI fdAI) (X:Errs K mg E0 E1 E4 E5 E6)
  (DL:Df K mg "leads" sLeads ["places","ties"] fL fdL) (DTu:Df K mg "turned_pairs" sTurned ["ties"] fTu fdTu) (DSp:Df K mg "spread" sSpread ["steps","start"] fSp fdSp) (DPA:Df K mg "pieces_among" sPA ["web","among"] fPA fdPA) (DPi:Df K mg "pieces" sPieces ["web"] fPi fdPi) (DHa:Df K mg "hangs" sHangs ["web"] fHa fdHa) (DCh:Df K mg "check_hangs" sChkH ["web"] fCh fdCh)
  (DAr:Df K mg "are_ties" sAre nAr fAr fdAr) (DCL:Df K mg "check_list" sChkL nWT fCL fdCL) (DFr:Df K mg "freed" sFreed nWT fFr fdFr) (DMB:Df K mg "missed_by" sMissB nWT fMB fdMB) (DMd:Df K mg "missed" sMissed nWT fMd fdMd) (DIs:Df K mg "is_meeter" sIsMt nWT fIs fdIs)
  (DPo:Df K mg "_law_pot" sPot ["_law_script","_law_k"] fPo fdPo) (DTk:Df K mg "_law_draw" sTake ["_law_pot_here","_law_many"] fTk fdTk) (DWd:Df K mg "_law_name" sWord ["_law_pot_here"] fWd fdWd) (DNa:Df K mg "_law_names" sNames ["_law_pot_here","_law_most"] fNa fdNa) (DHg:Df K mg "_law_hanging" sHg aHg fHg fdHg) (DAn:Df K mg "_law_any" sAny aHg fAn fdAn) (DFl:Df K mg "_law_flood" sFlo aFlo fFl fdFl)
  (DIP:Df K mg "_law_is_part" sIP nIP fIP fdIP) (DCr:Df K mg "_law_crossing" sCr aCr fCr fdCr) (DCT:Df K mg "_law_cut_told" sCT aCT fCT fdCT) (DAp:Df K mg "_law_apart" sApt aApt fAp fdAp) (DRi:Df K mg "_law_right" sRi aRi fRi fdRi)
  (ab:mg "abs" = none) (en:mg "enumerate" = none) (T:Glb mg):FnOk P w K mg base CX0 10 f fd ["_law_script"] (spLaw K):=by
 have GPi:FnOk P w K mg base CX0 3 fPi fdPi ["web"] (spPi C):=ok_pieces DPi.fn DPA M.m DL DSp DTu T
 have GHa:FnOk P w K mg base CX0 4 fHa fdHa ["web"] (spHaB C):=ok_hangsB DHa.fn DPi GPi T
 have GFr:FnOk P w K mg base CX0 3 fFr fdFr nWT (spFreed C):=ok_freed DFr.fn M DL DTu T
 have B:Me P w K mg base C E4 fCh fCL fMB fdCh fdCL fdMB:=⟨DCh,ok_chkH1 DCh.fn DHa GHa T,ok_chkHX DCh.fn DHa GHa DPi GPi A4 T,DCL,ok_chkL DCL.fn DAr M T,DMB,ok_mb DMB.fn M DFr GFr DSp T⟩
 have GMd:FnOk P w K mg base CX0 6 fMd fdMd nWT (spMd C):=ok_md DMd.fn B T
 have GMx:FnOk P w K mg base (CXD P w) 6 fMd fdMd nWT (spMdX C E4):=ok_mdX DMd.fn B T
 have GIs:FnOk P w K mg base CX0 7 fIs fdIs nWT (spIsM C):=ok_ism DIs.fn DMd GMd T
 have GIx:FnOk P w K mg base (CXD P w) 7 fIs fdIs nWT (spMdX C E4):=ok_ismX DIs.fn DMd GMx T
 have GC1:FnOk P w K mg base CX0 8 fCT fdCT aCT (spCT C fIs):=ok_ct DCT.fn A4 X DIs.fn.kp DIs.b GIx T
 have GC2:FnOk P w K mg base CX0 8 fCT fdCT aCT (spCT C fMd):=ok_ct DCT.fn A4 X DMd.fn.kp DMd.b (GMx.mono (by decide)) T
 exact ok_law F (C:=C) ⟨DPo,ok_pot DPo.fn T ab,DTk,ok_take DTk.fn T,DAn,ok_any DAn.fn DTk DWd DNa T,DHg,ok_hg DHg.fn DTk DWd DNa T,M.m.wc,MkW,bI,ok_init FI M.m.wc DN DA DTi D1 D2 T,DFl,ok_flo DFl.fn en T,DAp,ok_apt DAp.fn DCT GC1 DIP DCr en T,ok_apt DAp.fn DCT GC2 DIP DCr en T,DRi,ok_ri DRi.fn DFl DIP DCr DMd GMd DIs GIs en T,DIs.mgf,DMd.mgf⟩ T
end
open PySem PySem.Spec PyProof.Rows L2
theorem all_mk {l:PySem.W.OpenLaw} {w:World} {K:PySem.W.Frag} {h:Heap} {mg:Str->Option Value} {fa:Addr} {C:Addr} {f1:Addr} {od1 an1:Option Addr} {sl1:Array (Option Value)} {oc1 kV1 dc1 pm1 cd1 ct1:Value} {f2:Addr} {od2 an2:Option Addr} {sl2:Array (Option Value)} {oc2 kV2 dc2 pm2 cd2 ct2:Value} {f3:Addr} {od3 an3:Option Addr} {sl3:Array (Option Value)} {oc3 kV3 dc3 pm3 cd3 ct3:Value} {f4:Addr} {od4 an4:Option Addr} {sl4:Array (Option Value)} {oc4 kV4 dc4 pm4 cd4 ct4:Value} {f5:Addr} {od5 an5:Option Addr} {sl5:Array (Option Value)} {oc5 kV5 dc5 pm5 cd5 ct5:Value} {f6:Addr} {od6 an6:Option Addr} {sl6:Array (Option Value)} {oc6 kV6 dc6 pm6 cd6 ct6:Value} {f7:Addr} {od7 an7:Option Addr} {sl7:Array (Option Value)} {oc7 kV7 dc7 pm7 cd7 ct7:Value} {f8:Addr} {od8 an8:Option Addr} {sl8:Array (Option Value)} {oc8 kV8 dc8 pm8 cd8 ct8:Value} {f9:Addr} {od9 an9:Option Addr} {sl9:Array (Option Value)} {oc9 kV9 dc9 pm9 cd9 ct9:Value} {f10:Addr} {od10 an10:Option Addr} {sl10:Array (Option Value)} {oc10 kV10 dc10 pm10 cd10 ct10:Value} {f11:Addr} {od11 an11:Option Addr} {sl11:Array (Option Value)} {oc11 kV11 dc11 pm11 cd11 ct11:Value} {f12:Addr} {od12 an12:Option Addr} {sl12:Array (Option Value)} {oc12 kV12 dc12 pm12 cd12 ct12:Value} {f13:Addr} {od13 an13:Option Addr} {sl13:Array (Option Value)} {oc13 kV13 dc13 pm13 cd13 ct13:Value} {f14:Addr} {od14 an14:Option Addr} {sl14:Array (Option Value)} {oc14 kV14 dc14 pm14 cd14 ct14:Value} {f15:Addr} {od15 an15:Option Addr} {sl15:Array (Option Value)} {oc15 kV15 dc15 pm15 cd15 ct15:Value} {f16:Addr} {od16 an16:Option Addr} {sl16:Array (Option Value)} {oc16 kV16 dc16 pm16 cd16 ct16:Value} {f17:Addr} {od17 an17:Option Addr} {sl17:Array (Option Value)} {oc17 kV17 dc17 pm17 cd17 ct17:Value} {f18:Addr} {od18 an18:Option Addr} {sl18:Array (Option Value)} {oc18 kV18 dc18 pm18 cd18 ct18:Value} {f19:Addr} {od19 an19:Option Addr} {sl19:Array (Option Value)} {oc19 kV19 dc19 pm19 cd19 ct19:Value} {f20:Addr} {od20 an20:Option Addr} {sl20:Array (Option Value)} {oc20 kV20 dc20 pm20 cd20 ct20:Value} {f21:Addr} {od21 an21:Option Addr} {sl21:Array (Option Value)} {oc21 kV21 dc21 pm21 cd21 ct21:Value} {f22:Addr} {od22 an22:Option Addr} {sl22:Array (Option Value)} {oc22 kV22 dc22 pm22 cd22 ct22:Value} {f23:Addr} {od23 an23:Option Addr} {sl23:Array (Option Value)} {oc23 kV23 dc23 pm23 cd23 ct23:Value} {f24:Addr} {od24 an24:Option Addr} {sl24:Array (Option Value)} {oc24 kV24 dc24 pm24 cd24 ct24:Value} {f25:Addr} {od25 an25:Option Addr} {sl25:Array (Option Value)} {oc25 kV25 dc25 pm25 cd25 ct25:Value} {f26:Addr} {od26 an26:Option Addr} {sl26:Array (Option Value)} {oc26 kV26 dc26 pm26 cd26 ct26:Value} {f27:Addr} {od27 an27:Option Addr} {sl27:Array (Option Value)} {oc27 kV27 dc27 pm27 cd27 ct27:Value} {f28:Addr} {od28 an28:Option Addr} {sl28:Array (Option Value)} {oc28 kV28 dc28 pm28 cd28 ct28:Value} {f29:Addr} {od29 an29:Option Addr} {sl29:Array (Option Value)} {oc29 kV29 dc29 pm29 cd29 ct29:Value} {f30:Addr} {od30 an30:Option Addr} {sl30:Array (Option Value)} {oc30 kV30 dc30 pm30 cd30 ct30:Value} {f31:Addr} {od31 an31:Option Addr} {sl31:Array (Option Value)} {oc31 kV31 dc31 pm31 cd31 ct31:Value} {f32:Addr} {od32 an32:Option Addr} {sl32:Array (Option Value)} {oc32 kV32 dc32 pm32 cd32 ct32:Value} {f33:Addr} {od33 an33:Option Addr} {sl33:Array (Option Value)} {oc33 kV33 dc33 pm33 cd33 ct33:Value} {f34:Addr} {od34 an34:Option Addr} {sl34:Array (Option Value)} {oc34 kV34 dc34 pm34 cd34 ct34:Value} {f35:Addr} {od35 an35:Option Addr} {sl35:Array (Option Value)} {oc35 kV35 dc35 pm35 cd35 ct35:Value} {f36:Addr} {od36 an36:Option Addr} {sl36:Array (Option Value)} {oc36 kV36 dc36 pm36 cd36 ct36:Value} {f37:Addr} {od37 an37:Option Addr} {sl37:Array (Option Value)} {oc37 kV37 dc37 pm37 cd37 ct37:Value} {E1:Addr} {E0:Addr} {E5:Addr} {E6:Addr} {E4:Addr} {f38:Addr} {od38 an38:Option Addr} {sl38:Array (Option Value)} {oc38 kV38 dc38 pm38 cd38 ct38:Value} {t_LONGEST:Tok} {t_MOST_PLACES:Tok} {t_MOST_TIES:Tok} (X:K.In h) (G:h.Ns mainGlobals mg) (hfa:mg "law" = some (.ref fa))
  (aC:W.nsIn K mainGlobals "Web" = some (some (.ref C)))
  (a1:W.findIn K (.ref C) "__init__" = some (some (.ref f1)))
  (i1:W.isFn K (.ref f1)=true)
  (l1:K.lookup f1=some ⟨oc1,od1,.func (PySem.W.fnOf "__init__" "Web.__init__" (defArgs sInit) (defBody sInit) (defScope sInit) .none kV1 dc1 pm1 an1 cd1 ct1),sl1⟩)
  (c1:W.codeIn K cd1 "Web.__init__" = true)
  (k1:W.keepIn K (.ref f1)=true)
  (a2:W.findIn K (.ref C) "places" = some (some (.ref f2)))
  (i2:W.isFn K (.ref f2)=true)
  (l2:K.lookup f2=some ⟨oc2,od2,.func (PySem.W.fnOf "places" "Web.places" (defArgs sPlaces) (defBody sPlaces) (defScope sPlaces) .none kV2 dc2 pm2 an2 cd2 ct2),sl2⟩)
  (c2:W.codeIn K cd2 "Web.places" = true)
  (k2:W.keepIn K (.ref f2)=true)
  (a3:W.findIn K (.ref C) "ties" = some (some (.ref f3)))
  (i3:W.isFn K (.ref f3)=true)
  (l3:K.lookup f3=some ⟨oc3,od3,.func (PySem.W.fnOf "ties" "Web.ties" (defArgs sTies) (defBody sTies) (defScope sTies) .none kV3 dc3 pm3 an3 cd3 ct3),sl3⟩)
  (c3:W.codeIn K cd3 "Web.ties" = true)
  (k3:W.keepIn K (.ref f3)=true)
  (a4:W.findIn K (.ref C) "many" = some (some (.ref f4)))
  (i4:W.isFn K (.ref f4)=true)
  (l4:K.lookup f4=some ⟨oc4,od4,.func (PySem.W.fnOf "many" "Web.many" (defArgs sMany) (defBody sMany) (defScope sMany) .none kV4 dc4 pm4 an4 cd4 ct4),sl4⟩)
  (c4:W.codeIn K cd4 "Web.many" = true)
  (k4:W.keepIn K (.ref f4)=true)
  (a5:W.findIn K (.ref C) "tie" = some (some (.ref f5)))
  (i5:W.isFn K (.ref f5)=true)
  (l5:K.lookup f5=some ⟨oc5,od5,.func (PySem.W.fnOf "tie" "Web.tie" (defArgs sTieM) (defBody sTieM) (defScope sTieM) .none kV5 dc5 pm5 an5 cd5 ct5),sl5⟩)
  (c5:W.codeIn K cd5 "Web.tie" = true)
  (k5:W.keepIn K (.ref f5)=true)
  (pgC:W.plainGet K C Str.empty=true)
  (hdC:W.hasDictIn K C=true)
  (poC:W.plainOver K C=true)
  (saC:W.findIn K (.ref C) "__setattr__" = some (some (.builtin "object.__setattr__")))
  (mkC:W.makesIn K C=true)
  (kcC:W.keepIn K (.ref C)=true)
  (nAC0:W.findIn K (.ref C) "kept_places" = some none)
  (nAC1:W.findIn K (.ref C) "kept_ties" = some none)
  (a6:W.nsIn K mainGlobals "is_whole" = some (some (.ref f6)))
  (l6:K.lookup f6=some ⟨oc6,od6,.func (PySem.W.fnOf "is_whole" "is_whole" (defArgs sWhole) (defBody sWhole) (defScope sWhole) .none kV6 dc6 pm6 an6 cd6 ct6),sl6⟩)
  (c6:W.codeIn K cd6 "is_whole" = true)
  (k6:W.keepIn K (.ref f6)=true)
  (a7:W.nsIn K mainGlobals "is_name" = some (some (.ref f7)))
  (l7:K.lookup f7=some ⟨oc7,od7,.func (PySem.W.fnOf "is_name" "is_name" (defArgs sName) (defBody sName) (defScope sName) .none kV7 dc7 pm7 an7 cd7 ct7),sl7⟩)
  (c7:W.codeIn K cd7 "is_name" = true)
  (k7:W.keepIn K (.ref f7)=true)
  (a8:W.nsIn K mainGlobals "check_places" = some (some (.ref f8)))
  (l8:K.lookup f8=some ⟨oc8,od8,.func (PySem.W.fnOf "check_places" "check_places" (defArgs sChkP) (defBody sChkP) (defScope sChkP) .none kV8 dc8 pm8 an8 cd8 ct8),sl8⟩)
  (c8:W.codeIn K cd8 "check_places" = true)
  (k8:W.keepIn K (.ref f8)=true)
  (a9:W.nsIn K mainGlobals "is_among" = some (some (.ref f9)))
  (l9:K.lookup f9=some ⟨oc9,od9,.func (PySem.W.fnOf "is_among" "is_among" (defArgs sAmong) (defBody sAmong) (defScope sAmong) .none kV9 dc9 pm9 an9 cd9 ct9),sl9⟩)
  (c9:W.codeIn K cd9 "is_among" = true)
  (k9:W.keepIn K (.ref f9)=true)
  (a10:W.nsIn K mainGlobals "is_tie" = some (some (.ref f10)))
  (l10:K.lookup f10=some ⟨oc10,od10,.func (PySem.W.fnOf "is_tie" "is_tie" (defArgs sTie) (defBody sTie) (defScope sTie) .none kV10 dc10 pm10 an10 cd10 ct10),sl10⟩)
  (c10:W.codeIn K cd10 "is_tie" = true)
  (k10:W.keepIn K (.ref f10)=true)
  (a11:W.nsIn K mainGlobals "check_ties" = some (some (.ref f11)))
  (l11:K.lookup f11=some ⟨oc11,od11,.func (PySem.W.fnOf "check_ties" "check_ties" (defArgs sChkT) (defBody sChkT) (defScope sChkT) .none kV11 dc11 pm11 an11 cd11 ct11),sl11⟩)
  (c11:W.codeIn K cd11 "check_ties" = true)
  (k11:W.keepIn K (.ref f11)=true)
  (a12:W.nsIn K mainGlobals "leads" = some (some (.ref f12)))
  (l12:K.lookup f12=some ⟨oc12,od12,.func (PySem.W.fnOf "leads" "leads" (defArgs sLeads) (defBody sLeads) (defScope sLeads) .none kV12 dc12 pm12 an12 cd12 ct12),sl12⟩)
  (c12:W.codeIn K cd12 "leads" = true)
  (k12:W.keepIn K (.ref f12)=true)
  (a13:W.nsIn K mainGlobals "turned_pairs" = some (some (.ref f13)))
  (l13:K.lookup f13=some ⟨oc13,od13,.func (PySem.W.fnOf "turned_pairs" "turned_pairs" (defArgs sTurned) (defBody sTurned) (defScope sTurned) .none kV13 dc13 pm13 an13 cd13 ct13),sl13⟩)
  (c13:W.codeIn K cd13 "turned_pairs" = true)
  (k13:W.keepIn K (.ref f13)=true)
  (a14:W.nsIn K mainGlobals "spread" = some (some (.ref f14)))
  (l14:K.lookup f14=some ⟨oc14,od14,.func (PySem.W.fnOf "spread" "spread" (defArgs sSpread) (defBody sSpread) (defScope sSpread) .none kV14 dc14 pm14 an14 cd14 ct14),sl14⟩)
  (c14:W.codeIn K cd14 "spread" = true)
  (k14:W.keepIn K (.ref f14)=true)
  (a15:W.nsIn K mainGlobals "pieces_among" = some (some (.ref f15)))
  (l15:K.lookup f15=some ⟨oc15,od15,.func (PySem.W.fnOf "pieces_among" "pieces_among" (defArgs sPA) (defBody sPA) (defScope sPA) .none kV15 dc15 pm15 an15 cd15 ct15),sl15⟩)
  (c15:W.codeIn K cd15 "pieces_among" = true)
  (k15:W.keepIn K (.ref f15)=true)
  (a16:W.nsIn K mainGlobals "pieces" = some (some (.ref f16)))
  (l16:K.lookup f16=some ⟨oc16,od16,.func (PySem.W.fnOf "pieces" "pieces" (defArgs sPieces) (defBody sPieces) (defScope sPieces) .none kV16 dc16 pm16 an16 cd16 ct16),sl16⟩)
  (c16:W.codeIn K cd16 "pieces" = true)
  (k16:W.keepIn K (.ref f16)=true)
  (a17:W.nsIn K mainGlobals "hangs" = some (some (.ref f17)))
  (l17:K.lookup f17=some ⟨oc17,od17,.func (PySem.W.fnOf "hangs" "hangs" (defArgs sHangs) (defBody sHangs) (defScope sHangs) .none kV17 dc17 pm17 an17 cd17 ct17),sl17⟩)
  (c17:W.codeIn K cd17 "hangs" = true)
  (k17:W.keepIn K (.ref f17)=true)
  (a18:W.nsIn K mainGlobals "check_hangs" = some (some (.ref f18)))
  (l18:K.lookup f18=some ⟨oc18,od18,.func (PySem.W.fnOf "check_hangs" "check_hangs" (defArgs sChkH) (defBody sChkH) (defScope sChkH) .none kV18 dc18 pm18 an18 cd18 ct18),sl18⟩)
  (c18:W.codeIn K cd18 "check_hangs" = true)
  (k18:W.keepIn K (.ref f18)=true)
  (a19:W.nsIn K mainGlobals "are_ties" = some (some (.ref f19)))
  (l19:K.lookup f19=some ⟨oc19,od19,.func (PySem.W.fnOf "are_ties" "are_ties" (defArgs sAre) (defBody sAre) (defScope sAre) .none kV19 dc19 pm19 an19 cd19 ct19),sl19⟩)
  (c19:W.codeIn K cd19 "are_ties" = true)
  (k19:W.keepIn K (.ref f19)=true)
  (a20:W.nsIn K mainGlobals "check_list" = some (some (.ref f20)))
  (l20:K.lookup f20=some ⟨oc20,od20,.func (PySem.W.fnOf "check_list" "check_list" (defArgs sChkL) (defBody sChkL) (defScope sChkL) .none kV20 dc20 pm20 an20 cd20 ct20),sl20⟩)
  (c20:W.codeIn K cd20 "check_list" = true)
  (k20:W.keepIn K (.ref f20)=true)
  (a21:W.nsIn K mainGlobals "freed" = some (some (.ref f21)))
  (l21:K.lookup f21=some ⟨oc21,od21,.func (PySem.W.fnOf "freed" "freed" (defArgs sFreed) (defBody sFreed) (defScope sFreed) .none kV21 dc21 pm21 an21 cd21 ct21),sl21⟩)
  (c21:W.codeIn K cd21 "freed" = true)
  (k21:W.keepIn K (.ref f21)=true)
  (a22:W.nsIn K mainGlobals "missed_by" = some (some (.ref f22)))
  (l22:K.lookup f22=some ⟨oc22,od22,.func (PySem.W.fnOf "missed_by" "missed_by" (defArgs sMissB) (defBody sMissB) (defScope sMissB) .none kV22 dc22 pm22 an22 cd22 ct22),sl22⟩)
  (c22:W.codeIn K cd22 "missed_by" = true)
  (k22:W.keepIn K (.ref f22)=true)
  (a23:W.nsIn K mainGlobals "missed" = some (some (.ref f23)))
  (l23:K.lookup f23=some ⟨oc23,od23,.func (PySem.W.fnOf "missed" "missed" (defArgs sMissed) (defBody sMissed) (defScope sMissed) .none kV23 dc23 pm23 an23 cd23 ct23),sl23⟩)
  (c23:W.codeIn K cd23 "missed" = true)
  (k23:W.keepIn K (.ref f23)=true)
  (a24:W.nsIn K mainGlobals "is_meeter" = some (some (.ref f24)))
  (l24:K.lookup f24=some ⟨oc24,od24,.func (PySem.W.fnOf "is_meeter" "is_meeter" (defArgs sIsMt) (defBody sIsMt) (defScope sIsMt) .none kV24 dc24 pm24 an24 cd24 ct24),sl24⟩)
  (c24:W.codeIn K cd24 "is_meeter" = true)
  (k24:W.keepIn K (.ref f24)=true)
  (a25:W.nsIn K mainGlobals "_law_pot" = some (some (.ref f25)))
  (l25:K.lookup f25=some ⟨oc25,od25,.func (PySem.W.fnOf "_law_pot" "_law_pot" (defArgs sPot) (defBody sPot) (defScope sPot) .none kV25 dc25 pm25 an25 cd25 ct25),sl25⟩)
  (c25:W.codeIn K cd25 "_law_pot" = true)
  (k25:W.keepIn K (.ref f25)=true)
  (a26:W.nsIn K mainGlobals "_law_draw" = some (some (.ref f26)))
  (l26:K.lookup f26=some ⟨oc26,od26,.func (PySem.W.fnOf "_law_draw" "_law_draw" (defArgs sTake) (defBody sTake) (defScope sTake) .none kV26 dc26 pm26 an26 cd26 ct26),sl26⟩)
  (c26:W.codeIn K cd26 "_law_draw" = true)
  (k26:W.keepIn K (.ref f26)=true)
  (a27:W.nsIn K mainGlobals "_law_name" = some (some (.ref f27)))
  (l27:K.lookup f27=some ⟨oc27,od27,.func (PySem.W.fnOf "_law_name" "_law_name" (defArgs sWord) (defBody sWord) (defScope sWord) .none kV27 dc27 pm27 an27 cd27 ct27),sl27⟩)
  (c27:W.codeIn K cd27 "_law_name" = true)
  (k27:W.keepIn K (.ref f27)=true)
  (a28:W.nsIn K mainGlobals "_law_names" = some (some (.ref f28)))
  (l28:K.lookup f28=some ⟨oc28,od28,.func (PySem.W.fnOf "_law_names" "_law_names" (defArgs sNames) (defBody sNames) (defScope sNames) .none kV28 dc28 pm28 an28 cd28 ct28),sl28⟩)
  (c28:W.codeIn K cd28 "_law_names" = true)
  (k28:W.keepIn K (.ref f28)=true)
  (a29:W.nsIn K mainGlobals "_law_hanging" = some (some (.ref f29)))
  (l29:K.lookup f29=some ⟨oc29,od29,.func (PySem.W.fnOf "_law_hanging" "_law_hanging" (defArgs sHg) (defBody sHg) (defScope sHg) .none kV29 dc29 pm29 an29 cd29 ct29),sl29⟩)
  (c29:W.codeIn K cd29 "_law_hanging" = true)
  (k29:W.keepIn K (.ref f29)=true)
  (a30:W.nsIn K mainGlobals "_law_any" = some (some (.ref f30)))
  (l30:K.lookup f30=some ⟨oc30,od30,.func (PySem.W.fnOf "_law_any" "_law_any" (defArgs sAny) (defBody sAny) (defScope sAny) .none kV30 dc30 pm30 an30 cd30 ct30),sl30⟩)
  (c30:W.codeIn K cd30 "_law_any" = true)
  (k30:W.keepIn K (.ref f30)=true)
  (a31:W.nsIn K mainGlobals "_law_flood" = some (some (.ref f31)))
  (l31:K.lookup f31=some ⟨oc31,od31,.func (PySem.W.fnOf "_law_flood" "_law_flood" (defArgs sFlo) (defBody sFlo) (defScope sFlo) .none kV31 dc31 pm31 an31 cd31 ct31),sl31⟩)
  (c31:W.codeIn K cd31 "_law_flood" = true)
  (k31:W.keepIn K (.ref f31)=true)
  (a32:W.nsIn K mainGlobals "_law_is_part" = some (some (.ref f32)))
  (l32:K.lookup f32=some ⟨oc32,od32,.func (PySem.W.fnOf "_law_is_part" "_law_is_part" (defArgs sIP) (defBody sIP) (defScope sIP) .none kV32 dc32 pm32 an32 cd32 ct32),sl32⟩)
  (c32:W.codeIn K cd32 "_law_is_part" = true)
  (k32:W.keepIn K (.ref f32)=true)
  (a33:W.nsIn K mainGlobals "_law_crossing" = some (some (.ref f33)))
  (l33:K.lookup f33=some ⟨oc33,od33,.func (PySem.W.fnOf "_law_crossing" "_law_crossing" (defArgs sCr) (defBody sCr) (defScope sCr) .none kV33 dc33 pm33 an33 cd33 ct33),sl33⟩)
  (c33:W.codeIn K cd33 "_law_crossing" = true)
  (k33:W.keepIn K (.ref f33)=true)
  (a34:W.nsIn K mainGlobals "_law_cut_told" = some (some (.ref f34)))
  (l34:K.lookup f34=some ⟨oc34,od34,.func (PySem.W.fnOf "_law_cut_told" "_law_cut_told" (defArgs sCT) (defBody sCT) (defScope sCT) .none kV34 dc34 pm34 an34 cd34 ct34),sl34⟩)
  (c34:W.codeIn K cd34 "_law_cut_told" = true)
  (k34:W.keepIn K (.ref f34)=true)
  (a35:W.nsIn K mainGlobals "_law_apart" = some (some (.ref f35)))
  (l35:K.lookup f35=some ⟨oc35,od35,.func (PySem.W.fnOf "_law_apart" "_law_apart" (defArgs sApt) (defBody sApt) (defScope sApt) .none kV35 dc35 pm35 an35 cd35 ct35),sl35⟩)
  (c35:W.codeIn K cd35 "_law_apart" = true)
  (k35:W.keepIn K (.ref f35)=true)
  (a36:W.nsIn K mainGlobals "_law_right" = some (some (.ref f36)))
  (l36:K.lookup f36=some ⟨oc36,od36,.func (PySem.W.fnOf "_law_right" "_law_right" (defArgs sRi) (defBody sRi) (defScope sRi) .none kV36 dc36 pm36 an36 cd36 ct36),sl36⟩)
  (c36:W.codeIn K cd36 "_law_right" = true)
  (k36:W.keepIn K (.ref f36)=true)
  (a37:W.nsIn K mainGlobals "law" = some (some (.ref f37)))
  (l37:K.lookup f37=some ⟨oc37,od37,.func (PySem.W.fnOf "law" "law" (defArgs sLaw) (defBody sLaw) (defScope sLaw) .none kV37 dc37 pm37 an37 cd37 ct37),sl37⟩)
  (c37:W.codeIn K cd37 "law" = true)
  (k37:W.keepIn K (.ref f37)=true)
  (xE1:W.nsIn K mainGlobals "NoTie" = some (some (.ref E1)))
  (yE1:W.excIn K E1 [.type "ValueError",.type "Exception",.type "BaseException",.type "object"] "ValueError.__new__" = true)
  (zE1_0:W.isClsIn K E1=true)
  (zE1_1:W.mroIn K E1 (.type "object")=some true)
  (zE1_2:W.mroIn K E1 (.type "BaseException")=some true)
  (zE1_3:W.findIn K (.ref E1) "__getattribute__" = some (some (.builtin "BaseException.__getattribute__")))
  (zE1_4:W.findIn K (.ref E1) "__getattr__" = some none)
  (zE1_5:W.findIn K (.ref E1) "__class__" = some (some (.builtin "object.__class__")))
  (xE0:W.nsIn K mainGlobals "WebError" = some (some (.ref E0)))
  (xE5:W.nsIn K mainGlobals "NoMeeter" = some (some (.ref E5)))
  (xE6:W.nsIn K mainGlobals "TooFew" = some (some (.ref E6)))
  (xE4:W.nsIn K mainGlobals "Apart" = some (some (.ref E4)))
  (a38:W.findIn K (.ref E4) "__init__" = some (some (.ref f38)))
  (i38:W.isFn K (.ref f38)=true)
  (l38:K.lookup f38=some ⟨oc38,od38,.func (PySem.W.fnOf "__init__" "Apart.__init__" (defArgs sAI) (defBody sAI) (defScope sAI) .none kV38 dc38 pm38 an38 cd38 ct38),sl38⟩)
  (c38:W.codeIn K cd38 "Apart.__init__" = true)
  (k38:W.keepIn K (.ref f38)=true)
  (hdE4:W.hasDictIn K E4=true)
  (saE4:W.findIn K (.ref E4) "__setattr__" = some (some (.builtin "object.__setattr__")))
  (xiE4:L6.xcIn K E4 L6.bmVE "ValueError.__new__" f38=true)
  (nAE40:W.findIn K (.ref E4) "cut" = some none)
  (zE4_0:W.isClsIn K E4=true)
  (zE4_1:W.mroIn K E4 (.type "object")=some true)
  (zE4_2:W.mroIn K E4 (.type "BaseException")=some true)
  (zE4_3:W.findIn K (.ref E4) "__getattribute__" = some (some (.builtin "BaseException.__getattribute__")))
  (zE4_4:W.findIn K (.ref E4) "__getattr__" = some none)
  (zE4_5:W.findIn K (.ref E4) "__class__" = some (some (.builtin "object.__class__")))
  (g_divmod:W.nsIn K mainGlobals "divmod" = some none)
  (g_len:W.nsIn K mainGlobals "len" = some none)
  (g_all:W.nsIn K mainGlobals "all" = some none)
  (g_isinstance:W.nsIn K mainGlobals "isinstance" = some none)
  (g_str:W.nsIn K mainGlobals "str" = some none)
  (g_range:W.nsIn K mainGlobals "range" = some none)
  (g_max:W.nsIn K mainGlobals "max" = some none)
  (g_min:W.nsIn K mainGlobals "min" = some none)
  (g_bool:W.nsIn K mainGlobals "bool" = some none)
  (g_list:W.nsIn K mainGlobals "list" = some none)
  (g_int:W.nsIn K mainGlobals "int" = some none)
  (g_tuple:W.nsIn K mainGlobals "tuple" = some none)
  (g_set:W.nsIn K mainGlobals "set" = some none)
  (g_sorted:W.nsIn K mainGlobals "sorted" = some none)
  (g_abs:W.nsIn K mainGlobals "abs" = some none)
  (g_enumerate:W.nsIn K mainGlobals "enumerate" = some none)
  (g_ValueError:W.nsIn K mainGlobals "ValueError" = some none)
  (g_LONGEST:W.nsIn K mainGlobals "LONGEST" = some (some (.int 8 t_LONGEST)))
  (g_MOST_PLACES:W.nsIn K mainGlobals "MOST_PLACES" = some (some (.int 12 t_MOST_PLACES)))
  (g_MOST_TIES:W.nsIn K mainGlobals "MOST_TIES" = some (some (.int 30 t_MOST_TIES)))
  (q1a:W.subIn K (.ref E0) (.type "BaseException")=some true)
  (q1b:W.kitOne K (.ref E4) (.ref E0)=some true)
  (q1c:(Value.ref E4 == Value.ref E0)=false)
  (q2:W.kitOne K (.ref E4) (.ref E4)=some true)
  (q3:W.kitOne K (.ref E4) (.type "ValueError")=some true)
  (q4:W.kitAny K (.ref E4) [.ref E5,.ref E1,.ref E6]=some false)
  : ∃ fd:FuncData,(∀ (s:Shared) (v:Value),BindsTo s fd ⟨[v],[]⟩ [("_law_script",v)])/\∀ base:Heap,K.In base->base.Ns mainGlobals mg->FnOk l.prog w K mg base CX0 10 fa fd ["_law_script"] (spLaw K):=by
 have e:=hfa.symm.trans (PySem.W.mg_of X G a37)
 cases e
 have F_init:=fun_mk (st:=sInit) l1 c1 k1
 have B_init:=F_init.binds (ps:=["self","places","ties"]) fun _ _ _ _ _ _ us hl=>match us,hl with | [_,_,_],_=>rfl
 have Mm_init:Meth K C "__init__" f1:=⟨a1,i1,k1⟩
 have F_places:=fun_mk (st:=sPlaces) l2 c2 k2
 have B_places:=F_places.binds (ps:=["self"]) fun _ _ _ _ _ _ us hl=>match us,hl with | [_],_=>rfl
 have Mm_places:Meth K C "places" f2:=⟨a2,i2,k2⟩
 have F_ties:=fun_mk (st:=sTies) l3 c3 k3
 have B_ties:=F_ties.binds (ps:=["self"]) fun _ _ _ _ _ _ us hl=>match us,hl with | [_],_=>rfl
 have Mm_ties:Meth K C "ties" f3:=⟨a3,i3,k3⟩
 have F_many:=fun_mk (st:=sMany) l4 c4 k4
 have B_many:=F_many.binds (ps:=["self"]) fun _ _ _ _ _ _ us hl=>match us,hl with | [_],_=>rfl
 have Mm_many:Meth K C "many" f4:=⟨a4,i4,k4⟩
 have F_tiem:=fun_mk (st:=sTieM) l5 c5 k5
 have B_tiem:=F_tiem.binds (ps:=["self","k"]) fun _ _ _ _ _ _ us hl=>match us,hl with | [_,_],_=>rfl
 have Mm_tiem:Meth K C "tie" f5:=⟨a5,i5,k5⟩
 have W:WC K mg C:=⟨⟨pgC,hdC,poC,saC⟩,nAC0,nAC1,PySem.W.mg_of X G aC⟩
 have MkC:Mk K C f1:=⟨mkC,a1,i1,kcC⟩
 have F_whole:=fun_mk (st:=sWhole) l6 c6 k6
 have B_whole:=F_whole.binds (ps:=["thing"]) fun _ _ _ _ _ _ us hl=>match us,hl with | [_],_=>rfl
 have D_whole:Df K mg "is_whole" sWhole ["thing"] f6 _:=⟨F_whole,PySem.W.mg_of X G a6,B_whole⟩
 have F_name:=fun_mk (st:=sName) l7 c7 k7
 have B_name:=F_name.binds (ps:=["thing"]) fun _ _ _ _ _ _ us hl=>match us,hl with | [_],_=>rfl
 have D_name:Df K mg "is_name" sName ["thing"] f7 _:=⟨F_name,PySem.W.mg_of X G a7,B_name⟩
 have F_chkP:=fun_mk (st:=sChkP) l8 c8 k8
 have B_chkP:=F_chkP.binds (ps:=["places"]) fun _ _ _ _ _ _ us hl=>match us,hl with | [_],_=>rfl
 have D_chkP:Df K mg "check_places" sChkP ["places"] f8 _:=⟨F_chkP,PySem.W.mg_of X G a8,B_chkP⟩
 have F_among:=fun_mk (st:=sAmong) l9 c9 k9
 have B_among:=F_among.binds (ps:=["places","thing"]) fun _ _ _ _ _ _ us hl=>match us,hl with | [_,_],_=>rfl
 have D_among:Df K mg "is_among" sAmong ["places","thing"] f9 _:=⟨F_among,PySem.W.mg_of X G a9,B_among⟩
 have F_tie:=fun_mk (st:=sTie) l10 c10 k10
 have B_tie:=F_tie.binds (ps:=["places","thing"]) fun _ _ _ _ _ _ us hl=>match us,hl with | [_,_],_=>rfl
 have D_tie:Df K mg "is_tie" sTie ["places","thing"] f10 _:=⟨F_tie,PySem.W.mg_of X G a10,B_tie⟩
 have F_chkT:=fun_mk (st:=sChkT) l11 c11 k11
 have B_chkT:=F_chkT.binds (ps:=["places","ties"]) fun _ _ _ _ _ _ us hl=>match us,hl with | [_,_],_=>rfl
 have D_chkT:Df K mg "check_ties" sChkT ["places","ties"] f11 _:=⟨F_chkT,PySem.W.mg_of X G a11,B_chkT⟩
 have F_leads:=fun_mk (st:=sLeads) l12 c12 k12
 have B_leads:=F_leads.binds (ps:=["places","ties"]) fun _ _ _ _ _ _ us hl=>match us,hl with | [_,_],_=>rfl
 have D_leads:Df K mg "leads" sLeads ["places","ties"] f12 _:=⟨F_leads,PySem.W.mg_of X G a12,B_leads⟩
 have F_turned:=fun_mk (st:=sTurned) l13 c13 k13
 have B_turned:=F_turned.binds (ps:=["ties"]) fun _ _ _ _ _ _ us hl=>match us,hl with | [_],_=>rfl
 have D_turned:Df K mg "turned_pairs" sTurned ["ties"] f13 _:=⟨F_turned,PySem.W.mg_of X G a13,B_turned⟩
 have F_spread:=fun_mk (st:=sSpread) l14 c14 k14
 have B_spread:=F_spread.binds (ps:=["steps","start"]) fun _ _ _ _ _ _ us hl=>match us,hl with | [_,_],_=>rfl
 have D_spread:Df K mg "spread" sSpread ["steps","start"] f14 _:=⟨F_spread,PySem.W.mg_of X G a14,B_spread⟩
 have F_pa:=fun_mk (st:=sPA) l15 c15 k15
 have B_pa:=F_pa.binds (ps:=["web","among"]) fun _ _ _ _ _ _ us hl=>match us,hl with | [_,_],_=>rfl
 have D_pa:Df K mg "pieces_among" sPA ["web","among"] f15 _:=⟨F_pa,PySem.W.mg_of X G a15,B_pa⟩
 have F_pieces:=fun_mk (st:=sPieces) l16 c16 k16
 have B_pieces:=F_pieces.binds (ps:=["web"]) fun _ _ _ _ _ _ us hl=>match us,hl with | [_],_=>rfl
 have D_pieces:Df K mg "pieces" sPieces ["web"] f16 _:=⟨F_pieces,PySem.W.mg_of X G a16,B_pieces⟩
 have F_hangs:=fun_mk (st:=sHangs) l17 c17 k17
 have B_hangs:=F_hangs.binds (ps:=["web"]) fun _ _ _ _ _ _ us hl=>match us,hl with | [_],_=>rfl
 have D_hangs:Df K mg "hangs" sHangs ["web"] f17 _:=⟨F_hangs,PySem.W.mg_of X G a17,B_hangs⟩
 have F_chkH:=fun_mk (st:=sChkH) l18 c18 k18
 have B_chkH:=F_chkH.binds (ps:=["web"]) fun _ _ _ _ _ _ us hl=>match us,hl with | [_],_=>rfl
 have D_chkH:Df K mg "check_hangs" sChkH ["web"] f18 _:=⟨F_chkH,PySem.W.mg_of X G a18,B_chkH⟩
 have F_are:=fun_mk (st:=sAre) l19 c19 k19
 have B_are:=F_are.binds (ps:=["web","thing"]) fun _ _ _ _ _ _ us hl=>match us,hl with | [_,_],_=>rfl
 have D_are:Df K mg "are_ties" sAre ["web","thing"] f19 _:=⟨F_are,PySem.W.mg_of X G a19,B_are⟩
 have F_chkL:=fun_mk (st:=sChkL) l20 c20 k20
 have B_chkL:=F_chkL.binds (ps:=["web","ties"]) fun _ _ _ _ _ _ us hl=>match us,hl with | [_,_],_=>rfl
 have D_chkL:Df K mg "check_list" sChkL ["web","ties"] f20 _:=⟨F_chkL,PySem.W.mg_of X G a20,B_chkL⟩
 have F_freed:=fun_mk (st:=sFreed) l21 c21 k21
 have B_freed:=F_freed.binds (ps:=["web","ties"]) fun _ _ _ _ _ _ us hl=>match us,hl with | [_,_],_=>rfl
 have D_freed:Df K mg "freed" sFreed ["web","ties"] f21 _:=⟨F_freed,PySem.W.mg_of X G a21,B_freed⟩
 have F_mb:=fun_mk (st:=sMissB) l22 c22 k22
 have B_mb:=F_mb.binds (ps:=["web","ties"]) fun _ _ _ _ _ _ us hl=>match us,hl with | [_,_],_=>rfl
 have D_mb:Df K mg "missed_by" sMissB ["web","ties"] f22 _:=⟨F_mb,PySem.W.mg_of X G a22,B_mb⟩
 have F_md:=fun_mk (st:=sMissed) l23 c23 k23
 have B_md:=F_md.binds (ps:=["web","ties"]) fun _ _ _ _ _ _ us hl=>match us,hl with | [_,_],_=>rfl
 have D_md:Df K mg "missed" sMissed ["web","ties"] f23 _:=⟨F_md,PySem.W.mg_of X G a23,B_md⟩
 have F_ism:=fun_mk (st:=sIsMt) l24 c24 k24
 have B_ism:=F_ism.binds (ps:=["web","ties"]) fun _ _ _ _ _ _ us hl=>match us,hl with | [_,_],_=>rfl
 have D_ism:Df K mg "is_meeter" sIsMt ["web","ties"] f24 _:=⟨F_ism,PySem.W.mg_of X G a24,B_ism⟩
 have F_pot:=fun_mk (st:=sPot) l25 c25 k25
 have B_pot:=F_pot.binds (ps:=["_law_script","_law_k"]) fun _ _ _ _ _ _ us hl=>match us,hl with | [_,_],_=>rfl
 have D_pot:Df K mg "_law_pot" sPot ["_law_script","_law_k"] f25 _:=⟨F_pot,PySem.W.mg_of X G a25,B_pot⟩
 have F_take:=fun_mk (st:=sTake) l26 c26 k26
 have B_take:=F_take.binds (ps:=["_law_pot_here","_law_many"]) fun _ _ _ _ _ _ us hl=>match us,hl with | [_,_],_=>rfl
 have D_take:Df K mg "_law_draw" sTake ["_law_pot_here","_law_many"] f26 _:=⟨F_take,PySem.W.mg_of X G a26,B_take⟩
 have F_word:=fun_mk (st:=sWord) l27 c27 k27
 have B_word:=F_word.binds (ps:=["_law_pot_here"]) fun _ _ _ _ _ _ us hl=>match us,hl with | [_],_=>rfl
 have D_word:Df K mg "_law_name" sWord ["_law_pot_here"] f27 _:=⟨F_word,PySem.W.mg_of X G a27,B_word⟩
 have F_names:=fun_mk (st:=sNames) l28 c28 k28
 have B_names:=F_names.binds (ps:=["_law_pot_here","_law_most"]) fun _ _ _ _ _ _ us hl=>match us,hl with | [_,_],_=>rfl
 have D_names:Df K mg "_law_names" sNames ["_law_pot_here","_law_most"] f28 _:=⟨F_names,PySem.W.mg_of X G a28,B_names⟩
 have F_hg:=fun_mk (st:=sHg) l29 c29 k29
 have B_hg:=F_hg.binds (ps:=["_law_pot_here","_law_most","_law_more"]) fun _ _ _ _ _ _ us hl=>match us,hl with | [_,_,_],_=>rfl
 have D_hg:Df K mg "_law_hanging" sHg ["_law_pot_here","_law_most","_law_more"] f29 _:=⟨F_hg,PySem.W.mg_of X G a29,B_hg⟩
 have F_an:=fun_mk (st:=sAny) l30 c30 k30
 have B_an:=F_an.binds (ps:=["_law_pot_here","_law_most","_law_more"]) fun _ _ _ _ _ _ us hl=>match us,hl with | [_,_,_],_=>rfl
 have D_an:Df K mg "_law_any" sAny ["_law_pot_here","_law_most","_law_more"] f30 _:=⟨F_an,PySem.W.mg_of X G a30,B_an⟩
 have F_fl:=fun_mk (st:=sFlo) l31 c31 k31
 have B_fl:=F_fl.binds (ps:=["_law_ties","_law_both","_law_begin"]) fun _ _ _ _ _ _ us hl=>match us,hl with | [_,_,_],_=>rfl
 have D_fl:Df K mg "_law_flood" sFlo ["_law_ties","_law_both","_law_begin"] f31 _:=⟨F_fl,PySem.W.mg_of X G a31,B_fl⟩
 have F_ip:=fun_mk (st:=sIP) l32 c32 k32
 have B_ip:=F_ip.binds (ps:=["_law_names_here","_law_thing"]) fun _ _ _ _ _ _ us hl=>match us,hl with | [_,_],_=>rfl
 have D_ip:Df K mg "_law_is_part" sIP ["_law_names_here","_law_thing"] f32 _:=⟨F_ip,PySem.W.mg_of X G a32,B_ip⟩
 have F_cr:=fun_mk (st:=sCr) l33 c33 k33
 have B_cr:=F_cr.binds (ps:=["_law_ties","_law_cut"]) fun _ _ _ _ _ _ us hl=>match us,hl with | [_,_],_=>rfl
 have D_cr:Df K mg "_law_crossing" sCr ["_law_ties","_law_cut"] f33 _:=⟨F_cr,PySem.W.mg_of X G a33,B_cr⟩
 have F_ct:=fun_mk (st:=sCT) l34 c34 k34
 have B_ct:=F_ct.binds (ps:=["_law_call","_law_web","_law_some"]) fun _ _ _ _ _ _ us hl=>match us,hl with | [_,_,_],_=>rfl
 have D_ct:Df K mg "_law_cut_told" sCT ["_law_call","_law_web","_law_some"] f34 _:=⟨F_ct,PySem.W.mg_of X G a34,B_ct⟩
 have F_ap:=fun_mk (st:=sApt) l35 c35 k35
 have B_ap:=F_ap.binds (ps:=["_law_names_here","_law_ties","_law_call","_law_web","_law_some"]) fun _ _ _ _ _ _ us hl=>match us,hl with | [_,_,_,_,_],_=>rfl
 have D_ap:Df K mg "_law_apart" sApt ["_law_names_here","_law_ties","_law_call","_law_web","_law_some"] f35 _:=⟨F_ap,PySem.W.mg_of X G a35,B_ap⟩
 have F_ri:=fun_mk (st:=sRi) l36 c36 k36
 have B_ri:=F_ri.binds (ps:=["_law_web","_law_names_here","_law_ties","_law_some"]) fun _ _ _ _ _ _ us hl=>match us,hl with | [_,_,_,_],_=>rfl
 have D_ri:Df K mg "_law_right" sRi ["_law_web","_law_names_here","_law_ties","_law_some"] f36 _:=⟨F_ri,PySem.W.mg_of X G a36,B_ri⟩
 have F_law:=fun_mk (st:=sLaw) l37 c37 k37
 have mg_E1:=PySem.W.mg_of X G xE1
 have Ex_E1:Ex K mg "NoTie" E1:=⟨mg_E1,_,_,_,_,yE1,PySem.F.excBase_ValueError⟩
 have Xc_E1:ExcCl K E1:=⟨zE1_0,zE1_1,zE1_2,zE1_3,zE1_4,zE1_5⟩
 have mg_E0:=PySem.W.mg_of X G xE0
 have mg_E5:=PySem.W.mg_of X G xE5
 have mg_E6:=PySem.W.mg_of X G xE6
 have mg_E4:=PySem.W.mg_of X G xE4
 have F_ai:=fun_mk (st:=sAI) l38 c38 k38
 have B_ai:=F_ai.binds (ps:=["self","cut"]) fun _ _ _ _ _ _ us hl=>match us,hl with | [_,_],_=>rfl
 have Mm_ai:Meth K E4 "__init__" f38:=⟨a38,i38,k38⟩
 have Xc_E4:ExcCl K E4:=⟨zE4_0,zE4_1,zE4_2,zE4_3,zE4_4,zE4_5⟩
 have Xl_E4:L6.XCl K E4 f38:=⟨Xc_E4,saE4,hdE4,xiE4,i38⟩
 have m_divmod:=PySem.W.mg_none_of X G g_divmod
 have m_len:=PySem.W.mg_none_of X G g_len
 have m_all:=PySem.W.mg_none_of X G g_all
 have m_isinstance:=PySem.W.mg_none_of X G g_isinstance
 have m_str:=PySem.W.mg_none_of X G g_str
 have m_range:=PySem.W.mg_none_of X G g_range
 have m_max:=PySem.W.mg_none_of X G g_max
 have m_min:=PySem.W.mg_none_of X G g_min
 have m_bool:=PySem.W.mg_none_of X G g_bool
 have m_list:=PySem.W.mg_none_of X G g_list
 have m_int:=PySem.W.mg_none_of X G g_int
 have m_tuple:=PySem.W.mg_none_of X G g_tuple
 have m_set:=PySem.W.mg_none_of X G g_set
 have m_sorted:=PySem.W.mg_none_of X G g_sorted
 have m_abs:=PySem.W.mg_none_of X G g_abs
 have m_enumerate:=PySem.W.mg_none_of X G g_enumerate
 have m_ValueError:=PySem.W.mg_none_of X G g_ValueError
 have m_LONGEST:=PySem.W.mg_of X G g_LONGEST
 have m_MOST_PLACES:=PySem.W.mg_of X G g_MOST_PLACES
 have m_MOST_TIES:=PySem.W.mg_of X G g_MOST_TIES
 have T:Glb mg:=⟨m_divmod,m_len,m_all,m_isinstance,m_str,m_range,m_max,m_min,m_bool,m_list,m_int,m_tuple,m_set,m_sorted,⟨_,m_LONGEST⟩,⟨_,m_MOST_PLACES⟩,⟨_,m_MOST_TIES⟩⟩
 have M0:=Mt.mk W F_places Mm_places B_places F_ties Mm_ties B_ties
 have M:=Mh.mk M0 F_many Mm_many B_many F_tiem Mm_tiem B_tiem D_whole Ex_E1
 have A4:=Ap.mk mg_E4 Xl_E4 nAE40 F_ai B_ai
 have XX:Errs K mg E0 E1 E4 E5 E6:=⟨mg_E0,mg_E1,mg_E4,mg_E5,mg_E6,m_ValueError,exm_mk q1a q1b q1c,q2,q3,q4⟩
 exact ⟨PySem.W.fnOf "law" "law" (defArgs sLaw) (defBody sLaw) (defScope sLaw) .none kV37 dc37 pm37 an37 cd37 ct37,fun s v=>.of_eq rfl,fun base _ _=>law_all F_law F_init MkC B_init D_name D_among D_tie D_chkP D_chkT M A4 XX D_leads D_turned D_spread D_pa D_pieces D_hangs D_chkH D_are D_chkL D_freed D_mb D_md D_ism D_pot D_take D_word D_names D_hg D_an D_fl D_ip D_cr D_ct D_ap D_ri m_abs m_enumerate T⟩
theorem walk {l:PySem.W.OpenLaw} {q:Program} {loose:List Str} {XP:(Str->Option Value)->Heap->Prop} {YP:World->Heap->Prop} {d:DefRec} {K:Params->PySem.W.Frag} (hn:l.most=some 63) (hdf:d.params.defaults=[])
  (hY:∀ (w:World) (h:Heap),YP w h->(K w.params).In h)
  (F:∀ (w:World) (mg:Str->Option Value) (fa:Addr) (h:Heap),(K w.params).In h->h.Ns mainGlobals mg->mg d.name=some (.ref fa) ->
   ∃ fd:FuncData,(∀ (s:Shared) (u:Value),BindsTo s fd ⟨[u],[]⟩ [("_law_script",u)])/\∀ base:Heap,(K w.params).In base->base.Ns mainGlobals mg->FnOk l.prog w (K w.params) mg base CX0 10 fa fd ["_law_script"] (spLaw (K w.params))) :
  PySem.W.WalkO q loose XP YP l.row.toRowW d [] (fun f vs=>PySem.call f vs) :=
 L2.walk_of (n:=63) (k:=10) (x:="_law_script") (CX:=fun _=>CX0) (sp:=fun w=>spLaw (K w.params)) hn (by decide) hdf ⟨rfl,by decide,by decide,rfl⟩ hY F (fun _ _ a ns hl _ hS=>⟨a,ns,rfl,hS,hl,fun _=>rfl⟩) fun _ _ _ _ _ z=>z
end K41
def PySem.W.Fast.tw11742053238583072125:Unit:=()
def PySem.W.Fast.tw6293109512819754589:Unit:=()
def PySem.W.Fast.tw17497570174261037336:Unit:=()
def PySem.W.Fast.tw7841174372343114577:Unit:=()
def PySem.W.Fast.tw10574824231169380472:Unit:=()
def PySem.W.Fast.tw5198157785507594166:Unit:=()
def PySem.W.Fast.tw8054818028706987012:Unit:=()
def PySem.W.Fast.tw8825158859938008954:Unit:=()
def PySem.W.Fast.tw14626362827930593020:Unit:=()
def PySem.W.Fast.tw4278566482769406513:Unit:=()
def PySem.W.Fast.tw14915577475283778170:Unit:=()
def PySem.W.Fast.tw1140937966466112744:Unit:=()
def PySem.W.Fast.tw4376227736975216621:Unit:=()
def PySem.W.Fast.tw13879978724784790077:Unit:=()
def PySem.W.Fast.tw13174291958803709104:Unit:=()
def PySem.W.Fast.tw2843244803876030064:Unit:=()
def PySem.W.Fast.tw702861957579280752:Unit:=()
def PySem.W.Fast.tw1692892061093692578:Unit:=()
def PySem.W.Fast.tw17807018784551105941:Unit:=()
def PySem.W.Fast.tw12186044158487377149:Unit:=()
def PySem.W.Fast.tw11787744474315444356:Unit:=()
def PySem.W.Fast.tw11673540848716720774:Unit:=()
def PySem.W.Fast.tw12390925566713155598:Unit:=()
def PySem.W.Fast.tw14665153053926663299:Unit:=()
def PySem.W.Fast.tw11381663249077613781:Unit:=()
def PySem.W.Fast.tw15631442005056020526:Unit:=()
def PySem.W.Fast.tw1125150727031449206:Unit:=()
def PySem.W.Fast.tw5214220438522219180:Unit:=()
def PySem.W.Fast.tw6247512379091258229:Unit:=()
def PySem.W.Fast.tw9974648650090218578:Unit:=()
def PySem.W.Fast.tw6599342524241110766:Unit:=()
def PySem.W.Fast.tw17845590260657971341:Unit:=()
def PySem.W.Fast.tw17665552405943192977:Unit:=()
def PySem.W.Fast.tw9416725885630758487:Unit:=()
def PySem.W.Fast.tw9596064068029816540:Unit:=()
def PySem.W.Fast.tw11602084140491518158:Unit:=()
def PySem.W.Fast.tw7799891414931612418:Unit:=()
def PySem.W.Fast.tw7491027236766208695:Unit:=()
def PySem.W.Fast.tw552920596468154895:Unit:=()
def PySem.W.Fast.tw9194858720927654789:Unit:=()
def PySem.W.Fast.tw9869877114606549352:Unit:=()
def PySem.W.Fast.tw4343088266641986295:Unit:=()
def PySem.W.Fast.tw5800545276789405052:Unit:=()
def PySem.W.Fast.tw7806621133243600829:Unit:=()
def PySem.W.Fast.tw10745645194204698402:Unit:=()
def PySem.W.Fast.tw7809570346762545458:Unit:=()
def PySem.W.Fast.tw12569478903751981689:Unit:=()
def PySem.W.Fast.tw17375650627032539521:Unit:=()
def PySem.W.Fast.tw17218234045980975708:Unit:=()
def PySem.W.Fast.tw15059730431496960326:Unit:=()
def PySem.W.Fast.tw7076458733750089360:Unit:=()
def PySem.W.Fast.tw1965048003480300929:Unit:=()
def PySem.W.Fast.tw18020030831246000268:Unit:=()
def PySem.W.Fast.tw10504212350153229252:Unit:=()
def PySem.W.Fast.tw15349815863234183615:Unit:=()
def PySem.W.Fast.tw6425149038060969926:Unit:=()
def PySem.W.Fast.tw16775626269658960285:Unit:=()
def PySem.W.Fast.tw13110671656050682440:Unit:=()
def PySem.W.Fast.tw16648463485764308576:Unit:=()
def PySem.W.Fast.tw12559877112239666798:Unit:=()
def PySem.W.Fast.tw15790659732242175002:Unit:=()
def PySem.W.Fast.tw17947343136482570087:Unit:=()
def PySem.W.Fast.tw12543892792813287557:Unit:=()
def PySem.W.Fast.tw13133223782791033929:Unit:=()
def PySem.W.Fast.tw7905034437372854234:Unit:=()
def PySem.W.Fast.tw15866362547018892064:Unit:=()
def PySem.W.Fast.tw14117849996812884410:Unit:=()
def PySem.W.Fast.tw5056510457210200121:Unit:=()
def PySem.W.Fast.tw8500185713333906167:Unit:=()
def PySem.W.Fast.tw10488696460965069953:Unit:=()
def PySem.W.Fast.tw15306498017597670102:Unit:=()
def PySem.W.Fast.tw16280989237630960800:Unit:=()
def PySem.W.Fast.tw2189830996535694493:Unit:=()
def PySem.W.Fast.tw2790875086866561677:Unit:=()
def PySem.W.Fast.tw12145247120123531990:Unit:=()
def PySem.W.Fast.tw3416671742828525930:Unit:=()
def PySem.W.Fast.tw6788004751689847963:Unit:=()
def PySem.W.Fast.tw15245738430714228054:Unit:=()
def PySem.W.Fast.tw10284113870072956914:Unit:=()
def PySem.W.Fast.tw12339325456153338497:Unit:=()
def PySem.W.Fast.tw14856611178992274098:Unit:=()
def PySem.W.Fast.tw12283763906782921785:Unit:=()
def PySem.W.Fast.tw12608259923295781129:Unit:=()
def PySem.W.Fast.tw4683813764508911708:Unit:=()
def PySem.W.Fast.tw13061123079847183105:Unit:=()
def PySem.W.Fast.tw3733128651385513835:Unit:=()
def PySem.W.Fast.tw1970168541860600520:Unit:=()
def PySem.W.Fast.tw7818166564259847484:Unit:=()
def PySem.W.Fast.tw14112032065277361297:Unit:=()
def PySem.W.Fast.tw12092552949601302072:Unit:=()
def PySem.W.Fast.tw11941342020415481476:Unit:=()
def PySem.W.Fast.tw3678907882213060578:Unit:=()
def PySem.W.Fast.tw483872343406634169:Unit:=()
def PySem.W.Fast.tw18443692120621351350:Unit:=()
open PySem PySem.W PyProof.Rows
set_option maxRecDepth 100000 in
set_option maxHeartbeats 0 in
theorem PySem.Challenge.cw_cutmeet_k41_meeters_known_holds : PySem.Challenge.rw_cutmeet_k41_meeters_known.Holds := by
  w_on; o_law; k_head; (case hw => w_witness2)
  k_fill
  refine K41.walk (l := PySem.Challenge.rw_cutmeet_k41_meeters_known) rfl rfl (fun w h Y => PySem.W.kIn_of Y) ?F
  case F =>
    intro w mg fa h KX G hmg
    refine' K41.all_mk KX G hmg ?aC ?a1 ?i1 ?l1 ?c1 ?k1 ?a2 ?i2 ?l2 ?c2 ?k2 ?a3 ?i3 ?l3 ?c3 ?k3 ?a4 ?i4 ?l4 ?c4 ?k4 ?a5 ?i5 ?l5 ?c5 ?k5 ?pgC ?hdC ?poC ?saC ?mkC ?kcC ?nAC0 ?nAC1 ?a6 ?l6 ?c6 ?k6 ?a7 ?l7 ?c7 ?k7 ?a8 ?l8 ?c8 ?k8 ?a9 ?l9 ?c9 ?k9 ?a10 ?l10 ?c10 ?k10 ?a11 ?l11 ?c11 ?k11 ?a12 ?l12 ?c12 ?k12 ?a13 ?l13 ?c13 ?k13 ?a14 ?l14 ?c14 ?k14 ?a15 ?l15 ?c15 ?k15 ?a16 ?l16 ?c16 ?k16 ?a17 ?l17 ?c17 ?k17 ?a18 ?l18 ?c18 ?k18 ?a19 ?l19 ?c19 ?k19 ?a20 ?l20 ?c20 ?k20 ?a21 ?l21 ?c21 ?k21 ?a22 ?l22 ?c22 ?k22 ?a23 ?l23 ?c23 ?k23 ?a24 ?l24 ?c24 ?k24 ?a25 ?l25 ?c25 ?k25 ?a26 ?l26 ?c26 ?k26 ?a27 ?l27 ?c27 ?k27 ?a28 ?l28 ?c28 ?k28 ?a29 ?l29 ?c29 ?k29 ?a30 ?l30 ?c30 ?k30 ?a31 ?l31 ?c31 ?k31 ?a32 ?l32 ?c32 ?k32 ?a33 ?l33 ?c33 ?k33 ?a34 ?l34 ?c34 ?k34 ?a35 ?l35 ?c35 ?k35 ?a36 ?l36 ?c36 ?k36 ?a37 ?l37 ?c37 ?k37 ?xE1 ?yE1 ?zE1_0 ?zE1_1 ?zE1_2 ?zE1_3 ?zE1_4 ?zE1_5 ?xE0 ?xE5 ?xE6 ?xE4 ?a38 ?i38 ?l38 ?c38 ?k38 ?hdE4 ?saE4 ?xiE4 ?nAE40 ?zE4_0 ?zE4_1 ?zE4_2 ?zE4_3 ?zE4_4 ?zE4_5 ?g_divmod ?g_len ?g_all ?g_isinstance ?g_str ?g_range ?g_max ?g_min ?g_bool ?g_list ?g_int ?g_tuple ?g_set ?g_sorted ?g_abs ?g_enumerate ?g_ValueError ?g_LONGEST ?g_MOST_PLACES ?g_MOST_TIES ?q1a ?q1b ?q1c ?q2 ?q3 ?q4
    (case aC => k_is)
    (case a1 => k_is)
    (case i1 => k_is)
    (case l1 => k_is)
    (case c1 => k_is)
    (case k1 => k_is)
    (case a2 => k_is)
    (case i2 => k_is)
    (case l2 => k_is)
    (case c2 => k_is)
    (case k2 => k_is)
    (case a3 => k_is)
    (case i3 => k_is)
    (case l3 => k_is)
    (case c3 => k_is)
    (case k3 => k_is)
    (case a4 => k_is)
    (case i4 => k_is)
    (case l4 => k_is)
    (case c4 => k_is)
    (case k4 => k_is)
    (case a5 => k_is)
    (case i5 => k_is)
    (case l5 => k_is)
    (case c5 => k_is)
    (case k5 => k_is)
    (case pgC => k_is)
    (case hdC => k_is)
    (case poC => k_is)
    (case saC => k_is)
    (case mkC => k_is)
    (case kcC => k_is)
    (case nAC0 => k_is)
    (case nAC1 => k_is)
    (case a6 => k_is)
    (case l6 => k_is)
    (case c6 => k_is)
    (case k6 => k_is)
    (case a7 => k_is)
    (case l7 => k_is)
    (case c7 => k_is)
    (case k7 => k_is)
    (case a8 => k_is)
    (case l8 => k_is)
    (case c8 => k_is)
    (case k8 => k_is)
    (case a9 => k_is)
    (case l9 => k_is)
    (case c9 => k_is)
    (case k9 => k_is)
    (case a10 => k_is)
    (case l10 => k_is)
    (case c10 => k_is)
    (case k10 => k_is)
    (case a11 => k_is)
    (case l11 => k_is)
    (case c11 => k_is)
    (case k11 => k_is)
    (case a12 => k_is)
    (case l12 => k_is)
    (case c12 => k_is)
    (case k12 => k_is)
    (case a13 => k_is)
    (case l13 => k_is)
    (case c13 => k_is)
    (case k13 => k_is)
    (case a14 => k_is)
    (case l14 => k_is)
    (case c14 => k_is)
    (case k14 => k_is)
    (case a15 => k_is)
    (case l15 => k_is)
    (case c15 => k_is)
    (case k15 => k_is)
    (case a16 => k_is)
    (case l16 => k_is)
    (case c16 => k_is)
    (case k16 => k_is)
    (case a17 => k_is)
    (case l17 => k_is)
    (case c17 => k_is)
    (case k17 => k_is)
    (case a18 => k_is)
    (case l18 => k_is)
    (case c18 => k_is)
    (case k18 => k_is)
    (case a19 => k_is)
    (case l19 => k_is)
    (case c19 => k_is)
    (case k19 => k_is)
    (case a20 => k_is)
    (case l20 => k_is)
    (case c20 => k_is)
    (case k20 => k_is)
    (case a21 => k_is)
    (case l21 => k_is)
    (case c21 => k_is)
    (case k21 => k_is)
    (case a22 => k_is)
    (case l22 => k_is)
    (case c22 => k_is)
    (case k22 => k_is)
    (case a23 => k_is)
    (case l23 => k_is)
    (case c23 => k_is)
    (case k23 => k_is)
    (case a24 => k_is)
    (case l24 => k_is)
    (case c24 => k_is)
    (case k24 => k_is)
    (case a25 => k_is)
    (case l25 => k_is)
    (case c25 => k_is)
    (case k25 => k_is)
    (case a26 => k_is)
    (case l26 => k_is)
    (case c26 => k_is)
    (case k26 => k_is)
    (case a27 => k_is)
    (case l27 => k_is)
    (case c27 => k_is)
    (case k27 => k_is)
    (case a28 => k_is)
    (case l28 => k_is)
    (case c28 => k_is)
    (case k28 => k_is)
    (case a29 => k_is)
    (case l29 => k_is)
    (case c29 => k_is)
    (case k29 => k_is)
    (case a30 => k_is)
    (case l30 => k_is)
    (case c30 => k_is)
    (case k30 => k_is)
    (case a31 => k_is)
    (case l31 => k_is)
    (case c31 => k_is)
    (case k31 => k_is)
    (case a32 => k_is)
    (case l32 => k_is)
    (case c32 => k_is)
    (case k32 => k_is)
    (case a33 => k_is)
    (case l33 => k_is)
    (case c33 => k_is)
    (case k33 => k_is)
    (case a34 => k_is)
    (case l34 => k_is)
    (case c34 => k_is)
    (case k34 => k_is)
    (case a35 => k_is)
    (case l35 => k_is)
    (case c35 => k_is)
    (case k35 => k_is)
    (case a36 => k_is)
    (case l36 => k_is)
    (case c36 => k_is)
    (case k36 => k_is)
    (case a37 => k_is)
    (case l37 => k_is)
    (case c37 => k_is)
    (case k37 => k_is)
    (case xE1 => k_is)
    (case yE1 => k_exc)
    (case zE1_0 => k_is)
    (case zE1_1 => k_is)
    (case zE1_2 => k_is)
    (case zE1_3 => k_is)
    (case zE1_4 => k_is)
    (case zE1_5 => k_is)
    (case xE0 => k_is)
    (case xE5 => k_is)
    (case xE6 => k_is)
    (case xE4 => k_is)
    (case a38 => k_is)
    (case i38 => k_is)
    (case l38 => k_is)
    (case c38 => k_is)
    (case k38 => k_is)
    (case hdE4 => k_is)
    (case saE4 => k_is)
    (case xiE4 => kernel_rfl)
    (case nAE40 => k_is)
    (case zE4_0 => k_is)
    (case zE4_1 => k_is)
    (case zE4_2 => k_is)
    (case zE4_3 => k_is)
    (case zE4_4 => k_is)
    (case zE4_5 => k_is)
    (case g_divmod => k_is)
    (case g_len => k_is)
    (case g_all => k_is)
    (case g_isinstance => k_is)
    (case g_str => k_is)
    (case g_range => k_is)
    (case g_max => k_is)
    (case g_min => k_is)
    (case g_bool => k_is)
    (case g_list => k_is)
    (case g_int => k_is)
    (case g_tuple => k_is)
    (case g_set => k_is)
    (case g_sorted => k_is)
    (case g_abs => k_is)
    (case g_enumerate => k_is)
    (case g_ValueError => k_is)
    (case g_LONGEST => k_is)
    (case g_MOST_PLACES => k_is)
    (case g_MOST_TIES => k_is)
    (case q1a => k_is)
    (case q1b => kit_is)
    (case q1c => rfl)
    (case q2 => kit_is)
    (case q3 => kit_is)
    (case q4 => kit_is)

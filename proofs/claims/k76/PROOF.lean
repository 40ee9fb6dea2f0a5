import PyProof.Rows.All
import Wide.All
import OpenK.AllK
import Wide.FinOn
import Lean
import PyProof.EqAt
import PyProof.EqKinds
import PyProof.TupleCall
import KE.KSortTup
import KE.KLam
import PyProof.NeKinds
import PyProof.StrCalls2
import PyProof.StrLawsJoin
import PyProof.MinMaxWalk
import PyProof.Rows.CallKwBuiltin
import KE.KRevIter
import PyProof.FactsAll.list_3
import PySem.Challenge.RW_focuswalk_k76_differences
set_option Elab.async false
set_option linter.all false
set_option maxRecDepth 100000
set_option maxHeartbeats 4000000
theorem zOB {α β:Type _} (a:α) (f:α->Option β):Option.bind (some a) f=f a:=rfl
namespace L2
open PySem PySem.Spec PyProof.Rows
abbrev Key:=Sum Int Str
def zhE:Key->Value->Bool
 | .inl k,v=>Value.isInt k v
 | .inr x,v=>Value.isStrOf x v
def keyH (w:World):Key->Int
 | .inl k=>hashInt k
 | .inr x=>hashStr w x
theorem zaO:∀{k:Key}{v:Value},zhE k v=true->(∃i t,k=Sum.inl i/\v=Value.int i t)\/(∃x t,k=Sum.inr x/\v=Value.str x t)
 | .inl i,v,h=>by
   obtain⟨t,e⟩:=Value.isInt_shape (k:=i) (v:=v) h;exact .inl ⟨i,t,rfl,e⟩
 | .inr x,v,h=>by
   obtain⟨t,e⟩:=Value.isStrOf_shape (x:=x) (v:=v) h;exact .inr ⟨x,t,rfl,e⟩
theorem zh9 (i:Int)(t:Tok):zhE (.inl i) (.int i t)=true:=by simp[zhE,Value.isInt]
theorem zia (x:Str)(t:Tok):zhE (.inr x) (.str x t)=true:=by simp[zhE,Value.isStrOf]
theorem zns (a b:Int):decide ((Sum.inl a:Key)=Sum.inl b)=(a == b):=by
 by_cases e:a=b
 ·subst e;simp
 ·have h:¬(Sum.inl a:Key)=Sum.inl b:=fun q=>e (Sum.inl.inj q)
  rw[decide_eq_false h];exact(beq_eq_false_iff_ne.mpr e).symm
theorem znt (a b:Str):decide ((Sum.inr a:Key)=Sum.inr b)=decide (a=b):=by
 by_cases e:a=b
 ·subst e;simp
 ·have h:¬(Sum.inr a:Key)=Sum.inr b:=fun q=>e (Sum.inr.inj q)
  rw[decide_eq_false h,decide_eq_false e]
theorem znu (a:Int)(b:Str):decide ((Sum.inl a:Key)=Sum.inr b)=false:=decide_eq_false (fun q=>nomatch q)
theorem znv (a:Str)(b:Int):decide ((Sum.inr a:Key)=Sum.inl b)=false:=decide_eq_false (fun q=>nomatch q)
def zbF (prog:Program)(w:World):PySem.KeyKind prog w Key where
 is:=zhE
 hash:=keyH w
 inj:=fun v a b ha hb=>by
  rcases zaO ha with⟨i,t,rfl,rfl⟩ | ⟨x,t,rfl,rfl⟩
  ·rcases zaO hb with⟨j,u,rfl,e⟩ | ⟨y,u,rfl,e⟩
   ·injection e with e1 _;rw[e1]
   ·exact nomatch e
  ·rcases zaO hb with⟨j,u,rfl,e⟩ | ⟨y,u,rfl,e⟩
   ·exact nomatch e
   ·injection e with e1 _;rw[e1]
 byValue:=fun k v h=>by
  rcases zaO h with⟨i,t,rfl,rfl⟩ | ⟨x,t,rfl,rfl⟩ <;> rfl
 pyHash:=fun hv h=>by
  rcases zaO hv with⟨i,t,rfl,rfl⟩ | ⟨x,t,rfl,rfl⟩
  ·exact wpAny_pyHash_int h
  ·exact wpAny_pyHash_str h
 eqBool:=fun hu hv h=>by
  rcases zaO hu with⟨i,t,rfl,rfl⟩ | ⟨x,t,rfl,rfl⟩
  ·rcases zaO hv with⟨j,u,rfl,rfl⟩ | ⟨y,u,rfl,rfl⟩
   ·rw[zns] at h;exact wpAny_eqBool_int h
   ·rw[znu] at h;exact SeqAt.EqAt.int_str i t y u _ _ _ _ h
  ·rcases zaO hv with⟨j,u,rfl,rfl⟩ | ⟨y,u,rfl,rfl⟩
   ·rw[znv] at h;exact SeqAt.EqAt.str_int x t j u _ _ _ _ h
   ·rw[znt] at h;exact wpAny_eqBool_str h
 «strs»:=fun k x t v h=>by
  rcases zaO h with⟨i,u,rfl,e⟩ | ⟨y,u,rfl,e⟩
  ·exact nomatch e
  ·injection e with e1 _
   subst e1;cases v <;> rfl
theorem zgn (prog:Program)(w:World)(i:Int)(t:Tok):(zbF prog w).is (.inl i) (.int i t)=true:=zh9 i t
theorem zgo (prog:Program)(w:World)(x:Str)(t:Tok):(zbF prog w).is (.inr x) (.str x t)=true:=zia x t
inductive V where
 | non | bl (b:Bool) | int (i:Int) | str (x:Str) | byt (b:Array UInt8) | flt (b:UInt64) | ref (a:Addr) | ty (n:String)
 deriving DecidableEq
def RelV:V->Value->Prop
 | .non,u=>u=Value.none
 | .bl b,u=>u=Value.bool b
 | .int i,u=>∃t,u=Value.int i t
 | .str x,u=>∃t,u=Value.str x t
 | .byt b,u=>∃t,u=Value.bytes b t
 | .flt b,u=>∃t,u=Value.float b t
 | .ref a,u=>u=Value.ref a
 | .ty n,u=>u=Value.type n
abbrev Vals:List V->List Value->Prop:=Paired RelV
theorem Vals.length {xs:List V}{us:List Value}(r:Vals xs us):xs.length=us.length:=Paired.length r
theorem Vals.get:∀{xs:List V}{us:List Value}{i:Nat}{x:V},Vals xs us->xs[i]?=some x->∃u,us[i]?=some u/\RelV x u
 | _,_,_,_,.nil,e=>by simp at e
 | _,_,0,_,.cons r _,e=>by simp at e;subst e;exact⟨_,rfl,r⟩
 | _,_,i+1,x,.cons _ t,e=>by
   obtain⟨u,h1,h2⟩:=Vals.get (i:=i) (x:=x) t (by simpa using e);exact⟨u,by simpa using h1,h2⟩
theorem Vals.set {x:V}{u:Value}(r:RelV x u):∀{xs:List V}{us:List Value}(i:Nat),Vals xs us->Vals (xs.set i x) (us.set i u)
 | _,_,_,.nil=>.nil
 | _,_,0,.cons _ t=>.cons r t
 | _,_,i+1,.cons q t=>.cons q (Vals.set r i t)
theorem Vals.append:∀{xs ys:List V}{us ws:List Value},Vals xs us->Vals ys ws->Vals (xs++ys) (us++ws)
 | _,_,_,_,.nil,s=>s
 | _,_,_,_,.cons r t,s=>.cons r (Vals.append t s)
theorem Vals.take:∀{xs:List V}{us:List Value}(n:Nat),Vals xs us->Vals (xs.take n) (us.take n)
 | _,_,0,_=>.nil
 | _,_,_+1,.nil=>.nil
 | _,_,n+1,.cons r t=>.cons r (Vals.take n t)
theorem Vals.drop:∀{xs:List V}{us:List Value}(n:Nat),Vals xs us->Vals (xs.drop n) (us.drop n)
 | _,_,0,r=>r
 | _,_,_+1,.nil=>.nil
 | _,_,n+1,.cons _ t=>Vals.drop n t
theorem Vals.none_of:∀{xs:List V}{us:List Value}{i:Nat},Vals xs us->xs[i]?=none->us[i]?=none:=fun {xs us i} r e=>by
 have h1:=r.length
 have h2:xs.length<=i:=List.getElem?_eq_none_iff.mp e
 exact List.getElem?_eq_none_iff.mpr (by omega)
def RelO:Option V->Option Value->Prop
 | some v,some u=>RelV v u
 | none,none=>True
 | _,_=>False
def KV {κ:Type}:List (κ×V)->List (κ×Value)->Prop:=Paired fun(p:κ×V) (q:κ×Value)=>p.1=q.1/\RelV p.2 q.2
def kV:Key->V
 | .inl i=>.int i
 | .inr x=>.str x
inductive HO where
 | lst (xs:List V)
 | tup (xs:List V)
 | dK (kvs:List (Key×V)) | dT (kvs:List (List Key×V))
 | set (S:Int->Bool) (n:Nat)
 | ins (C dx:Addr) (fs:List (Str×V))
 | own (x:Addr)
 | xd (fs:List (Str×V))
 | met (f x:Addr)
 | rng (lo hi:Int)
 | frz (o:Obj) (u:HO)
 | tbl (ps:Array Value)
 | ext (φ:Heap->Prop)
abbrev Hp:=Addr->Option HO
def upd (H:Hp)(a:Addr)(o:HO):Hp:=fun b=>if b=a then some o else H b
theorem zai {H:Hp}{a:Addr}{o:HO}:upd H a o a=some o:=by unfold upd;rw[if_pos rfl]
theorem zah {H:Hp}{a b:Addr}{o:HO}(h:b≠a):upd H a o b=H b:=by unfold upd;rw[if_neg h]
theorem zaH {H:Hp}{a b:Addr}{o:HO}(h:H a=some o)(h':H b=none):a≠b:=by
 intro e;subst e;rw[h] at h';cases h'
section
variable (P:Program)(w:World)
def ObjOk (H:Hp)(h:Heap)(a:Addr):HO->Prop
 | .lst xs=>xs.length<=sizeLine/\∃(its:List Value) (n:Nat),Vals xs its/\h.get? a=some {cls:=.type "list",data:=.seq its.toArray n}
 | .tup xs=>xs.length<=sizeLine/\∃its:List Value,Vals xs its/\IsTup h a its.toArray
 | .dK kvs=>kvs.length<=sizeLine/\(a == sysModules)=false/\∃vs,KV kvs vs/\h.DictOf (zbF P w) a vs
 | .dT kvs=>kvs.length<=sizeLine/\(a == sysModules)=false/\∃xs:List (List Key×Addr×Value),
  Paired (fun(p:List Key×V) (q:List Key×Addr×Value)=>p.1=q.1/\H q.2.1=some (.tup (p.1.map kV))/\RelV p.2 q.2.2) kvs xs/\
  ∃o es ep,h.get? a=some o/\o.ExactDict/\o.data=.dict es ep/\es.toList=xs.map (entryOfKey (tupleKind (zbF P w)))/\(xs.map (·.1)).Nodup
 | .set S n=>h.SetOf (intKind P w) a S n
 | .ins C dx fs=>H dx=some (.own a)/\fs.length<=1000/\dx≠a/\h.get? a=some (PySem.W.instObj C dx)/\
  ∃mA,h.Ns1 dx mA/\(∀f,RelO (fs.lookup f) (mA f))/\PySem.Within mA (fs.map (·.1))
 | .own _=>∃o,h.get? a=some o
 | .xd fs=>∃mA,h.Ns1 a mA/\∀f,RelO (fs.lookup f) (mA f)
 | .rng lo hi=>∃t u v,h.get? a=some {cls:=.type "range",data:=.fields #[.int lo t,.int hi u,.int 1 v]}
 | .frz o u=>h.get? a=some o/\ObjOk H h a u
 | .tbl ps=>∃qs:Array Value,h.get? a=some {cls:=.none,data:=.fields qs}/\TriplesOk qs.toList/\∀pos cv,codeAmong pos qs.toList=some cv->∃c' o u vs t q,cv=Value.ref c'/\H c'=some (.frz o u)/\o.data=.fields vs/\vs[1]?=some (Value.str q t)/\ps[0]?=some (Value.str q 0)
 | .met f x=>h.get? a=some (PySem.W.methodObj (.ref f) (.ref x))
 | .ext φ=>φ h/\(∃o,h.get? a=some o)/\∀h1 h2:Heap,φ h1->(∀o,h1.get? a=some o->h2.get? a=some o)->φ h2
def HOk (H:Hp)(h:Heap):Prop:=∀a o,H a=some o->ObjOk P w H h a o
end
section
variable {P:Program}{w:World}{H H':Hp}{h h':Heap}{a:Addr}{o:HO}
theorem ObjOk.lt (x:ObjOk P w H h a o):a<h.objs.size:=by
 cases o with
 | lst xs=>obtain⟨_,_,_,_,e⟩:=x;exact Heap.lt_size e
 | tup xs=>obtain⟨_,_,_,p⟩:=x;exact p.lt
 | dK kvs=>obtain⟨_,_,_,_,o,_,_,e,_⟩:=x;exact Heap.lt_size e
 | dT kvs=>obtain⟨_,_,_,_,o,_,_,e,_⟩:=x;exact Heap.lt_size e
 | set S n=>obtain⟨o,_,_,_,e,_⟩:=x;exact Heap.lt_size e
 | ins C dx fs=>obtain⟨_,_,_,e,_⟩:=x;exact Heap.lt_size e
 | own y=>obtain⟨_,e⟩:=x;exact Heap.lt_size e
 | xd fs=>obtain⟨_,⟨_,_,_,e,_⟩,_⟩:=x;exact Heap.lt_size e
 | rng lo hi=>obtain⟨_,_,_,e⟩:=x;exact Heap.lt_size e
 | frz ob u=>obtain⟨e,_⟩:=x;exact Heap.lt_size e
 | tbl ps=>obtain⟨_,e,_⟩:=x;exact Heap.lt_size e
 | met f y=>exact Heap.lt_size (show h.get? a=some _ from x)
 | ext φ=>obtain⟨_,⟨_,e⟩,_⟩:=x;exact Heap.lt_size e
theorem Paired.mapP {α β:Type}{F G:α->β->Prop}:∀{l₁:List α}{l₂:List β},Paired F l₁ l₂->(∀a b,F a b->G a b)->Paired G l₁ l₂
 | _,_,.nil,_=>.nil
 | _,_,.cons r t,f=>.cons (f _ _ r) (Paired.mapP t f)
def Cst:HO->Prop
 | .tup _=>True
 | .frz _ _=>True
 | _=>False
theorem ObjOk.stay (x:ObjOk P w H h a o)(k:∀b u,(b=a\/H b=some (.own a))->h.get? b=some u->h'.get? b=some u)
 (ho:∀b,H b=some (.own a)->H' b=some (.own a)) (ht:∀b z,Cst z->H b=some z->H' b=some z):ObjOk P w H' h' a o:=by
 induction o with
 | lst xs=>obtain⟨z,its,n,r,e⟩:=x;exact⟨z,its,n,r,k _ _ (.inl rfl) e⟩
 | tup xs=>obtain⟨z,its,r,ob,e,c⟩:=x;exact⟨z,its,r,ob,k _ _ (.inl rfl) e,c⟩
 | dK kvs=>obtain⟨z,y,vs,r,ob,es,ep,e,c⟩:=x;exact⟨z,y,vs,r,ob,es,ep,k _ _ (.inl rfl) e,c⟩
 | dT kvs=>
   obtain⟨z,y,xs,r,ob,es,ep,e,c⟩:=x;exact⟨z,y,xs,Paired.mapP r fun p q z=>⟨z.1,ht _ _ trivial z.2.1,z.2.2⟩,ob,es,ep,k _ _ (.inl rfl) e,c⟩
 | set S n=>obtain⟨ob,es,ep,t,e,c⟩:=x;exact⟨ob,es,ep,t,k _ _ (.inl rfl) e,c⟩
 | ins C dx fs=>
   obtain⟨d,z,ne,e,mA,⟨od,es,ep,e2,c⟩,r⟩:=x;exact⟨ho _ d,z,ne,k _ _ (.inl rfl) e,mA,⟨od,es,ep,k _ _ (.inr d) e2,c⟩,r⟩
 | own y=>obtain⟨ob,e⟩:=x;exact⟨ob,k _ _ (.inl rfl) e⟩
 | xd fs=>obtain⟨mA,⟨od,es,ep,e,c⟩,r⟩:=x;exact⟨mA,⟨od,es,ep,k _ _ (.inl rfl) e,c⟩,r⟩
 | rng lo hi=>obtain⟨t,u,v,e⟩:=x;exact⟨t,u,v,k _ _ (.inl rfl) e⟩
 | frz ob u ih=>obtain⟨e,q⟩:=x;exact⟨k _ _ (.inl rfl) e,ih q⟩
 | tbl ps=>obtain⟨qs,e,r,rc⟩:=x;exact⟨qs,k a _ (.inl rfl) e,r,fun pos cv q=>let ⟨c',o,u,vs,t,q',e1,e2,e3⟩:=rc pos cv q;⟨c',o,u,vs,t,q',e1,ht _ _ trivial e2,e3⟩⟩
 | met f y=>
   have e:h.get? a=some (PySem.W.methodObj (.ref f) (.ref y)):=x
   show h'.get? a=some (PySem.W.methodObj (.ref f) (.ref y))
   exact k a _ (.inl rfl) e
 | ext φ=>obtain⟨p,⟨o,e⟩,st⟩:=x;exact⟨st _ _ p fun o q=>k _ _ (.inl rfl) q,⟨o,k _ _ (.inl rfl) e⟩,st⟩
theorem HOk.lt (x:HOk P w H h)(e:H a=some o):a<h.objs.size:=(x a o e).lt
theorem HOk.fresh (x:HOk P w H h)(e:h.objs.size<=a):H a=none:=by
 cases q:H a with
 | none=>rfl
 | some u=>exact absurd (Nat.lt_of_lt_of_le (x.lt q) e) (Nat.lt_irrefl _)
theorem HOk.kept (x:HOk P w H h)(k:∀b u,h.get? b=some u->h'.get? b=some u):HOk P w H h':=fun a o e=>
 (x a o e).stay (fun b u _ q=>k b u q) (fun _ q=>q) fun _ _ _ q=>q
theorem HOk.laid (x:HOk P w H h)(k:∀b u,h.get? b=some u->h'.get? b=some u)(hp:h.objs.size<=a)(new:ObjOk P w (upd H a o) h' a o):HOk P w (upd H a o) h':=fun b u e=>by
 have hn:=x.fresh hp
 by_cases hb:b=a
 ·subst hb;rw[zai] at e;cases e;exact new
 ·rw[zah hb] at e;exact(x b u e).stay (fun c v _ q=>k c v q) (fun c q=>by rw[zah (zaH q hn)];exact q) fun c xs _ q=>by rw[zah (zaH q hn)];exact q
end
def Rd (H:Hp)(a:Addr)(u:HO):Prop:=H a=some u\/∃o,H a=some (.frz o u)
theorem Rd.ok {P:Program}{w:World}{H:Hp}{h:Heap}{a:Addr}{u:HO}(r:Rd H a u)(x:HOk P w H h):ObjOk P w H h a u:=by
 rcases r with r | ⟨o,r⟩
 ·exact x a u r
 ·obtain⟨_,q⟩:=x a _ r;exact q
def Mut:Option HO->Prop
 | some (.lst _)=>True
 | some (.dK _)=>True
 | some (.dT _)=>True
 | some (.set _ _)=>True
 | some (.ins _ _ _)=>True
 | some (.ext _)=>True
 | _=>False
section
variable {P:Program}{w:World}{H:Hp}{h h':Heap}{x e:Addr}{o':HO}
theorem HOk.write (ok:HOk P w H h)(mu:Mut (H x))(he:e=x\/H e=some (.own x))(k:∀b u,b≠e->h.get? b=some u->h'.get? b=some u)(heo:∃u,h'.get? e=some u)
 (new:ObjOk P w (upd H x o') h' x o'):HOk P w (upd H x o') h':=fun b u q=>by
 have nown:∀c y,H c=some (.own y)->c≠x:=fun c y r z=>by subst z;rw[r] at mu;exact mu
 have ntup:∀c o,Cst o->H c=some o->c≠x:=fun c o hc r z=>by subst z;rw[r] at mu;cases o <;> first | exact mu | exact hc
 by_cases hb:b=x
 ·subst hb;rw[zai] at q;cases q;exact new
 ·rw[zah hb] at q;by_cases hbe:b=e
  ·have q':H b=some (.own x):=by
    rcases he with z | z
    ·exact absurd (hbe.trans z) hb
    ·rw[hbe];exact z
   rw[q] at q';cases q';obtain⟨v,hv⟩:=heo;exact⟨v,by rw[hbe];exact hv⟩
  ·refine(ok b u q).stay (fun c v hc r=>k c v ?_ r) (fun c r=>by rw[zah (nown c b r)];exact r) fun c xs hc r=>by rw[zah (ntup c xs hc r)];exact r
   rcases hc with rfl | hc
   ·exact hbe
   ·rintro rfl;rcases he with z | z
    ·exact nown c b hc z
    ·rw[hc] at z;cases z;exact hb rfl
end
structure Un (fs ex:List Addr)(H H':Hp)(h h':Heap):Prop where
 keep:∀b o,h.get? b=some o->H b=none->b∉fs->b∉ex->h'.get? b=some o
 slot:∀b o,h.get? b=some o->H b=none->b∈fs->b∉ex->∃sl,h'.get? b=some {o with slots:=sl}
 free:∀b o,h.get? b=some o->H b=none->b∉ex->H' b=none
 there:∀b o,h.get? b=some o->b∉ex->∃o',h'.get? b=some o'
 tups:∀b xs,H b=some (.tup xs)->H' b=some (.tup xs)
 frzs:∀b o u,H b=some (.frz o u)->H' b=some (.frz o u)
 tbls:∀b ps,H b=some (.tbl ps)->∃more,H' b=some (.tbl (ps++more))
section
variable {fs fs' ex ex':List Addr}{H H1 H2:Hp}{h h1 h2 h':Heap}{a x e:Addr}{o:HO}
theorem Un.any (u:Un fs ex H H1 h h1){b:Addr}{ob:Obj}(q:h.get? b=some ob)(n:H b=none)(hx:b∉ex):∃sl,h1.get? b=some {ob with slots:=sl}:=by
 by_cases hb:b∈fs
 ·exact u.slot b ob q n hb hx
 ·exact⟨ob.slots,u.keep b ob q n hb hx⟩
theorem Un.kept (k:∀b u,h.get? b=some u->h'.get? b=some u):Un fs ex H H h h':=
 ⟨fun b ob q _ _ _=>k b ob q,fun b ob q _ _ _=>⟨ob.slots,k b ob q⟩,fun _ _ _ n _=>n,fun b ob q _=>⟨ob,k b ob q⟩,fun _ _ q=>q,fun _ _ _ q=>q,fun _ ps q=>⟨#[],by rw[q];simp⟩⟩
theorem Un.refl:Un fs ex H H h h:=Un.kept fun _ _ q=>q
theorem Un.laid (k:∀b u,h.get? b=some u->h'.get? b=some u)(hp:h.objs.size<=a)(hn:H a=none):Un fs ex H (upd H a o) h h' where
 keep:=fun b u q _ _ _=>k b u q
 slot:=fun b u q _ _ _=>⟨u.slots,k b u q⟩
 free:=fun b u q n _=>by rw[zah (Nat.ne_of_lt (Nat.lt_of_lt_of_le (Heap.lt_size q) hp))];exact n
 there:=fun b u q _=>⟨u,k b u q⟩
 tups:=fun b xs q=>by rw[zah (zaH q hn)];exact q
 frzs:=fun b u xs q=>by rw[zah (zaH q hn)];exact q
 tbls:=fun b ps q=>⟨#[],by rw[zah (zaH q hn),q];simp⟩
theorem Un.write (mu:Mut (H x))(he:e=x\/H e=some (.own x))(k:∀b u,b≠e->h.get? b=some u->h'.get? b=some u)(heo:∃u,h'.get? e=some u):Un fs ex H (upd H x o) h h':=by
 have hx:∀b,H b=none->b≠x:=fun b n z=>by subst z;rw[n] at mu;exact mu
 have hb:∀b,H b=none->b≠e:=fun b n z=>by
  subst z;rcases he with r | r
  ·exact hx b n r
  ·rw[n] at r;cases r
 have hm:∀b u,H b=some u->¬Mut (some u)->b≠x:=fun b u q nm z=>by subst z;rw[q] at mu;exact nm mu
 refine⟨fun b u q n _ _=>k b u (hb b n) q,fun b u q n _ _=>⟨u.slots,k b u (hb b n) q⟩,fun b u q n _=>by rw[zah (hx b n)];exact n,fun b u q _=>?_,
  fun b xs q=>by rw[zah (hm b _ q fun z=>z)];exact q,fun b u xs q=>by rw[zah (hm b _ q fun z=>z)];exact q,fun b ps q=>⟨#[],by rw[zah (hm b _ q fun z=>z),q];simp⟩⟩
 by_cases hbe:b=e
 ·subst hbe;exact heo
 ·exact⟨u,k b u hbe q⟩
end
def trk (h:Heap)(H:Hp):List Addr:=(List.range h.objs.size).filter fun a=>(H a).isSome
def hidT (h:Heap)(H:Hp):Heap:=PySem.W.hideAll h (trk h H)
theorem zib (h:Heap)(H:Hp):(hidT h H).objs.size=h.objs.size:=PySem.W.hideAll_size _ _
theorem zjS {h:Heap}{H:Hp}{b:Addr}{o:Obj}(e:h.get? b=some o)(n:H b=none):(hidT h H).get? b=some o:=
 PySem.W.hideAll_get _ e fun hm=>by
  have q:(H b).isSome=true:=(List.mem_filter.mp hm).2
  rw[n] at q;simp at q
theorem zlA {h:Heap}{H:Hp}{b:Addr}{o:Obj}(e:(hidT h H).get? b=some o):h.get? b=some o/\H b=none:=by
 have e':h.get? b=some o:=PySem.W.of_hideAll (trk h H) e
 refine⟨e',?_⟩;cases q:H b with
 | none=>rfl
 | some x=>
   have hm:b∈trk h H:=List.mem_filter.mpr ⟨List.mem_range.mpr (Heap.lt_size e'),by simp[q]⟩
   have z:(hidT h H).get? b=none:=PySem.W.hideAll_none (trk h H) hm
   rw[z] at e;cases e
def zlB (g h:Heap)(L:Addr):List (Addr×Obj):=(List.range h.objs.size).filterMap fun a=>if a=L\/(g.get? a).isSome=true then none else(h.get? a).map fun o=>(a,o)
def rest (g h:Heap)(L d:Addr):List (Addr×Obj):=(zlB g h L).filter fun p=>decide (p.1≠d)
structure Mod (K:W.Frag)(mg:Str->Option Value)(base:Heap):Prop where
 kin:K.In base
 glob:base.Ns mainGlobals mg
 blt:∃mb,base.Ns builtinsNs mb/\∀x:Str,x≠"__name__"->mb x=bootBuiltins x
 nolimit:base.NoLimit
structure Cx where
 prog:Program
 w:World
 K:W.Frag
 mg:Str->Option Value
 base:Heap
 A:Around
 N:List Str
 s₀:Shared
 Hz:Hp
 env:Env
 outer:List Env
 stack:List Env
 ex:List Addr
 fn:Str->Bool
 calm:Bool
 pn:List (Addr×Obj)
 xe:Value->Shared->Prop
def frs (l:List Env):List Addr:=l.filterMap (·.frame)
abbrev Cx.fs (X:Cx):List Addr:=frs X.outer
def Vis (sc:Scope)(x:Str):Prop:=sc.names.lookup x=some .local\/sc.names.lookup x=some .cell\/sc.names.lookup x=some .free
def Loc (sc:Scope)(x:Str):Prop:=sc.names.lookup x=some .local\/sc.names.lookup x=some .cell
def Look (env:Env)(h:Heap)(m:Str->Option Value)(x:Str)(u:Value):Prop:=
 (env.kindOf x=some .local/\m x=some u)\/((env.kindOf x=some .cell\/env.kindOf x=some .free)/\∃c,env.cells.lookup x=some c/\h.IsCell c (some u))
structure Cx.Ok (X:Cx):Prop where
 mod:Mod X.K X.mg X.base
 kind:X.env.scope.kind=.function
 glob:X.env.globals=mainGlobals
 blt:X.env.builtins=builtinsNs
 above:X.s₀.heap.objs.size<=X.env.locals
 inj:∀x y c,X.env.cells.lookup x=some c->X.env.cells.lookup y=some c->x=y
 has:∀x,(X.env.kindOf x=some .cell\/X.env.kindOf x=some .free)->∃c,X.env.cells.lookup x=some c
 cab:∀x c,X.fn x=true->X.env.cells.lookup x=some c->X.s₀.heap.objs.size<=c
 hd:X.calm=true->X.A.handled=none
 frames:X.A.frames=some X.stack
 stk:X.stack=X.outer\/(X.stack=X.env::X.outer/\X.env.frame=some X.env.locals)
 exf:∀b∈X.ex,b≠X.env.locals/\∀x c,X.env.cells.lookup x=some c->c≠b
 bs:∀b o,X.base.get? b=some o->X.s₀.heap.get? b=some o/\X.Hz b=none
 bsz:X.base.objs.size<=X.s₀.heap.objs.size
 noex:∀b o,X.base.get? b=some o->b∉X.ex
 exfs:∀b∈X.ex,b∉X.fs
 funs:X.s₀.heap.FunFrames X.base X.outer
 frf:∀b∈X.fs,X.Hz b=none
structure Inv (X:Cx)(pins:List (Addr×Obj))(σ:List (Option V))(H:Hp)(s:Shared):Prop where
 ok:X.Ok
 os:s.os=X.s₀.os
 bare:AllBare s.gens
 base:Un X.fs X.ex X.Hz H X.s₀.heap s.heap
 loc:∃m,s.heap.Ns X.env.locals m/\∀(i:Nat) (x:Str) (v:V),X.N[i]?=some x->σ[i]?=some (some v)->Vis X.env.scope x->∃u,RelV v u/\Look X.env s.heap m x u
 cell:∀x c,X.env.cells.lookup x=some c->∃v,s.heap.IsCell c v
 free:H X.env.locals=none
 freeC:∀x c,X.env.cells.lookup x=some c->H c=none
 pin:∀p∈X.pn++pins,s.heap.get? p.1=some p.2/\H p.1=none/\p.1≠X.env.locals/\p.1∉X.fs/\∀v,p.2.data≠.cell v
 hok:HOk X.prog X.w H s.heap
 len:σ.length=X.N.length
section
variable {X:Cx}{pins:List (Addr×Obj)}{σ:List (Option V)}{H H':Hp}{s:Shared}{h':Heap}
theorem Cx.Ok.nofr (ok:X.Ok){b:Addr}{o:Obj}(e:X.base.get? b=some o):b∉X.fs:=fun hb=>by
 have:=(ok.funs.mem hb).1
 rw[e] at this;cases this
theorem Inv.bs (I:Inv X pins σ H s):∀b o,X.base.get? b=some o->s.heap.get? b=some o/\H b=none:=fun b o e=>
 ⟨I.base.keep b o (I.ok.bs b o e).1 (I.ok.bs b o e).2 (I.ok.nofr e) (I.ok.noex b o e),I.base.free b o (I.ok.bs b o e).1 (I.ok.bs b o e).2 (I.ok.noex b o e)⟩
theorem Inv.bk (I:Inv X pins σ H s):∀b o,X.base.get? b=some o->s.heap.get? b=some o:=fun b o e=>(I.bs b o e).1
theorem Inv.mod (I:Inv X pins σ H s):Mod X.K X.mg X.base:=I.ok.mod
theorem Inv.kIn (I:Inv X pins σ H s):X.K.In s.heap:=I.ok.mod.kin.keeps I.bk
theorem Inv.lt (I:Inv X pins σ H s):X.env.locals<s.heap.objs.size:=let ⟨_,hn,_⟩:=I.loc;hn.lt
theorem Inv.sz (I:Inv X pins σ H s):X.s₀.heap.objs.size<=s.heap.objs.size:=Nat.le_trans I.ok.above (Nat.le_of_lt I.lt)
theorem Inv.nofs (I:Inv X pins σ H s){a:Addr}(h:s.heap.objs.size<=a):a∉X.fs:=fun hb=>by
 obtain⟨_,o,ho,_⟩:=I.ok.funs.mem hb;exact absurd (Nat.lt_of_lt_of_le (Heap.lt_size ho) (Nat.le_trans I.sz h)) (Nat.lt_irrefl _)
theorem Inv.cne (I:Inv X pins σ H s):∀x c,X.env.cells.lookup x=some c->c≠X.env.locals:=fun x c e z=>by
 obtain⟨v,o,ho,hd⟩:=I.cell x c e;obtain⟨m,⟨o',es,ep,ho',hd',_⟩,_⟩:=I.loc;rw[z,ho'] at ho;cases ho;rw[hd'] at hd;cases hd
theorem Inv.funs (I:Inv X pins σ H s):s.heap.FunFrames X.base X.outer:=by
 have all:∀(l:List Env),(∀b∈frs l,b∈X.fs)->X.s₀.heap.FunFrames X.base l->s.heap.FunFrames X.base l:=by
  intro l;induction l with
  | nil=>intro _ _;trivial
  | cons env r ih=>
    intro hs hl;obtain⟨hk,⟨L,o,hf,hn,ho,hd⟩,hr⟩:=hl;have hL:L∈X.fs:=hs L (by unfold frs;rw[List.filterMap_cons,hf];exact List.mem_cons_self)
    obtain⟨sl,e⟩:=I.base.slot L o ho (I.ok.frf L hL) hL fun z=>I.ok.exfs L z hL
    exact⟨hk,⟨L,_,hf,hn,e,hd⟩,ih (fun b hb=>hs b (by unfold frs;rw[List.filterMap_cons,hf];exact List.mem_cons_of_mem _ hb)) hr⟩
 exact all X.outer (fun _ hb=>hb) I.ok.funs
theorem Inv.stack (I:Inv X pins σ H s):s.heap.FunFrames X.base X.stack:=by
 rcases I.ok.stk with e | ⟨e,hf⟩
 ·rw[e];exact I.funs
 ·rw[e];obtain⟨m,hn,_⟩:=I.loc;refine .cons (by rw[I.ok.kind];decide) hf hn ?_ I.funs;exact Heap.get?_none_of_le (Nat.le_trans I.ok.bsz I.ok.above)
theorem Inv.stkSub (I:Inv X pins σ H s):∀b∈frs X.stack,b∈X.env.locals::X.fs:=fun b hb=>by
 rcases I.ok.stk with e | ⟨e,hf⟩
 ·rw[e] at hb;exact List.mem_cons_of_mem _ hb
 ·rw[e] at hb;unfold frs at hb;rw[List.filterMap_cons,hf] at hb;exact hb
theorem Inv.stkFree (I:Inv X pins σ H s):∀b∈frs X.stack,H b=none:=fun b hb=>by
 rcases List.mem_cons.mp (I.stkSub b hb) with e | hb
 ·rw[e];exact I.free
 ·obtain⟨_,o,ho,_⟩:=I.ok.funs.mem hb;exact I.base.free b o ho (I.ok.frf b hb) fun z=>I.ok.exfs b z hb
theorem Inv.step {g':Array GenState}{t':Nat}{d':Drawn}{ch:List Addr}(I:Inv X pins σ H s)
 (hch:∀b∈ch,(b∈X.ex\/X.s₀.heap.objs.size<=b)/\b≠X.env.locals/\(∀x c,X.env.cells.lookup x=some c->c≠b)/\∀p∈X.pn++pins,p.1≠b)
 (keep:∀b o,b≠X.env.locals->b∉X.fs->b∉ch->s.heap.get? b=some o->H b=none->h'.get? b=some o)
 (slot:∀b o,b≠X.env.locals->b∈X.fs->b∉ch->s.heap.get? b=some o->H b=none->∃sl,h'.get? b=some {o with slots:=sl}) (free:∀b o,b∉ch->s.heap.get? b=some o->H b=none->H' b=none)
 (there:∀b o,b∉ch->s.heap.get? b=some o->∃o',h'.get? b=some o')
 (tups:∀b xs,H b=some (.tup xs)->H' b=some (.tup xs)) (frzs:∀b o u,H b=some (.frz o u)->H' b=some (.frz o u)) (tbls:∀b ps,H b=some (.tbl ps)->∃more,H' b=some (.tbl (ps++more)))
 (ns:∀m,s.heap.Ns X.env.locals m->h'.Ns X.env.locals m) (hok:HOk X.prog X.w H' h') (hg:AllBare g') :
 Inv X pins σ H' {s with heap:=h',gens:=g',drawn:=d',toks:=t'}:=by
 have neL:∀b o,X.s₀.heap.get? b=some o->b≠X.env.locals:=fun b o e=>Nat.ne_of_lt (Nat.lt_of_lt_of_le (Heap.lt_size e) I.ok.above)
 have neC:∀b o,X.s₀.heap.get? b=some o->b∉X.ex->b∉ch:=fun b o e hx hb=>by
  rcases(hch b hb).1 with z | z
  ·exact hx z
  ·exact absurd (Nat.lt_of_lt_of_le (Heap.lt_size e) z) (Nat.lt_irrefl _)
 have cellK:∀x c,X.env.cells.lookup x=some c->∀v,s.heap.IsCell c v->h'.IsCell c v:=fun x c e v ⟨o,ho,hd⟩ =>by
  have nch:c∉ch:=fun z=>(hch c z).2.2.1 x c e rfl
  by_cases hc:c∈X.fs
  ·obtain⟨sl,q⟩:=slot c o (I.cne x c e) hc nch ho (I.freeC x c e);exact⟨_,q,hd⟩
  ·exact⟨o,keep c o (I.cne x c e) hc nch ho (I.freeC x c e),hd⟩
 refine⟨I.ok,I.os,hg,⟨fun b o e n hb hx=>?_,fun b o e n hb hx=>?_,fun b o e n hx=>?_,fun b o e hx=>?_,fun b xs e=>tups b xs (I.base.tups b xs e),fun b o xs e=>frzs b o xs (I.base.frzs b o xs e),fun b ps e=>?_⟩,?_,fun x c e=>?_,?_,fun x c e=>?_,fun p hp=>?_,hok,I.len⟩
 ·exact keep b o (neL b o e) hb (neC b o e hx) (I.base.keep b o e n hb hx) (I.base.free b o e n hx)
 ·obtain⟨sl,e1⟩:=I.base.slot b o e n hb hx;obtain⟨sl',e2⟩:=slot b _ (neL b o e) hb (neC b o e hx) e1 (I.base.free b o e n hx);exact⟨sl',e2⟩
 ·obtain⟨o',e1⟩:=I.base.there b o e hx;exact free b o' (neC b o e hx) e1 (I.base.free b o e n hx)
 ·obtain⟨o',e1⟩:=I.base.there b o e hx;exact there b o' (neC b o e hx) e1
 ·obtain⟨m1,e1⟩:=I.base.tbls b ps e;obtain⟨m2,e2⟩:=tbls b _ e1;exact⟨m1++m2,by rw[e2,Array.append_assoc]⟩
 ·obtain⟨m,hn,hl⟩:=I.loc;refine⟨m,ns m hn,fun i x v e1 e2 e3=>?_⟩;obtain⟨u,r,l⟩:=hl i x v e1 e2 e3;refine⟨u,r,?_⟩;rcases l with l | ⟨k,c,e,z⟩
  ·exact .inl l
  ·exact .inr ⟨k,c,e,cellK x c e _ z⟩
 ·obtain⟨v,z⟩:=I.cell x c e;exact⟨v,cellK x c e v z⟩
 ·obtain⟨m,⟨o,_,_,ho,_⟩,_⟩:=I.loc;exact free _ o (fun z=>(hch _ z).2.1 rfl) ho I.free
 ·obtain⟨v,o,ho,hd⟩:=I.cell x c e;exact free c o (fun z=>(hch c z).2.2.1 x c e rfl) ho (I.freeC x c e)
 ·obtain⟨e,n,ne,nf,d⟩:=I.pin p hp;have nch:p.1∉ch:=fun z=>(hch p.1 z).2.2.2 p hp rfl
  exact⟨keep p.1 p.2 ne nf nch e n,free p.1 p.2 nch e n,ne,nf,d⟩
theorem Inv.un {t':Nat}(I:Inv X pins σ H s)(u:Un X.fs [] H H' s.heap h')(hok:HOk X.prog X.w H' h'):Inv X pins σ H' {s with heap:=h',toks:=t'}:=by
 obtain⟨m,⟨o,es,ep,ho,r⟩,_⟩:=id I.loc;obtain⟨sl,hL⟩:=u.any ho I.free (by simp);exact I.step (g':=s.gens) (d':=s.drawn) (ch:=[]) (fun _ z=>nomatch z) (fun b o _ hb _ e n=>u.keep b o e n hb (by simp)) (fun b o _ hb _ e n=>u.slot b o e n hb (by simp)) (fun b o _ e n=>u.free b o e n (by simp)) (fun b o _ e=>u.there b o e (by simp)) u.tups u.frzs u.tbls (fun m' hm=>by
  obtain⟨o',es',ep',ho',r'⟩:=hm;rw[ho] at ho';cases ho';exact⟨_,es',ep',hL,r'⟩) hok I.bare
theorem Inv.call {g':Array GenState}{t':Nat}{d':Drawn}{ch:List Addr}(I:Inv X pins σ H s)(u:Un (frs X.stack) ch H H' s.heap h')(hok:HOk X.prog X.w H' h')(hg:AllBare g')
 (hch:∀b∈ch,(b∈X.ex\/X.s₀.heap.objs.size<=b)/\b≠X.env.locals/\(∀x c,X.env.cells.lookup x=some c->c≠b)/\∀p∈X.pn++pins,p.1≠b) :
 Inv X pins σ H' {s with heap:=h',gens:=g',drawn:=d',toks:=t'}:=by
 obtain⟨m,⟨o,es,ep,ho,r⟩,_⟩:=id I.loc;obtain⟨sl,hL⟩:=u.any ho I.free fun z=>(hch _ z).2.1 rfl
 exact I.step (ch:=ch) hch (fun b o hL hb hc e n=>u.keep b o e n (fun z=>(List.mem_cons.mp (I.stkSub b z)).elim hL hb) hc) (fun b o _ _ hc e n=>u.any e n hc) (fun b o hc e n=>u.free b o e n hc) (fun b o hc e=>u.there b o e hc) u.tups u.frzs u.tbls (fun m' hm=>by
  obtain⟨o',es',ep',ho',r'⟩:=hm;rw[ho] at ho';cases ho';exact⟨_,es',ep',hL,r'⟩) hok hg
theorem Inv.turned {t':Nat}{it:Addr}(I:Inv X pins σ H s)(k:∀b o,b≠it->s.heap.get? b=some o->h'.get? b=some o)(hn:H it=none)(hL:it≠X.env.locals)
 (h1:it∈X.ex\/X.s₀.heap.objs.size<=it) (h2:∀x c,X.env.cells.lookup x=some c->c≠it) (h3:∀p∈X.pn++pins,p.1≠it):Inv X pins σ H {s with heap:=h',toks:=t'}:=by
 have nit:∀b u,H b=some u->b≠it:=fun b u e z=>by rw[z,hn] at e;cases e
 refine I.step (g':=s.gens) (d':=s.drawn) (ch:=[it]) (fun b hb=>?_) (fun b o _ _ hc e _=>k b o (fun z=>hc (by simp[z])) e) (fun b o _ _ hc e _=>⟨o.slots,k b o (fun z=>hc (by simp[z])) e⟩) (fun _ _ _ _ n=>n)
  (fun b o hc e=>⟨o,k b o (fun z=>hc (by simp[z])) e⟩) (fun _ _ e=>e) (fun _ _ _ e=>e) (fun b ps e=>⟨#[],by rw[e];simp⟩) (fun m hm=>?_) (fun b u e=>?_) I.bare
 ·have e:b=it:=by simpa using hb
  subst e;exact⟨h1,hL,h2,h3⟩
 ·obtain⟨o,es,ep,ho,r⟩:=hm;exact⟨o,es,ep,k _ o (Ne.symm hL) ho,r⟩
 ·refine(I.hok b u e).stay (fun c v hc q=>k c v ?_ q) (fun _ q=>q) fun _ _ _ q=>q
  rcases hc with z | z
  ·rw[z];exact nit b u e
  ·exact nit c _ z
theorem Inv.tok (I:Inv X pins σ H s)(t:Nat):Inv X pins σ H {s with toks:=t}:=I.un (h':=s.heap) (t':=t) Un.refl I.hok
theorem Inv.kept {t':Nat}(I:Inv X pins σ H s)(k:∀b u,s.heap.get? b=some u->h'.get? b=some u):Inv X pins σ H {s with heap:=h',toks:=t'}:=I.un (Un.kept k) (I.hok.kept k)
theorem Inv.laid {a:Addr}{o:HO}{t':Nat}(I:Inv X pins σ H s)(k:∀b u,s.heap.get? b=some u->h'.get? b=some u)(hp:s.heap.objs.size<=a)(new:ObjOk X.prog X.w (upd H a o) h' a o) :
 Inv X pins σ (upd H a o) {s with heap:=h',toks:=t'}:=I.un (Un.laid k hp (I.hok.fresh hp)) (I.hok.laid k hp new)
theorem Inv.write {x e:Addr}{o:HO}{t':Nat}(I:Inv X pins σ H s)(mu:Mut (H x))(he:e=x\/H e=some (.own x))(k:∀b u,b≠e->s.heap.get? b=some u->h'.get? b=some u)(heo:∃u,h'.get? e=some u)
 (new:ObjOk X.prog X.w (upd H x o) h' x o):Inv X pins σ (upd H x o) {s with heap:=h',toks:=t'}:=I.un (Un.write mu he k heo) (I.hok.write mu he k heo new)
theorem Inv.pins_of {pins':List (Addr×Obj)}(I:Inv X pins σ H s)(h:∀p∈pins',s.heap.get? p.1=some p.2/\H p.1=none/\p.1≠X.env.locals/\p.1∉X.fs/\∀v,p.2.data≠.cell v):Inv X pins' σ H s:=
 ⟨I.ok,I.os,I.bare,I.base,I.loc,I.cell,I.free,I.freeC,fun p hp=>(List.mem_append.mp hp).elim (fun z=>I.pin p (List.mem_append_left _ z)) (h p),I.hok,I.len⟩
theorem zgV {N:List Str}(hN:N.Nodup){i j:Nat}{x:Str}(a:N[i]?=some x)(b:N[j]?=some x):i=j:=by
 obtain⟨h1,e1⟩:=List.getElem?_eq_some_iff.mp a;obtain⟨h2,e2⟩:=List.getElem?_eq_some_iff.mp b;exact(List.getElem_inj hN).mp (e1.trans e2.symm)
theorem zfG {M:Model}{A:Around}{E:Value->Shared->Prop}{i:Nat}{x:Str}{v:V}{u:Value}{Q:Unit->Shared->Prop}(I:Inv X pins σ H s)(hN:X.N.Nodup)(hi:X.N[i]?=some x)(hx:Loc X.env.scope x)(r:RelV v u)
 (h:∀s',Inv X pins (σ.set i (some v)) H s'->(∃a,Heap.SameBut a s.heap s'.heap/\(a=X.env.locals\/X.env.cells.lookup x=some a))->Q () s') (hf:X.fn x=true\/X.env.scope.names.lookup x=some .local:=by first | exact .inl rfl | exact .inr rfl | assumption):wpAny M A (storeName X.env x u) Q E s:=by
 obtain⟨m,hn,hl⟩:=id I.loc;have hcls:(X.env.scope.kind == .class||(X.env.scope.kind == .module&&X.env.locals != X.env.globals))=false:=by rw[I.ok.kind];rfl
 have hiσ:i<σ.length:=by rw[I.len];exact(List.getElem?_eq_some_iff.mp hi).1
 have cne:=I.cne
 have tracked:∀{a:Addr}{h':Heap},(∃o,s.heap.get? a=some o/\H a=none)->Heap.SameBut a s.heap h'->HOk X.prog X.w H h':=fun {a h'} ha hs b ob e=>by
  obtain⟨_,_,hfree⟩:=ha;refine(I.hok b ob e).stay (fun c w' hc q=>(hs.2 c ?_).trans q) (fun _ q=>q) fun _ _ _ q=>q
  rintro rfl;rcases hc with rfl | hc
  ·rw[hfree] at e;cases e
  ·rw[hfree] at hc;cases hc
 rcases hx with hk | hk
 ·refine wpAny_storeName_local hk hn (fun h' hn' hs=>?_) hcls;obtain⟨oL,_,_,hoL,_⟩:=id hn;refine h _ ⟨I.ok,I.os,I.bare,⟨fun b o e n hb hx=>?_,fun b o e n hb hx=>?_,I.base.free,fun b o e hx=>?_,I.base.tups,I.base.frzs,I.base.tbls⟩,⟨_,hn',fun j y v' e1 e2 e3=>?_⟩,fun y c e=>?_,I.free,I.freeC,fun p hp=>?_,tracked ⟨oL,hoL,I.free⟩ hs,by simpa using I.len⟩ ⟨_,hs,.inl rfl⟩
  ·exact(hs.2 b (Nat.ne_of_lt (Nat.lt_of_lt_of_le (Heap.lt_size e) I.ok.above))).trans (I.base.keep b o e n hb hx)
  ·obtain⟨sl,e1⟩:=I.base.slot b o e n hb hx;exact⟨sl,(hs.2 b (Nat.ne_of_lt (Nat.lt_of_lt_of_le (Heap.lt_size e) I.ok.above))).trans e1⟩
  ·obtain⟨o',e1⟩:=I.base.there b o e hx;exact⟨o',(hs.2 b (Nat.ne_of_lt (Nat.lt_of_lt_of_le (Heap.lt_size e) I.ok.above))).trans e1⟩
  ·by_cases hj:j=i
   ·subst hj;rw[hi] at e1;cases e1;rw[List.getElem?_set_self hiσ] at e2;cases e2;exact⟨u,r,.inl ⟨hk,by simp⟩⟩
   ·rw[List.getElem?_set_ne (Ne.symm hj)] at e2;obtain⟨u',r',q⟩:=hl j y v' e1 e2 e3;refine⟨u',r',?_⟩;rcases q with⟨k,e⟩ | ⟨k,c,e,z⟩
    ·refine .inl ⟨k,?_⟩;have:y≠x:=fun e=>hj (zgV hN e1 (e▸hi))
     simp[this,e]
    ·exact .inr ⟨k,c,e,z.sameBut hs (cne y c e)⟩
  ·obtain⟨w',z⟩:=I.cell y c e;exact⟨w',z.sameBut hs (cne y c e)⟩
  ·obtain⟨e,n,ne,nf,d⟩:=I.pin p hp;exact⟨(hs.2 p.1 ne).trans e,n,ne,nf,d⟩
 ·have hfn:X.fn x=true:=by
   rcases hf with z | z
   ·exact z
   ·rw[z] at hk;cases hk
  obtain⟨c,hc⟩:=I.ok.has x (.inl hk);obtain⟨w',z⟩:=I.cell x c hc;refine wpAny_storeName_cell I.ok.kind hk hc z (fun h' hc' hs=>?_);obtain⟨oc,hoc,hocd⟩:=id z;refine h {s with heap:=h'} ⟨I.ok,I.os,I.bare,⟨fun b o e n hb hx=>?_,fun b o e n hb hx=>?_,I.base.free,fun b o e hx=>?_,I.base.tups,I.base.frzs,I.base.tbls⟩,⟨m,hn.sameBut hs (Ne.symm (cne x c hc)),fun j y v' e1 e2 e3=>?_⟩,fun y c' e=>?_,I.free,I.freeC,fun p hp=>?_,tracked ⟨oc,hoc,I.freeC x c hc⟩ hs,by simpa using I.len⟩ ⟨c,hs,.inr hc⟩
  ·exact(hs.2 b (Nat.ne_of_lt (Nat.lt_of_lt_of_le (Heap.lt_size e) (I.ok.cab x c hfn hc)))).trans (I.base.keep b o e n hb hx)
  ·obtain⟨sl,e1⟩:=I.base.slot b o e n hb hx;exact⟨sl,(hs.2 b (Nat.ne_of_lt (Nat.lt_of_lt_of_le (Heap.lt_size e) (I.ok.cab x c hfn hc)))).trans e1⟩
  ·obtain⟨o',e1⟩:=I.base.there b o e hx;exact⟨o',(hs.2 b (Nat.ne_of_lt (Nat.lt_of_lt_of_le (Heap.lt_size e) (I.ok.cab x c hfn hc)))).trans e1⟩
  ·by_cases hj:j=i
   ·subst hj;rw[hi] at e1;cases e1;rw[List.getElem?_set_self hiσ] at e2;cases e2;exact⟨u,r,.inr ⟨.inl hk,c,hc,hc'⟩⟩
   ·rw[List.getElem?_set_ne (Ne.symm hj)] at e2;obtain⟨u',r',q⟩:=hl j y v' e1 e2 e3;refine⟨u',r',?_⟩;rcases q with q | ⟨k,c',e,z'⟩
    ·exact .inl q
    ·refine .inr ⟨k,c',e,z'.sameBut hs ?_⟩;rintro rfl;exact hj (zgV hN e1 (I.ok.inj _ _ _ e hc▸hi))
  ·by_cases hcc:c'=c
   ·subst hcc;exact⟨_,hc'⟩
   ·obtain⟨w2,z2⟩:=I.cell y c' e;exact⟨w2,z2.sameBut hs hcc⟩
  ·obtain⟨e,n,ne,nf,d⟩:=I.pin p hp;refine⟨(hs.2 p.1 ?_).trans e,n,ne,nf,d⟩;intro q;rw[q,hoc] at e;have q':oc=p.2:=Option.some.inj e
   exact d w' (by rw[<-q'];exact hocd)
theorem zgW {M:Model}{A:Around}{E:Value->Shared->Prop}{i:Nat}{x:Str}{v:V}{u:Value}{Q:Unit->Shared->Prop}(I:Inv X pins σ H s)(hN:X.N.Nodup)(hi:X.N[i]?=some x)(hx:Loc X.env.scope x)(r:RelV v u)
 (h:∀s',Inv X pins (σ.set i (some v)) H s'->Q () s') (hf:X.fn x=true\/X.env.scope.names.lookup x=some .local:=by first | exact .inl rfl | exact .inr rfl | assumption):wpAny M A (storeName X.env x u) Q E s:=
 zfG I hN hi hx r (fun s' I' _=>h s' I') hf
theorem Inv.call' {s':Shared}{ch:List Addr}(I:Inv X pins σ H s)(ho:s'.os=s.os)(u:Un (frs X.stack) ch H H' s.heap s'.heap)(hok:HOk X.prog X.w H' s'.heap)(hg:AllBare s'.gens)
 (hch:∀b∈ch,(b∈X.ex\/X.s₀.heap.objs.size<=b)/\b≠X.env.locals/\(∀x c,X.env.cells.lookup x=some c->c≠b)/\∀p∈X.pn++pins,p.1≠b):Inv X pins σ H' s':=by
 obtain⟨h',g',d',t',o'⟩:=s';have e:o'=s.os:=ho
 subst e;exact I.call (g':=g') (t':=t') (d':=d') u hok hg hch
end
abbrev XK:=Value->Option Addr->Hp->Prop
abbrev St:=List (Option V)
abbrev VK:=V->Hp->Prop
abbrev TE:=St->Hp->VK->Prop
abbrev TT:=St->Hp->(Bool->Hp->Prop)->Prop
abbrev TA:=St->Hp->(List V->Hp->Prop)->Prop
structure Ends where
 nx:St->Hp->Prop
 rt:VK
 bk:St->Hp->Prop:=fun _ _=>False
 ct:St->Hp->Prop:=fun _ _=>False
abbrev TS:=Ends->St->Hp->Prop
def EP (X:Cx)(pins:List (Addr×Obj))(σ:St)(Q:VK)(u:Value)(s':Shared):Prop:=∃v H',Inv X pins σ H' s'/\RelV v u/\Q v H'
def TP (X:Cx)(pins:List (Addr×Obj))(σ:St)(Q:Bool->Hp->Prop)(b:Bool)(s':Shared):Prop:=∃H',Inv X pins σ H' s'/\Q b H'
def AP (X:Cx)(pins:List (Addr×Obj))(σ:St)(Q:List V->Hp->Prop)(us:List Value)(s':Shared):Prop:=∃vs H',Inv X pins σ H' s'/\Vals vs us/\Q vs H'
def SP (X:Cx)(pins:List (Addr×Obj))(D:Ends)(f:Flow)(s':Shared):Prop:=
 match f with
 | .next=>∃σ' H',Inv X pins σ' H' s'/\D.nx σ' H'
 | .brk=>∃σ' H',Inv X pins σ' H' s'/\D.bk σ' H'
 | .cont=>∃σ' H',Inv X pins σ' H' s'/\D.ct σ' H'
 | .ret u=>∃v σ' H',Inv X pins σ' H' s'/\RelV v u/\D.rt v H'
def PE (X:Cx)(e:Expr)(t:TE):Prop:=
 ∀(pins:List (Addr×Obj)) (s:Shared) (σ:St) (H:Hp) (Q:VK),Inv X pins σ H s->t σ H Q->wpAny (model X.prog X.w) X.A (eval e X.env) (EP X pins σ Q) X.xe s
def PT (X:Cx)(e:Expr)(t:TT):Prop:=
 ∀(pins:List (Addr×Obj)) (s:Shared) (σ:St) (H:Hp) (Q:Bool->Hp->Prop),Inv X pins σ H s->t σ H Q->wpAny (model X.prog X.w) X.A (isTrue e X.env (eval e X.env)) (TP X pins σ Q) X.xe s
def PW (X:Cx)(e:Expr)(t:TT):Prop:=
 ∀(whole:Sem Value) (pins:List (Addr×Obj)) (s:Shared) (σ:St) (H:Hp) (Q:Bool->Hp->Prop),Inv X pins σ H s->t σ H Q->wpAny (model X.prog X.w) X.A (isTrue e X.env whole) (TP X pins σ Q) X.xe s
theorem PW.pt {X:Cx}{e:Expr}{t:TT}(h:PW X e t):PT X e t:=h _
def PA (X:Cx)(es:List Expr)(t:TA):Prop:=
 ∀(pos:Pos) (pins:List (Addr×Obj)) (s:Shared) (σ:St) (H:Hp) (Q:List V->Hp->Prop),Inv X pins σ H s->t σ H Q->wpAny (model X.prog X.w) X.A (spliced (backTo pos (starEach es X.env))) (AP X pins σ Q) X.xe s
def PS (X:Cx)(st:Stmt)(t:TS):Prop:=
 ∀(pins:List (Addr×Obj)) (s:Shared) (σ:St) (H:Hp) (D:Ends),Inv X pins σ H s->t D σ H->wpAny (model X.prog X.w) X.A (exec st X.env) (SP X pins D) X.xe s
def PSs (X:Cx)(st:List Stmt)(t:TS):Prop:=
 ∀(pins:List (Addr×Obj)) (s:Shared) (σ:St) (H:Hp) (D:Ends),Inv X pins σ H s->t D σ H->wpAny (model X.prog X.w) X.A (execs st X.env) (SP X pins D) X.xe s
theorem thn {α:Type}{t:Sem α}{Q Q':α->Shared->Prop}{M:Model}{A:Around}{E:Value->Shared->Prop}{s:Shared}(h:wpAny M A t Q E s)(hQ:∀a s,Q a s->Q' a s):wpAny M A t Q' E s:=wpAny_mono h hQ fun _ _ x=>x
section
variable {X:Cx}
theorem bin {a b:Expr}{ta tb:TE}(ha:PE X a ta)(hb:PE X b tb){pins:List (Addr×Obj)}{s:Shared}{σ:St}{H:Hp}{R:V->V->Hp->Prop}(I:Inv X pins σ H s)(h:ta σ H fun x H1=>tb σ H1 fun y H2=>R x y H2)
 {α:Type}{Q:α->Shared->Prop}{f:Value->Value->Sem α}
 (hf:∀v u s2 x y H2,Inv X pins σ H2 s2->RelV x v->RelV y u->R x y H2->wpAny (model X.prog X.w) X.A (f v u) Q X.xe s2) :
 wpAny (model X.prog X.w) X.A (eval a X.env) (fun v s₁=>wpAny (model X.prog X.w) X.A (eval b X.env) (fun u s₂=>wpAny (model X.prog X.w) X.A (f v u) Q X.xe s₂) X.xe s₁) X.xe s:=by
 refine thn (ha pins s σ H _ I h) fun v s1 ⟨x,H1,I1,r1,q1⟩ =>?_
 refine thn (hb pins s1 σ H1 _ I1 q1) fun u s2 ⟨y,H2,I2,r2,q2⟩ =>?_
 exact hf v u s2 x y H2 I2 r1 r2 q2
def tVar (i:Nat):TE:=fun σ H Q=>∃v,σ[i]?=some (some v)/\Q v H
def tC (v:V):TE:=fun _ H Q=>Q v H
theorem zb0 {i:Nat}{x:Str}{pos:Pos}(hN:X.N[i]?=some x)(hv:Vis X.env.scope x)(hd:(x == ("__debug__" : Str))=false:=by decide)(hcd:(x == ("__classdict__" : Str))=false:=by decide):PE X (.Name x pos) (tVar i):=by
 intro pins s σ H Q I h;obtain⟨v,e,h⟩:=h;obtain⟨m,hn,hl⟩:=I.loc;obtain⟨u,r,l⟩:=hl i x v hN e hv;have fin:EP X pins σ Q u s:=⟨v,H,I,r,h⟩
 rcases l with⟨hk,hm⟩ | ⟨hk,c,hc,hcell⟩
 ·exact wpAny_Name (wpAny_loadName_local I.ok.kind hk hn hm fin) hd
 ·rcases hk with hk | hk
  ·exact wpAny_Name (wpAny_loadName_cell I.ok.kind hk hc hcell fin) hd
  ·exact wpAny_Name (wpAny_loadName_free I.ok.kind hk hc hcell fin hcd) hd
theorem znw {i j pos}:PE X (.Constant (.int i) j pos) (tC (.int i)):=fun _ _ _ H _ I h=>wpAny_Constant_int ⟨.int i,H,I.tok _,⟨_,rfl⟩,h⟩
theorem zo7 {b j pos}:PE X (.Constant (.bool b) j pos) (tC (.bl b)):=fun _ _ _ H _ I h=>Constant_bool ⟨.bl b,H,I,rfl,h⟩
theorem znx {j pos}:PE X (.Constant .none j pos) (tC .non):=fun _ _ _ H _ I h=>Constant_none ⟨.non,H,I,rfl,h⟩
theorem zny {x j pos}:PE X (.Constant (.str x) j pos) (tC (.str x)):=fun _ _ _ H _ I h=>Calls.Constant_str ⟨.str x,H,I.tok _,⟨_,rfl⟩,h⟩
def Gl (X:Cx)(x:Str):Prop:=X.env.kindOf x=some .globalImplicit
theorem zgp {E:Value->Shared->Prop}{pins:List (Addr×Obj)}{s:Shared}{σ:St}{H:Hp}{x:Str}{u:Value}{pos:Pos}{Q:Value->Shared->Prop}(I:Inv X pins σ H s)(hg:Gl X x)(hm:X.mg x=some u)(h:Q u s)
 (hd:(x == ("__debug__" : Str))=false:=by decide):wpAny (model X.prog X.w) X.A (eval (.Name x pos) X.env) Q E s:=
 Calls.Name_function_global I.ok.kind hg (Calls.loadGlobal_global (by rw[I.ok.glob];exact I.mod.glob.keeps I.bk) hm h) hd
theorem zc4 {E:Value->Shared->Prop}{pins:List (Addr×Obj)}{s:Shared}{σ:St}{H:Hp}{x:Str}{u:Value}{pos:Pos}{Q:Value->Shared->Prop}(I:Inv X pins σ H s)(hg:Gl X x)(hm:X.mg x=none)(hv:bootBuiltins x=some u)(h:Q u s)
 (hn:x≠"__name__":=by decide) (hd:(x == ("__debug__" : Str))=false:=by decide):wpAny (model X.prog X.w) X.A (eval (.Name x pos) X.env) Q E s:=by
 obtain⟨mb,h1,h2⟩:=I.mod.blt;exact Calls.Name_function_global I.ok.kind hg (Calls.loadGlobal_builtin (by rw[I.ok.glob];exact I.mod.glob.keeps I.bk) hm (by rw[I.ok.blt];exact h1.keeps I.bk) ((h2 x hn).trans hv) h) hd
theorem zic {x:Str}{v:V}{u:Value}{pos:Pos}(hg:Gl X x)(hm:X.mg x=some u)(r:RelV v u)(hd:(x == ("__debug__" : Str))=false:=by decide):PE X (.Name x pos) (tC v):=
 fun _ _ _ H _ I h=>zgp I hg hm ⟨v,H,I,r,h⟩ hd
theorem zlC {x:Str}{v:V}{u:Value}{pos:Pos}(hg:Gl X x)(hm:X.mg x=none)(hv:bootBuiltins x=some u)(r:RelV v u)(hn:x≠"__name__":=by decide)(hd:(x == ("__debug__" : Str))=false:=by decide):PE X (.Name x pos) (tC v):=
 fun _ _ _ H _ I h=>zc4 I hg hm hv ⟨v,H,I,r,h⟩ hn hd
variable {a b:Expr}{ta tb:TE}{pos:Pos}
variable {tA tB':TT}{rest:List Expr}
def tAnd (t u:TT):TT:=fun σ H Q=>t σ H fun c H1=>if c=true then u σ H1 Q else Q false H1
def tOr (t u:TT):TT:=fun σ H Q=>t σ H fun c H1=>if c=true then Q true H1 else u σ H1 Q
def tNot (t:TT):TT:=fun σ H Q=>t σ H fun c H1=>Q (!c) H1
theorem zlD (ha:PT X a tA):PW X (.BoolOp .And [a] pos) tA:=by
 intro wh pins s σ H Q I h;refine isTrue_and (thn (ha pins s σ H Q I h) fun c s1 e=>?_);cases c with
 | true=>exact isTrue_and_nil e
 | false=>exact e
theorem znz (ha:PT X a tA):PW X (.BoolOp .Or [a] pos) tA:=by
 intro wh pins s σ H Q I h;refine isTrue_or (thn (ha pins s σ H Q I h) fun c s1 e=>?_);cases c with
 | false=>exact isTrue_or_nil e
 | true=>exact e
theorem znA (ha:PT X a tA)(hb:PW X (.BoolOp .And (b::rest) pos) tB'):PW X (.BoolOp .And (a::b::rest) pos) (tAnd tA tB'):=by
 intro wh pins s σ H Q I h;refine isTrue_and (thn (ha pins s σ H _ I h) fun c s1 ⟨H1,I1,q1⟩ =>?_);cases c with
 | true=>exact hb wh pins s1 σ H1 Q I1 q1
 | false=>exact⟨H1,I1,q1⟩
theorem zo8 (ha:PT X a tA)(hb:PW X (.BoolOp .Or (b::rest) pos) tB'):PW X (.BoolOp .Or (a::b::rest) pos) (tOr tA tB'):=by
 intro wh pins s σ H Q I h;refine isTrue_or (thn (ha pins s σ H _ I h) fun c s1 ⟨H1,I1,q1⟩ =>?_);cases c with
 | true=>exact⟨H1,I1,q1⟩
 | false=>exact hb wh pins s1 σ H1 Q I1 q1
theorem znB (ha:PT X a tA):PT X (.UnaryOp .Not a pos) (tNot tA):=by
 intro pins s σ H Q I h;exact isTrue_not (ha pins s σ H (fun c H1=>Q (!c) H1) I h)
def zo9 (ta:TE):TE:=fun σ H Q=>ta σ H fun x H1=>∃c,x=.bl c/\Q (.bl (!c)) H1
theorem znC (ha:PE X a ta):PE X (.UnaryOp .Not a pos) (zo9 ta):=by
 intro pins s σ H Q I h;refine UnaryOp_ (thn (ha pins s σ H _ I h) fun v s1 ⟨x,H1,I1,r1,q1⟩ =>?_);obtain⟨c,rfl,q1⟩:=q1;cases r1;exact not_of (wpAny_truthy_bool ⟨.bl (!c),H1,I1,rfl,q1⟩)
def tIf (t:TT)(ta tb:TE):TE:=fun σ H Q=>t σ H fun c H1=>if c=true then ta σ H1 Q else tb σ H1 Q
theorem zjT {c:Expr}(hc:PT X c tA)(ha:PE X a ta)(hb:PE X b tb):PE X (.IfExp c a b pos) (tIf tA ta tb):=by
 intro pins s σ H Q I h;refine wpAny_IfExp (thn (hc pins s σ H _ I h) fun d s1 ⟨H1,I1,q1⟩ =>?_);cases d with
 | true=>exact ha pins s1 σ H1 Q I1 q1
 | false=>exact hb pins s1 σ H1 Q I1 q1
end
def SqL (K:W.Frag)(H:Hp)(a:Addr)(xs:List V):Prop:=
 Rd H a (.lst xs)\/
  ∃(o:Obj) (its:Array Value) (n:Nat),K.lookup a=some o/\o.cls=.type "list"/\o.dict=none/\o.data=.seq its n/\its.size<=sizeLine/\Vals xs its.toList
def SqT (K:W.Frag)(H:Hp)(a:Addr)(xs:List V):Prop:=
 Rd H a (.tup xs)\/
  ∃(o:Obj) (its:Array Value) (n:Nat),K.lookup a=some o/\o.cls=.type "tuple"/\o.data=.seq its n/\its.size<=sizeLine/\Vals xs its.toList
def absV:Value->Option V
 | .none=>some .non
 | .bool b=>some (.bl b)
 | .int i _=>some (.int i)
 | .str x _=>some (.str x)
 | .bytes b _=>some (.byt b)
 | .float b _=>some (.flt b)
 | .ref a=>some (.ref a)
 | .type n=>some (.ty n)
 | _=>none
theorem RelV.abs {x:V}{u:Value}(r:RelV x u):absV u=some x:=by
 cases x with
 | non=>cases r;rfl
 | bl _=>cases r;rfl
 | int _=>obtain⟨t,rfl⟩:=r;rfl
 | str _=>obtain⟨t,rfl⟩:=r;rfl
 | byt _=>obtain⟨t,rfl⟩:=r;rfl
 | flt _=>obtain⟨t,rfl⟩:=r;rfl
 | ref _=>cases r;rfl
 | ty _=>cases r;rfl
theorem RelV.inj {x y:V}{u:Value}(r:RelV x u)(q:RelV y u):x=y:=Option.some.inj (r.abs.symm.trans q.abs)
theorem Vals.inj:∀{xs ys:List V}{us:List Value},Vals xs us->Vals ys us->xs=ys
 | _,_,_,.nil,.nil=>rfl
 | _,_,_,.cons r t,.cons r' t'=>by rw[r.inj r',Vals.inj t t']
section
variable {X:Cx}{pins:List (Addr×Obj)}{σ:St}{H:Hp}{s:Shared}{a:Addr}{xs ys:List V}
theorem SqL.of {K:W.Frag}(h:H a=some (.lst xs)):SqL K H a xs:=.inl (.inl h)
theorem SqT.of {K:W.Frag}(h:H a=some (.tup xs)):SqT K H a xs:=.inl (.inl h)
theorem Inv.list (I:Inv X pins σ H s)(h:SqL X.K H a xs):∃its:List Value,Vals xs its/\PlainL s.heap a its.toArray/\xs.length<=sizeLine:=by
 rcases h with h | ⟨o,its,n,hk,hc,hd,hs,hz,r⟩
 ·obtain⟨z,its,n,r,e⟩:=h.ok I.hok;exact⟨its,r,⟨_,n,e,rfl,rfl,rfl⟩,z⟩
 ·refine⟨its.toList,r,⟨o,n,I.kIn a o hk,hc,hd,by simpa using hs⟩,?_⟩;have e:=r.length
  simp only[Array.length_toList] at e;omega
theorem Inv.tuple (I:Inv X pins σ H s)(h:SqT X.K H a xs):∃its:List Value,Vals xs its/\IsTup s.heap a its.toArray/\xs.length<=sizeLine:=by
 rcases h with h | ⟨o,its,n,hk,hc,hs,hz,r⟩
 ·obtain⟨z,its,r,p⟩:=h.ok I.hok;exact⟨its,r,p,z⟩
 ·refine⟨its.toList,r,⟨o,I.kIn a o hk,hc,n,by simpa using hs⟩,?_⟩;have e:=r.length
  simp only[Array.length_toList] at e;omega
theorem Inv.list_inj (I:Inv X pins σ H s)(h:SqL X.K H a xs)(h':SqL X.K H a ys):xs=ys:=by
 obtain⟨its,r,⟨o,n,e,_,_,d⟩,_⟩:=I.list h;obtain⟨its',r',⟨o',n',e',_,_,d'⟩,_⟩:=I.list h';rw[e] at e';cases e';rw[d] at d';injection d' with d1 _
 have:its=its':=by simpa using congrArg Array.toList d1
 subst this;exact r.inj r'
theorem Inv.tuple_inj (I:Inv X pins σ H s)(h:SqT X.K H a xs)(h':SqT X.K H a ys):xs=ys:=by
 obtain⟨its,r,⟨o,e,_,n,d⟩,_⟩:=I.tuple h;obtain⟨its',r',⟨o',e',_,n',d'⟩,_⟩:=I.tuple h';rw[e] at e';cases e';rw[d] at d';injection d' with d1 _
 have:its=its':=by simpa using congrArg Array.toList d1
 subst this;exact r.inj r'
end
abbrev Cx.wish (X:Cx)(E:Value->Shared->Prop):Cx:={X with xe:=E}
abbrev Cx.nox (X:Cx):Cx:=X.wish fun _ _=>False
theorem Cx.Ok.wish {X:Cx}(ok:X.Ok)(E:Value->Shared->Prop):(X.wish E).Ok:=
 ⟨ok.mod,ok.kind,ok.glob,ok.blt,ok.above,ok.inj,ok.has,ok.cab,ok.hd,ok.frames,ok.stk,ok.exf,ok.bs,ok.bsz,ok.noex,ok.exfs,ok.funs,ok.frf⟩
theorem Cx.Ok.unwish {X:Cx}{E:Value->Shared->Prop}(ok:(X.wish E).Ok):X.Ok:=
 ⟨ok.mod,ok.kind,ok.glob,ok.blt,ok.above,ok.inj,ok.has,ok.cab,ok.hd,ok.frames,ok.stk,ok.exf,ok.bs,ok.bsz,ok.noex,ok.exfs,ok.funs,ok.frf⟩
section
variable {X:Cx}{pins:List (Addr×Obj)}{σ:St}{H:Hp}{s:Shared}{E:Value->Shared->Prop}
theorem Inv.wish (I:Inv X pins σ H s)(E:Value->Shared->Prop):Inv (X.wish E) pins σ H s:=⟨I.ok.wish E,I.os,I.bare,I.base,I.loc,I.cell,I.free,I.freeC,I.pin,I.hok,I.len⟩
theorem Inv.unwish (I:Inv (X.wish E) pins σ H s):Inv X pins σ H s:=⟨I.ok.unwish,I.os,I.bare,I.base,I.loc,I.cell,I.free,I.freeC,I.pin,I.hok,I.len⟩
theorem SP.unwish {D:Ends}{f:Flow}{s':Shared}(h:SP (X.wish E) pins D f s'):SP X pins D f s':=by
 cases f with
 | next=>obtain⟨σ',H',I,q⟩:=h;exact⟨σ',H',I.unwish,q⟩
 | brk=>obtain⟨σ',H',I,q⟩:=h;exact⟨σ',H',I.unwish,q⟩
 | cont=>obtain⟨σ',H',I,q⟩:=h;exact⟨σ',H',I.unwish,q⟩
 | ret u=>obtain⟨v,σ',H',I,r,q⟩:=h;exact⟨v,σ',H',I.unwish,r,q⟩
theorem PSs.nox {st:List Stmt}{t:TS}(h:PSs X.nox st t):PSs X st t:=fun pins s σ H D I hw=>
 wpAny_mono (h pins s σ H D (I.wish _) hw) (fun _ _ q=>q.unwish) fun _ _ z=>False.elim z
end
section
variable {X:Cx}{st:Stmt}{rest:List Stmt}{t u:TS}{e:Expr}{te:TE}{pos:Pos}
def zpa:TS:=fun D σ H=>D.nx σ H
def tSeq (t u:TS):TS:=fun D σ H=>t {D with nx:=u D} σ H
theorem zlE:PSs X [] zpa:=fun _ _ σ H _ I h=>wpAny_execs_nil ⟨σ,H,I,h⟩
theorem zjU (h1:PS X st t)(h2:PSs X rest u):PSs X (st::rest) (tSeq t u):=by
 intro pins s σ H D I h;refine wpAny_execs_cons (thn (h1 pins s σ H {D with nx:=u D} I h) fun f s1 q=>?_);cases f with
 | next=>
   obtain⟨σ',H',I',q⟩:=q;exact h2 pins s1 σ' H' D I' q
 | ret v=>exact q
 | brk=>exact q
 | cont=>exact q
theorem zlF (h1:PS X st t):PSs X [st] t:=by
 intro pins s σ H D I h;refine wpAny_execs_cons (thn (h1 pins s σ H D I h) fun f s1 q=>?_);cases f with
 | next=>exact wpAny_execs_nil q
 | ret v=>exact q
 | brk=>exact q
 | cont=>exact q
theorem Inv.quiet {pins:List (Addr×Obj)}{σ:St}{H:Hp}{s:Shared}(I:Inv X pins σ H s):interactive X.env=false:=by simp[interactive,I.ok.kind]
def zjV (te:TE):TS:=fun D σ H=>te σ H fun _ H1=>D.nx σ H1
theorem zed (he:PE X e te)(hs:swapsWith e none pos.line X.env=pure false:=by rfl):PS X (.Expr e pos) (zjV te):=by
 intro pins s σ H D I h;exact wpAny_Expr_any (thn (he pins s σ H _ I h) fun v s1 ⟨x,H1,I1,r1,q1⟩ =>⟨σ,H1,I1,q1⟩) I.quiet hs
def tRet (te:TE):TS:=fun D σ H=>te σ H D.rt
theorem zid (he:PE X e te):PS X (.Return (some e) pos) (tRet te):=by
 intro pins s σ H D I h;exact wpAny_Return_some (thn (he pins s σ H _ I h) fun v s1 ⟨x,H1,I1,r1,q1⟩ =>⟨x,σ,H1,I1,r1,q1⟩)
def tIfS (c:TT)(t u:TS):TS:=fun D σ H=>c σ H fun b H1=>if b=true then t D σ H1 else u D σ H1
theorem zpb {c:Expr}{a b:List Stmt}{tc:TT}(hc:PT X c tc)(ha:PSs X a t)(hb:PSs X b u):PS X (.If c a b pos) (tIfS tc t u):=by
 intro pins s σ H D I h;refine wpAny_If (thn (hc pins s σ H _ I h) fun d s1 ⟨H1,I1,q1⟩ =>?_);cases d with
 | true=>exact ha pins s1 σ H1 D I1 q1
 | false=>exact hb pins s1 σ H1 D I1 q1
def znD:TS:=fun _ _ _=>False
theorem zjW:PS X st znD:=fun _ _ _ _ _ _ h=>h.elim
end
abbrev TG:=V->St->Hp->(St->Hp->Prop)->Prop
abbrev TGs:=List V->St->Hp->(St->Hp->Prop)->Prop
def PG (X:Cx)(target:Expr)(t:TG):Prop:=
 ∀(pins:List (Addr×Obj)) (s:Shared) (σ:St) (H:Hp) (v:V) (u:Value) (Q:St->Hp->Prop),Inv X pins σ H s->RelV v u->t v σ H Q->
  wpAny (model X.prog X.w) X.A (assign target X.env u) (fun _ s'=>∃σ' H',Inv X pins σ' H' s'/\Q σ' H') X.xe s
def PGs (X:Cx)(ts:List Expr)(t:TGs):Prop:=
 ∀(pins:List (Addr×Obj)) (s:Shared) (σ:St) (H:Hp) (vs:List V) (us:List Value) (Q:St->Hp->Prop),Inv X pins σ H s->Vals vs us->t vs σ H Q->
  wpAny (model X.prog X.w) X.A (assignInOrder ((assignEach ts X.env).map (·.2)) us) (fun _ s'=>∃σ' H',Inv X pins σ' H' s'/\Q σ' H') X.xe s
abbrev TSet:=V->V->V->Hp->(Hp->Prop)->Prop
def PSet (X:Cx)(t:TSet):Prop:=
 ∀(pins:List (Addr×Obj)) (s:Shared) (σ:St) (H:Hp) (o i v:V) (ov iv u:Value) (Q:Hp->Prop),Inv X pins σ H s->RelV o ov->RelV i iv->RelV v u->t o i v H Q->
  wpAny (model X.prog X.w) X.A (setItem ov iv u) (fun _ s'=>∃H',Inv X pins σ H' s'/\Q H') X.xe s
section
variable {X:Cx}{pos:Pos}
def zeH (i:Nat):TG:=fun v σ H Q=>Q (σ.set i (some v)) H
theorem zie {i:Nat}{x:Str}(hN:X.N.Nodup)(hi:X.N[i]?=some x)(hx:Loc X.env.scope x)(hf:X.fn x=true\/X.env.scope.names.lookup x=some .local:=by first | exact .inl rfl | exact .inr rfl | assumption):PG X (.Name x pos) (zeH i):=by
 intro pins s σ H v u Q I r h;exact wpAny_assign_Name (zgW I hN hi hx r (fun s' I'=>⟨_,H,I',h⟩) hf)
def gNil:TGs:=fun vs σ H Q=>vs = []/\Q σ H
def znE (t:TG)(u:TGs):TGs:=fun vs σ H Q=>∃v r,vs=v::r/\t v σ H fun σ' H'=>u r σ' H' Q
theorem zlG:PGs X [] gNil:=by
 intro pins s σ H vs us Q I r h;obtain⟨e,h⟩:=h;subst e;cases r;exact assignInOrder_nil ⟨σ,H,I,h⟩
theorem zjX {e:Expr}{es:List Expr}{t:TG}{u:TGs}(h1:PG X e t)(h2:PGs X es u)
 (hs:(assignEach (e::es) X.env).map (·.2)=assign e X.env::(assignEach es X.env).map (·.2):=by rfl):PGs X (e::es) (znE t u):=by
 intro pins s σ H vs us Q I r h;obtain⟨v,vr,e1,h⟩:=h;subst e1;cases r with
 | cons r rr=>
   rw[hs];refine assignInOrder_cons (thn (h1 pins s σ H _ _ _ I r h) fun _ s1 ⟨σ1,H1,I1,q1⟩ =>?_);exact h2 pins s1 σ1 H1 _ _ Q I1 rr q1
def gTup (K:W.Frag)(n:Nat)(t:TGs):TG:=fun v σ H Q=>∃a xs,v=.ref a/\SqT K H a xs/\xs.length=n/\t xs σ H Q
theorem znF {es:List Expr}{k:Nat}{t:TGs}{n:Nat}(hc:X.calm=true)(h:PGs X es t)
 (hn:(assignEach es X.env).length=n:=by rfl) (hst:(assignEach es X.env).findIdx? (·.1)=none:=by rfl):PG X (.Tuple es k pos) (gTup X.K n t):=by
 intro pins s σ H v u Q I r hw;obtain⟨a,xs,e1,hq,hl,hw⟩:=hw;subst e1;cases r;obtain⟨its,rv,ht,hz⟩:=I.tuple hq;refine assign_Tuple_tuple (I.ok.hd hc) ht (by simp[hn,<-hl,rv.length]) hst fun h' hx=>?_
 have I1:Inv X pins σ H {s with heap:=h'}:=I.kept (t':=s.toks) fun b o e=>hx b o (Nat.ne_of_lt (Heap.lt_size e)) e
 exact h pins _ σ H xs _ Q I1 (by simpa using rv) hw
def gSub (to ti:TE)(t:TSet):TG:=fun v σ H Q=>to σ H fun o H1=>ti σ H1 fun i H2=>t o i v H2 fun H3=>Q σ H3
theorem zk0 {o i:Expr}{to ti:TE}{t:TSet}(ho:PE X o to)(hi:PE X i ti)(hs:PSet X t)
 (ha:∀v,assign (.Subscript o i pos) X.env v=(do
  let ov <-holding [v] (eval o X.env)
  let iv <-holding [v,ov] (eval i X.env)
  standAt pos
  holding [v,ov,iv] (setItem ov iv v)
  release [v,ov,iv] []):=by intro _;rfl):PG X (.Subscript o i pos) (gSub to ti t):=by
 intro pins s σ H v u Q I r h;rw[ha];refine wpAny_bind (wpAny_holding (thn (ho pins s σ H _ I h) fun ov s1 ⟨x,H1,I1,r1,q1⟩ =>?_));refine wpAny_bind (wpAny_holding (thn (hi pins s1 σ H1 _ I1 q1) fun iv s2 ⟨y,H2,I2,r2,q2⟩ =>?_));refine wpAny_bind (wpAny_standAt (wpAny_bind (wpAny_holding (thn (hs pins s2 σ H2 x y v ov iv u _ I2 r1 r2 r q2) fun _ s3 ⟨H3,I3,q3⟩ =>?_))));exact wpAny_release ⟨σ,H3,I3,q3⟩
def tAsg (te:TE)(g:TG):TS:=fun D σ H=>te σ H fun x H1=>g x σ H1 D.nx
theorem zif {tg e:Expr}{te:TE}{g:TG}(he:PE X e te)(hg:PG X tg g)(hs:swapsWithSole [tg] e pos.line X.env=pure false:=by rfl)(hw:swappedStores [tg] e X.env=pure none:=by rfl)
 (h1:(assignEach [tg] X.env).map (·.2) = [assign tg X.env]:=by rfl):PS X (.Assign [tg] e pos) (tAsg te g):=by
 intro pins s σ H D I h;refine wpAny_Assign_stores (thn (he pins s σ H _ I h) fun v s1 ⟨x,H1,I1,r1,q1⟩ =>?_) hs hw;rw[h1];exact thn (hg pins s1 σ H1 x v _ I1 r1 q1) fun _ s2 q=>q
theorem zgX {i:Nat}{x:Str}{e:Expr}{te:TE}{pos':Pos}(hN:X.N.Nodup)(hi:X.N[i]?=some x)(hx:Loc X.env.scope x)(he:PE X e te)(hs:swapsWith e (some (.Name x pos')) pos.line X.env=pure false:=by rfl)(hf:X.fn x=true\/X.env.scope.names.lookup x=some .local:=by first | exact .inl rfl | exact .inr rfl | assumption) :
 PS X (.Assign [.Name x pos'] e pos) (tAsg te (zeH i)):=by
 intro pins s σ H D I h;refine wpAny_Assign_Name (thn (he pins s σ H _ I h) fun v s1 ⟨y,H1,I1,r1,q1⟩ =>?_) hs;exact zgW I1 hN hi hx r1 (fun s2 I2=>⟨_,H1,I2,q1⟩) hf
end
section
variable {X:Cx}{pos:Pos}
end
structure It where
 go:Nat->Hp->Prop
 yld:Nat->Hp->V->Hp->Prop
 stop:Nat->Hp->Prop
def FpOk (X:Cx)(pins:List (Addr×Obj))(H:Hp)(b:Addr):Prop:=
 H b=none/\b≠X.env.locals/\b∉X.fs/\(b∈X.ex\/X.s₀.heap.objs.size<=b)/\(∀x c,X.env.cells.lookup x=some c->c≠b)/\∀p∈X.pn++pins,p.1≠b
theorem Inv.fpOk {X:Cx}{pins:List (Addr×Obj)}{σ:St}{H H':Hp}{s:Shared}{b:Addr}(I:Inv X pins σ H s)(hb:s.heap.objs.size<=b)(hn:H' b=none):FpOk X pins H' b:=by
 refine⟨hn,Nat.ne_of_gt (Nat.lt_of_lt_of_le I.lt hb),I.nofs hb,.inr (Nat.le_trans I.sz hb),fun x c e z=>?_,fun p hp z=>?_⟩
 ·obtain⟨v,q⟩:=I.cell x c e;exact absurd (Nat.lt_of_lt_of_le q.lt (by rw[z];exact hb)) (Nat.lt_irrefl _)
 ·exact absurd (Nat.lt_of_lt_of_le (Heap.lt_size (I.pin p hp).1) (by rw[z];exact hb)) (Nat.lt_irrefl _)
structure Turn (P:Program)(w:World)(K:W.Frag)(tg:Expr)(J:It)(fp:List Addr)(it:Addr)(tn:Nat->Heap->Prop):Prop where
 mem:it∈fp
 obj:∀i h,tn i h->∀b∈fp,∃o,h.get? b=some o/\∀v,o.data≠.cell v
 keep:∀i h h',tn i h->(∀b∈fp,∀o,h.get? b=some o->h'.get? b=some o)->tn i h'
 item:∀(X:Cx),X.prog=P->X.w=w->X.K=K->X.calm=true->∀(i:Nat) (pins:List (Addr×Obj)) (s:Shared) (σ:St) (H:Hp) (E:Value->Shared->Prop),Inv X pins σ H s->(∀b∈fp,FpOk X pins H b)->tn i s.heap->J.go i H->
  wpAny (model P w) X.A (pyNext (.ref it)) (fun r s1=>∃u,r=some u/\
   wpAny (model P w) X.A (letOwnedTupleGo tg (.ref it) u) (fun _ s2=>∃x H',Inv X pins σ H' s2/\RelV x u/\J.yld i H x H'/\tn (i+1) s2.heap/\∀b∈fp,H' b=none) E s1) E s
 done:∀(X:Cx),X.prog=P->X.w=w->X.K=K->X.calm=true->∀(i:Nat) (pins:List (Addr×Obj)) (s:Shared) (σ:St) (H:Hp) (E:Value->Shared->Prop),Inv X pins σ H s->(∀b∈fp,FpOk X pins H b)->tn i s.heap->J.stop i H->
  wpAny (model P w) X.A (pyNext (.ref it)) (fun r s1=>r=none/\Inv X pins σ H s1) E s
 self:∀(A:Around) (i:Nat) (s:Shared) (Q:Value->Shared->Prop) (E:Value->Shared->Prop),tn i s.heap->Q (.ref it) s->wpAny (model P w) A (pyIter (.ref it)) Q E s
abbrev TI:=St->Hp->(It->Hp->Prop)->Prop
def PIE (X:Cx)(pins:List (Addr×Obj))(σ:St)(tg:Expr)(R:It->Hp->Prop)(itv:Value)(s2:Shared):Prop:=
 ∃(it:Addr) (fp:List Addr) (tn:Nat->Heap->Prop) (J:It) (H':Hp),itv=.ref it/\Inv X pins σ H' s2/\Turn X.prog X.w X.K tg J fp it tn/\tn 0 s2.heap/\(∀b∈fp,FpOk X pins H' b)/\R J H'
def PI (X:Cx)(tg iter:Expr)(wi:TI):Prop:=
 ∀(pins:List (Addr×Obj)) (s:Shared) (σ:St) (H:Hp) (R:It->Hp->Prop),Inv X pins σ H s->wi σ H R->
  wpAny (model X.prog X.w) X.A (eval iter X.env) (fun v s1=>wpAny (model X.prog X.w) X.A (pyIter v) (PIE X pins σ tg R) X.xe s1) X.xe s
theorem zig {M:Model}{A:Around}{E:Value->Shared->Prop}{s:Shared}{tg:Expr}{it:Addr}{u:Value}{o:Obj}{n:String}{vs:Array Value}{Q:Unit->Shared->Prop}(ho:s.heap.get? it=some o)(hc:o.cls=.type n)(hd:o.data=.fields vs)
 (hn:["enumerate","zip","dict_itemiterator","dict_reverseitemiterator","odict_iterator","itertools.zip_longest","itertools.pairwise"].contains n=false) (hQ:Q () s):wpAny M A (letOwnedTupleGo tg (.ref it) u) Q E s:=by
 unfold letOwnedTupleGo;cases tg <;> first
  | exact wpAny_pure hQ
  | (cases u <;> first
   | exact wpAny_pure hQ
   | (refine wpAny_bind (wpAny_load ho ?_)
      rw[hc,hd];show wpAny M A (if(["enumerate","zip","dict_itemiterator","dict_reverseitemiterator","odict_iterator","itertools.zip_longest","itertools.pairwise"].contains n&&vs[0]? == some (rawInt _))=true then _ else _) Q E s
      rw[if_neg (by intro h;rw[hn,Bool.false_and] at h;cases h)];exact wpAny_pure hQ))
def Itl (K:W.Frag)(a:Addr):It:=
 ⟨fun i H=>∃xs x,SqL K H a xs/\xs[i]?=some x,fun i H x H'=>H'=H/\∀xs,SqL K H a xs->xs[i]?=some x,fun i H=>∃xs,SqL K H a xs/\xs.length<=i⟩
def Itt (K:W.Frag)(a:Addr):It:=
 ⟨fun i H=>∃xs x,SqT K H a xs/\xs[i]?=some x,fun i H x H'=>H'=H/\∀xs,SqT K H a xs->xs[i]?=some x,fun i H=>∃xs,SqT K H a xs/\xs.length<=i⟩
def Itr (lo:Int)(n:Nat):It:=⟨fun i _=>i<n,fun i H x H'=>H'=H/\x=.int (lo+i),fun i _=>n<=i⟩
theorem zih {P:Program}{w:World}{K:W.Frag}{tg:Expr}(a it:Addr):Turn P w K tg (Itl K a) [it] it (fun i h=>h.IsListIter it a i) where
 mem:=by simp
 obj:=fun i h st b hb=>by
  have e:b=it:=by simpa using hb
  subst e;obtain⟨o,e,c,d⟩:=st;exact⟨o,e,fun v z=>by rw[d] at z;cases z⟩
 keep:=fun i h h' st k=>st.at fun o e=>k it (by simp) o e
 item:=by
  intro X hP hw hK hc i pins s σ H E I hf st hg;subst hP hw hK;obtain⟨xs,x,hq,hx⟩:=hg;obtain⟨its,rv,p,hz⟩:=I.list hq;obtain⟨u,hu,ru⟩:=rv.get hx;obtain⟨f0,f1,f2,f3,f4,f5⟩:=hf it (by simp);refine wpAny_pyNext_list_item st p.isList (x:=u) (by simpa using hu) fun h' st' sb=>?_
  have I1:Inv X pins σ H {s with heap:=h'}:=I.turned (t':=s.toks) (fun b o hb e=>(sb.2 b hb).trans e) f0 f1 f3 f4 f5
  obtain⟨o,e,c,d⟩:=id st';exact⟨u,rfl,zig (s:={s with heap:=h'}) e c d (by decide) ⟨x,H,I1,ru,⟨rfl,fun ys hy=>by rw[I.list_inj hy hq];exact hx⟩,st',fun b hb=>(hf b hb).1⟩⟩
 done:=by
  intro X hP hw hK hc i pins s σ H E I hf st hg;subst hP hw hK;obtain⟨xs,hq,hx⟩:=hg;obtain⟨its,rv,p,hz⟩:=I.list hq;obtain⟨f0,f1,f2,f3,f4,f5⟩:=hf it (by simp);have hl:=rv.length
  exact wpAny_pyNext_list_end (I.ok.hd hc) st p.isList (by simp;omega) fun h' eb=>⟨rfl,I.turned (t':=s.toks) (fun b o hb e=>eb b o hb e) f0 f1 f3 f4 f5⟩
 self:=fun _ _ _ _ _ st h=>wpAny_pyIter_listiter st h
theorem zhF {P:Program}{w:World}{K:W.Frag}{tg:Expr}(a it:Addr):Turn P w K tg (Itt K a) [it] it (fun i h=>h.IsTupleIter it a i) where
 mem:=by simp
 obj:=fun i h st b hb=>by
  have e:b=it:=by simpa using hb
  subst e;obtain⟨o,e,c,d⟩:=st;exact⟨o,e,fun v z=>by rw[d] at z;cases z⟩
 keep:=fun i h h' st k=>st.at fun o e=>k it (by simp) o e
 item:=by
  intro X hP hw hK hc i pins s σ H E I hf st hg;subst hP hw hK;obtain⟨xs,x,hq,hx⟩:=hg;obtain⟨its,rv,p,hz⟩:=I.tuple hq;obtain⟨u,hu,ru⟩:=rv.get hx;obtain⟨f0,f1,f2,f3,f4,f5⟩:=hf it (by simp);refine wpAny_pyNext_tuple_item st (show s.heap.IsTuple a its.toArray from p) (x:=u) (by simpa using hu) fun h' st' sb=>?_
  have I1:Inv X pins σ H {s with heap:=h'}:=I.turned (t':=s.toks) (fun b o hb e=>(sb.2 b hb).trans e) f0 f1 f3 f4 f5
  obtain⟨o,e,c,d⟩:=id st';exact⟨u,rfl,zig (s:={s with heap:=h'}) e c d (by decide) ⟨x,H,I1,ru,⟨rfl,fun ys hy=>by rw[I.tuple_inj hy hq];exact hx⟩,st',fun b hb=>(hf b hb).1⟩⟩
 done:=by
  intro X hP hw hK hc i pins s σ H E I hf st hg;subst hP hw hK;obtain⟨xs,hq,hx⟩:=hg;obtain⟨its,rv,p,hz⟩:=I.tuple hq;obtain⟨f0,f1,f2,f3,f4,f5⟩:=hf it (by simp);have hl:=rv.length
  exact wpAny_pyNext_tuple_end (I.ok.hd hc) st (show s.heap.IsTuple a its.toArray from p) (by simp;omega) fun h' eb=>⟨rfl,I.turned (t':=s.toks) (fun b o hb e=>eb b o hb e) f0 f1 f3 f4 f5⟩
 self:=fun _ _ _ _ _ st h=>wpAny_pyIter_tupleiter st h
theorem zhG {P:Program}{w:World}{K:W.Frag}{tg:Expr}(it:Addr)(lo:Int)(n:Nat):Turn P w K tg (Itr lo n) [it] it (fun i h=>IsRangeIter h it (lo+(i:Nat)*1) ((n:Int) - (i:Nat)) 1) where
 mem:=by simp
 obj:=fun i h st b hb=>by
  have e:b=it:=by simpa using hb
  subst e;exact⟨_,st,fun v z=>by
   have z':Data.fields _=Data.cell v:=z
   cases z'⟩
 keep:=fun i h h' st k=>k it (by simp) _ st
 item:=by
  intro X hP hw hK hc i pins s σ H E I hf st hg;subst hP hw hK;obtain⟨f0,f1,f2,f3,f4,f5⟩:=hf it (by simp);have W:=Walks.range (prog:=X.prog) (w:=X.w) (I.ok.hd hc) it lo 1 n
  refine W.item i s _ _ hg st fun v h' tk hv st' kk=>?_
  obtain⟨t,rfl⟩:=hv;have I1:Inv X pins σ H {s with heap:=h',toks:=tk}:=I.turned (fun b o hb e=>kk b o (by simpa using hb) e) f0 f1 f3 f4 f5
  refine⟨_,rfl,zig (s:={s with heap:=h',toks:=tk}) (n:="range_iterator") st' rfl rfl (by decide) ⟨.int (lo+i),H,I1,⟨t,?_⟩,⟨rfl,rfl⟩,st',fun b hb=>(hf b hb).1⟩⟩;rw[Int.mul_one]
 done:=by
  intro X hP hw hK hc i pins s σ H E I hf st hg;subst hP hw hK;obtain⟨f0,f1,f2,f3,f4,f5⟩:=hf it (by simp);exact wpAny_pyNext_range_end (I.ok.hd hc) st (by have:n<=i:=hg;omega) fun h' eb=>⟨rfl,I.turned (t':=s.toks) (fun b o hb e=>eb b o hb e) f0 f1 f3 f4 f5⟩
 self:=fun _ _ _ _ _ st h=>wpAny_pyIter_rangeiter st h
section
variable {X:Cx}{tg:Expr}
def zpc (K:W.Frag)(tl:TE):TI:=fun σ H R=>tl σ H fun x H1=>∃a,x=.ref a/\(∃xs,SqL K H1 a xs)/\R (Itl K a) H1
def iTup (K:W.Frag)(tl:TE):TI:=fun σ H R=>tl σ H fun x H1=>∃a,x=.ref a/\(∃xs,SqT K H1 a xs)/\R (Itt K a) H1
theorem zlH {l:Expr}{tl:TE}(hl:PE X l tl):PI X tg l (zpc X.K tl):=by
 intro pins s σ H R I h;refine thn (hl pins s σ H _ I h) fun v s1 ⟨x,H1,I1,r1,q1⟩ =>?_
 obtain⟨a,e,⟨xs,hq⟩,q⟩:=q1;subst e;cases r1;obtain⟨its,rv,p,hz⟩:=I1.list hq;refine wpAny_pyIter_list p.isList ?_;refine⟨s1.heap.objs.size,[s1.heap.objs.size],_,_,H1,rfl,I1.kept (t':=s1.toks) fun b o e=>Heap.get?_push_of_some _ e,zih a _,⟨_,Heap.get?_push_size _ rfl,rfl,rfl⟩,fun b hb=>?_,q⟩;have e:b=s1.heap.objs.size:=by simpa using hb
 subst e;exact I1.fpOk (Nat.le_refl _) (I1.hok.fresh (Nat.le_refl _))
theorem znG {l:Expr}{tl:TE}(hl:PE X l tl):PI X tg l (iTup X.K tl):=by
 intro pins s σ H R I h;refine thn (hl pins s σ H _ I h) fun v s1 ⟨x,H1,I1,r1,q1⟩ =>?_
 obtain⟨a,e,⟨xs,hq⟩,q⟩:=q1;subst e;cases r1;obtain⟨its,rv,p,hz⟩:=I1.tuple hq;refine wpAny_pyIter_tuple (show s1.heap.IsTuple a its.toArray from p) ?_;refine⟨s1.heap.objs.size,[s1.heap.objs.size],_,_,H1,rfl,I1.kept (t':=s1.toks) fun b o e=>Heap.get?_push_of_some _ e,zhF a _,⟨_,Heap.get?_push_size _ rfl,rfl,rfl⟩,fun b hb=>?_,q⟩;have e:b=s1.heap.objs.size:=by simpa using hb
 subst e;exact I1.fpOk (Nat.le_refl _) (I1.hok.fresh (Nat.le_refl _))
theorem zjY {pins:List (Addr×Obj)}{σ:St}{H:Hp}{s:Shared}{R:It->Hp->Prop}{E:Value->Shared->Prop}{lo hi:Int}{t u v:Tok}{tk:Nat}(I:Inv X pins σ H s)(h1:-(2 ^ 62)<=lo)(h2:lo<2 ^ 62)(h3:-(2 ^ 62)<=hi)(h4:hi<2 ^ 62)
 (q:R (Itr lo (hi - lo).toNat) H):wpAny (model X.prog X.w) X.A (pyIter (.ref s.heap.objs.size)) (PIE X pins σ tg R) E {s with heap:=s.heap.push {cls:=.type "range",data:=.fields #[.int lo t,.int hi u,.int 1 v]},toks:=tk}:=by
 refine wpAny_pyIter_range (IsRange.new ..) (small_one h1 h2 h3 h4) ?_;have I1:Inv X pins σ H {s with heap:=s.heap.push {cls:=.type "range",data:=.fields #[.int lo t,.int hi u,.int 1 v]},toks:=tk}:=I.kept fun b o e=>Heap.get?_push_of_some _ e
 refine⟨(s.heap.push {cls:=.type "range",data:=.fields #[.int lo t,.int hi u,.int 1 v]}).objs.size,[(s.heap.push {cls:=.type "range",data:=.fields #[.int lo t,.int hi u,.int 1 v]}).objs.size],_,_,H,rfl,
  I1.kept (t':=tk) fun b o e=>Heap.get?_push_of_some _ e,zhG _ lo (hi - lo).toNat,?_,fun b hb=>?_,q⟩
 ·have e1:lo+((0:Nat):Int)*1=lo:=by simp
  have e2:(((hi - lo).toNat:Nat):Int) - ((0:Nat):Int)=Builtin.Range.rangeSize lo hi 1:=by rw[rangeSize_one];split <;> omega
  show IsRangeIter _ _ (lo+((0:Nat):Int)*1) ((((hi - lo).toNat:Nat):Int) - ((0:Nat):Int)) 1
  rw[e1,e2];exact Heap.get?_push_size _ rfl
 ·have e:b=(s.heap.push {cls:=.type "range",data:=.fields #[.int lo t,.int hi u,.int 1 v]}).objs.size:=by simpa using hb
  subst e;exact I1.fpOk (Nat.le_refl _) (I1.hok.fresh (Nat.le_refl _))
def zpd (ta:TA):TI:=fun σ H R=>ta σ H fun vs H1=>∃j:Int,vs = [.int j]/\-(2 ^ 62)<=j/\j<2 ^ 62/\R (Itr 0 j.toNat) H1
theorem zfH {a:Expr}{ta:TA}{p pos:Pos}(hg:Gl X "range")(hm:X.mg "range"=none)(ha:PA X [a] ta)(hs:starEach [a] X.env = [(false,eval a X.env)]:=by rfl):PI X tg (.Call (.Name "range" p) [a] [] pos) (zpd ta):=by
 intro pins s σ H R I h;refine Call_ (zc4 I hg hm boot_range (PyProof.Rows.callWith_type1 (thn (ha pos pins s σ H _ I h) fun us s1 ⟨vs,H1,I1,r1,q1⟩ =>?_) hs rfl));obtain⟨j,e,q1,q2,q⟩:=q1;subst e;cases r1 with
 | cons r rr=>
   cases rr;obtain⟨t,rfl⟩:=r;exact call_range_1 (zjY I1 (by omega) (by omega) q1 q2 (by simpa using q))
def tFor (wi:TI)(g:TG)(tb:TS):TS:=fun D σ H=>wi σ H fun J H1=>∃W:Nat->Nat->St->Hp->Prop,(∃m,W 0 m σ H1)/\∀i m σ H,W i m σ H->
 (J.stop i H/\D.nx σ H)\/(J.go i H/\∃N:St->Hp->Prop,(∀σ' H',N σ' H'->∃m',m'<m/\W (i+1) m' σ' H')/\∀x H',J.yld i H x H'->g x σ H' fun σ2 H2=>tb {D with nx:=N,ct:=N,bk:=D.nx} σ2 H2)
def zeV (fp:List Addr)(h:Heap):List (Addr×Obj):=fp.filterMap fun b=>(h.get? b).map fun o=>(b,o)
theorem zbD {fp:List Addr}{h:Heap}{b:Addr}{o:Obj}(hb:b∈fp)(e:h.get? b=some o):(b,o)∈zeV fp h:=List.mem_filterMap.mpr ⟨b,hb,by rw[e];rfl⟩
theorem zii {fp:List Addr}{h:Heap}{p:Addr×Obj}(hp:p∈zeV fp h):p.1∈fp/\h.get? p.1=some p.2:=by
 obtain⟨b,hb,e⟩:=List.mem_filterMap.mp hp;cases q:h.get? b with
 | none=>rw[q] at e;cases e
 | some o=>
   rw[q] at e;have e':(b,o)=p:=Option.some.inj e
   subst e';exact⟨hb,q⟩
theorem Inv.pinned {pins:List (Addr×Obj)}{σ:St}{H:Hp}{s:Shared}{fp:List Addr}(I:Inv X pins σ H s)(hf:∀b∈fp,FpOk X pins H b)(ho:∀b∈fp,∃o,s.heap.get? b=some o/\∀v,o.data≠.cell v):Inv X (pins++zeV fp s.heap) σ H s:=
 I.pins_of fun p hp=>(List.mem_append.mp hp).elim (fun z=>I.pin p (List.mem_append_right _ z)) fun z=>by
  obtain⟨hb,e⟩:=zii z;obtain⟨f0,f1,f2,_⟩:=hf p.1 hb;obtain⟨o,e',d⟩:=ho p.1 hb;rw[e] at e';cases e';exact⟨e,f0,f1,f2,d⟩
theorem Inv.unpinned {pins pl:List (Addr×Obj)}{σ:St}{H:Hp}{s:Shared}(I:Inv X (pins++pl) σ H s):Inv X pins σ H s:=I.pins_of fun p hp=>I.pin p (List.mem_append_right _ (List.mem_append_left _ hp))
theorem zk1 {iter:Expr}{body:List Stmt}{wi:TI}{g:TG}{tb:TS}{pos:Pos}(hp:PassesOwn (model X.prog X.w) X.A X.env X.xe)(hc:X.calm=true)(hi:PI X tg iter wi)(hg:PG X tg g)(hb:PSs X body tb)
 (hs:∀x,foldedSetIterable iter X.env x=pure x:=by intro _;rfl):PS X (.For tg iter body [] pos) (tFor wi g tb):=by
 intro pins s σ H D I h;refine wpAny_For (thn (hi pins s σ H _ I h) fun v s1 h1=>thn h1 fun itv s2 h2=>?_) hs;obtain⟨it,fp,tn,J,H2,e,I2,T,st2,f2,W,⟨m0,w0⟩,turn⟩:=h2;subst e;have stat:∀{H':Hp},(∀b∈fp,H' b=none)->∀b∈fp,FpOk X pins H' b:=fun hn b hb=>⟨hn b hb,(f2 b hb).2⟩
 refine codeAny_forLoop_any (fun n s'=>∃i σ' H',Inv X pins σ' H' s'/\tn i s'.heap/\(∀b∈fp,H' b=none)/\W i n σ' H') ?_ m0 ⟨0,σ,H2,I2,st2,fun b hb=>(f2 b hb).1,w0⟩;rintro n s3 ⟨i,σ3,H3,I3,st3,fr3,w3⟩;rcases turn i n σ3 H3 w3 with⟨stop,qn⟩ | ⟨go,N,hN,step⟩
 ·refine wpAny_passesOwn hp (thn (T.done X rfl rfl rfl hc i pins s3 σ3 H3 X.xe I3 (stat fr3) st3 stop) fun r s4 ⟨hr,I4⟩ =>?_);subst hr;exact wpAny_execs_nil ⟨σ3,H3,I4,qn⟩
 ·refine wpAny_passesOwn hp (thn (T.item X rfl rfl rfl hc i pins s3 σ3 H3 X.xe I3 (stat fr3) st3 go) fun r s4 ⟨u,hr,h4⟩ =>?_);subst hr;refine wpAny_passesOwn hp (thn h4 fun _ s5 ⟨x,H5,I5,r5,y5,st5,fr5⟩ =>?_);have I5':=I5.pinned (stat fr5) (T.obj _ _ st5)
  refine wpAny_passesOwn hp (thn (hg _ s5 σ3 H5 x u _ I5' r5 (step x H5 y5)) fun _ s6 ⟨σ6,H6,I6,q6⟩ =>?_);refine wpAny_passesOwn hp (thn (hb _ s6 σ6 H6 _ I6 q6) fun f s7 q7=>?_);have again:∀{σ7:St}{H7:Hp},Inv X (pins++zeV fp s5.heap) σ7 H7 s7->N σ7 H7->∃m,m<n/\∃i σ' H',Inv X pins σ' H' s7/\tn i s7.heap/\(∀b∈fp,H' b=none)/\W i m σ' H':=fun {σ7 H7} I7 n7=>by
   obtain⟨m',hm,w7⟩:=hN σ7 H7 n7;refine⟨m',hm,i+1,σ7,H7,I7.unpinned,T.keep _ _ _ st5 fun b hb o e=>(I7.pin (b,o) (List.mem_append_right _ (List.mem_append_right _ (zbD hb e)))).1,fun b hb=>?_,w7⟩;obtain⟨o,e,d⟩:=T.obj _ _ st5 b hb;exact(I7.pin (b,o) (List.mem_append_right _ (List.mem_append_right _ (zbD hb e)))).2.1
  cases f with
  | next=>obtain⟨σ7,H7,I7,n7⟩:=q7;exact again I7 n7
  | cont=>obtain⟨σ7,H7,I7,n7⟩:=q7;exact again I7 n7
  | brk=>obtain⟨σ7,H7,I7,q7⟩:=q7;exact⟨σ7,H7,I7.unpinned,q7⟩
  | ret v=>obtain⟨x7,σ7,H7,I7,r7,q7⟩:=q7;exact⟨x7,σ7,H7,I7.unpinned,r7,q7⟩
end
abbrev R2:=V->V->Hp->VK->Prop
def OpR (X:Cx)(f:Value->Value->Sem Value)(r:R2):Prop:=
 ∀(pins:List (Addr×Obj)) (s:Shared) (σ:St) (H:Hp) (x y:V) (v u:Value) (Q:VK),Inv X pins σ H s->RelV x v->RelV y u->r x y H Q->
  wpAny (model X.prog X.w) X.A (f v u) (EP X pins σ Q) X.xe s
def UnR (X:Cx)(f:Value->Sem Value)(r:V->Hp->VK->Prop):Prop:=
 ∀(pins:List (Addr×Obj)) (s:Shared) (σ:St) (H:Hp) (x:V) (v:Value) (Q:VK),Inv X pins σ H s->RelV x v->r x H Q->
  wpAny (model X.prog X.w) X.A (f v) (EP X pins σ Q) X.xe s
def zb7 (X:Cx)(f:Value)(r:List V->Hp->VK->Prop):Prop:=
 ∀(pins:List (Addr×Obj)) (s:Shared) (σ:St) (H:Hp) (xs:List V) (us:List Value) (Q:VK),Inv X pins σ H s->Vals xs us->r xs H Q->
  wpAny (model X.prog X.w) X.A (call f us) (EP X pins σ Q) X.xe s
def TruR (X:Cx)(r:V->Hp->(Bool->Hp->Prop)->Prop):Prop:=
 ∀(pins:List (Addr×Obj)) (s:Shared) (σ:St) (H:Hp) (x:V) (v:Value) (Q:Bool->Hp->Prop),Inv X pins σ H s->RelV x v->r x H Q->
  wpAny (model X.prog X.w) X.A (truthy v) (TP X pins σ Q) X.xe s
def tOp (r:R2)(ta tb:TE):TE:=fun σ H Q=>ta σ H fun x H1=>tb σ H1 fun y H2=>r x y H2 Q
def tUn (r:V->Hp->VK->Prop)(ta:TE):TE:=fun σ H Q=>ta σ H fun x H1=>r x H1 Q
def rI (C:Int->Int->Prop)(g:Int->Int->V):R2:=fun x y H Q=>∃i j,x=.int i/\y=.int j/\C i j/\Q (g i j) H
def rI0 (g:Int->Int->V):R2:=fun x y H Q=>∃i j,x=.int i/\y=.int j/\Q (g i j) H
def rU (g:Int->V):V->Hp->VK->Prop:=fun x H Q=>∃i,x=.int i/\Q (g i) H
section
variable {X:Cx}{a b c:Expr}{ta tb tc:TE}{pos:Pos}
theorem binT (ha:PE X a ta)(hb:PE X b tb){pins:List (Addr×Obj)}{s:Shared}{σ:St}{H:Hp}{R:V->V->Hp->Prop}(I:Inv X pins σ H s)
 (h:ta σ H fun x H1=>tb σ H1 fun y H2=>R x y H2) {Q:Value->Shared->Prop}{f:Value->Value->Sem Value}
 (hf:∀v u s2 x y H2,Inv X pins σ H2 s2->RelV x v->RelV y u->R x y H2->wpAny (model X.prog X.w) X.A (f v u) Q X.xe s2) :
 wpAny (model X.prog X.w) X.A (eval a X.env) (fun v s₁=>wpAny (model X.prog X.w) X.A (eval b X.env) (fun u s₂=>wpAny (model X.prog X.w) X.A (f v u) Q X.xe s₂) X.xe s₁) X.xe s:=by
 refine thn (ha pins s σ H _ I h) fun v s1 ⟨x,H1,I1,r1,q1⟩ =>?_
 refine thn (hb pins s1 σ H1 _ I1 q1) fun u s2 ⟨y,H2,I2,r2,q2⟩ =>?_
 exact hf v u s2 x y H2 I2 r1 r2 q2
theorem znH {op:Operator}{r:R2}(ho:OpR X (binaryOp op) r)(ha:PE X a ta)(hb:PE X b tb):PE X (.BinOp a op b pos) (tOp r ta tb):=by
 intro pins s σ H Q I h;exact wpAny_BinOp (binT ha hb I h fun v u s2 x y H2 I2 rx ry q=>ho pins s2 σ H2 x y v u Q I2 rx ry q)
theorem zpe {op:UnaryOp}{r:V->Hp->VK->Prop}(ho:UnR X (unaryOp op) r)(ha:PE X a ta):PE X (.UnaryOp op a pos) (tUn r ta):=by
 intro pins s σ H Q I h;exact UnaryOp_ (thn (ha pins s σ H _ I h) fun v s1 ⟨x,H1,I1,r1,q1⟩ =>ho pins s1 σ H1 x v Q I1 r1 q1)
theorem opI {f:Value->Value->Sem Value}{C:Int->Int->Prop}{g:Int->Int->Int}
 (rule:∀(i j:Int) (t u:Tok) (s:Shared) (Q:Value->Shared->Prop) (E:Value->Shared->Prop),C i j->Q (.int (g i j) s.toks) {s with toks:=s.toks+1}->wpAny (model X.prog X.w) X.A (f (.int i t) (.int j u)) Q E s) :
 OpR X f (rI C fun i j=>.int (g i j)):=by
 intro pins s σ H x y v u Q I rx ry h;obtain⟨i,j,rfl,rfl,hc,q⟩:=h;obtain⟨t,rfl⟩:=rx;obtain⟨t',rfl⟩:=ry;exact rule i j t t' s _ _ hc ⟨.int (g i j),H,I.tok _,⟨_,rfl⟩,q⟩
theorem opI0 {f:Value->Value->Sem Value}{g:Int->Int->Int}
 (rule:∀(i j:Int) (t u:Tok) (s:Shared) (Q:Value->Shared->Prop) (E:Value->Shared->Prop),Q (.int (g i j) s.toks) {s with toks:=s.toks+1}->wpAny (model X.prog X.w) X.A (f (.int i t) (.int j u)) Q E s) :
 OpR X f (rI0 fun i j=>.int (g i j)):=by
 intro pins s σ H x y v u Q I rx ry h;obtain⟨i,j,rfl,rfl,q⟩:=h;obtain⟨t,rfl⟩:=rx;obtain⟨t',rfl⟩:=ry;exact rule i j t t' s _ _ ⟨.int (g i j),H,I.tok _,⟨_,rfl⟩,q⟩
theorem opB0 {f:Value->Value->Sem Value}{g:Int->Int->Bool}
 (rule:∀(i j:Int) (t u:Tok) (s:Shared) (Q:Value->Shared->Prop) (E:Value->Shared->Prop),Q (.bool (g i j)) s->wpAny (model X.prog X.w) X.A (f (.int i t) (.int j u)) Q E s) :
 OpR X f (rI0 fun i j=>.bl (g i j)):=by
 intro pins s σ H x y v u Q I rx ry h;obtain⟨i,j,rfl,rfl,q⟩:=h;obtain⟨t,rfl⟩:=rx;obtain⟨t',rfl⟩:=ry;exact rule i j t t' s _ _ ⟨.bl (g i j),H,I,rfl,q⟩
def CDiv (i j:Int):Prop:=0<j/\j<1073741824
def CPow (i j:Int):Prop:=0<=j/\j<=1000000/\i.natAbs<2 ^ 64
def CMul (i j:Int):Prop:=(-(2 ^ 64)<i/\i<2 ^ 64)\/(-(2 ^ 64)<j/\j<2 ^ 64)
theorem CMul.ok {i j:Int}(h:CMul i j):IntMulOk i j:=by
 rcases h with⟨h1,h2⟩ | ⟨h1,h2⟩
 ·exact .of_left (intBits_le_64 h1 h2)
 ·exact .of_right (intBits_le_64 h1 h2)
theorem op_add:OpR X (binaryOp .Add) (rI0 fun i j=>.int (i+j)):=opI0 fun _ _ _ _ _ _ _ q=>add_int q
theorem zgY:OpR X (binaryOp .Sub) (rI0 fun i j=>.int (i - j)):=opI0 fun _ _ _ _ _ _ _ q=>sub_int q
theorem op_mul:OpR X (binaryOp .Mult) (rI CMul fun i j=>.int (i*j)):=opI fun _ _ _ _ _ _ _ hc q=>mul_int q hc.ok
theorem zlI:OpR X (binaryOp .FloorDiv) (rI CDiv fun i j=>.int (i / j)):=opI fun i j _ _ _ _ _ hc q=>by
 have h1:(0:Int)<j:=hc.1
 have h2:j<1073741824:=hc.2
 exact floordiv_int (by omega) (by rw[Int.fdiv_eq_ediv_of_nonneg i (by omega)];exact q) (.inl (PyProof.noPylong_small (by omega)))
theorem zc5:OpR X (binaryOp .Mod) (rI (fun _ j=>0<j) fun i j=>.int (i % j)):=opI fun i j _ _ _ _ _ hc q=>by
 have h1:(0:Int)<j:=hc
 exact mod_int' (by omega) (by rw[Int.fmod_eq_emod_of_nonneg i (by omega)];exact q)
theorem zk2:OpR X (binaryOp .Pow) (rI CPow fun i j=>.int (i ^ j.toNat)):=opI fun _ _ _ _ _ _ _ hc q=>pow_int_small hc.1 hc.2.1 hc.2.2 q
theorem unI {f:Value->Sem Value}{g:Int->Int}
 (rule:∀(i:Int) (t:Tok) (s:Shared) (Q:Value->Shared->Prop) (E:Value->Shared->Prop),Q (.int (g i) s.toks) {s with toks:=s.toks+1}->wpAny (model X.prog X.w) X.A (f (.int i t)) Q E s) :
 UnR X f (rU fun i=>.int (g i)):=by
 intro pins s σ H x v Q I rx h;obtain⟨i,rfl,q⟩:=h;obtain⟨t,rfl⟩:=rx;exact rule i t s _ _ ⟨.int (g i),H,I.tok _,⟨_,rfl⟩,q⟩
theorem znI:UnR X (unaryOp .USub) (rU fun i=>.int (-i)):=unI fun _ _ _ _ _ q=>neg_int q
end
theorem zff {i j:Int}:decide (V.int i=V.int j)=(i == j):=by
 rw[Bool.eq_iff_iff];simp
theorem zgZ {i j:Bool}:decide (V.bl i=V.bl j)=(i == j):=by
 rw[Bool.eq_iff_iff];simp
theorem zfg {i j:Str}:decide (V.str i=V.str j)=(i == j):=by
 rw[Bool.eq_iff_iff];simp
section
variable {X:Cx}{a b c:Expr}{ta tb tc:TE}{pos:Pos}
theorem znJ {pins:List (Addr×Obj)}{σ:St}{H:Hp}{s:Shared}{Q:VK}{k k':Bool}(I:Inv X pins σ H s)(q:Q (.bl k) H)(e:k=k'):EP X pins σ Q (.bool k') s:=by
 subst e;exact⟨.bl k,H,I,rfl,q⟩
theorem znK:OpR X (compareOp .Lt) (rI0 fun i j=>.bl (decide (i<j))):=opB0 fun _ _ _ _ _ _ _ q=>lt_int q
theorem zpf:OpR X (compareOp .Gt) (rI0 fun i j=>.bl (decide (j<i))):=opB0 fun _ _ _ _ _ _ _ q=>gt_int q
theorem zpg:OpR X (compareOp .GtE) (rI0 fun i j=>.bl (decide (j<=i))):=opB0 fun _ _ _ _ _ _ _ q=>ge_int q
theorem zij:OpR X (compareOp .IsNot) (fun x y H Q=>y=.non/\Q (.bl (!decide (x=.non))) H):=by
 intro pins s σ H x y v u Q I rx ry h;obtain⟨rfl,q⟩:=h;cases ry;refine isnot_none_gen (znJ I q ?_);cases x <;> first
  | (cases rx;rfl)
  | (obtain⟨t,rfl⟩:=rx;rfl)
theorem OpR.or {f:Value->Value->Sem Value}{r r':R2}(h:OpR X f r)(h':OpR X f r'):OpR X f (fun x y H Q=>r x y H Q\/r' x y H Q):=by
 intro pins s σ H x y v u Q I rx ry q;rcases q with q | q
 ·exact h pins s σ H x y v u Q I rx ry q
 ·exact h' pins s σ H x y v u Q I rx ry q
theorem zaV (b:Expr){op:CmpOp}(h:op≠.In:=by decide)(h2:op≠.NotIn:=by decide):behindInMarks op b=false:=by
 have e1:(op == CmpOp.In)=false:=by cases op <;> first | rfl | exact absurd rfl h
 have e2:(op == CmpOp.NotIn)=false:=by cases op <;> first | rfl | exact absurd rfl h2
 cases b <;> simp[behindInMarks,e1,e2]
theorem zlJ {op:CmpOp}{r:R2}(ho:OpR X (compareOp op) r)(ha:PE X a ta)(hb:PE X b tb)(hm:behindInMarks op b=false):PE X (.Compare a [op] [b] pos) (tOp r ta tb):=by
 intro pins s σ H Q I h;exact wpAny_Compare1 (binT ha hb I h fun v u s2 x y H2 I2 rx ry q=>ho pins s2 σ H2 x y v u Q I2 rx ry q) hm
def znL (t:TE):TT:=fun σ H Q=>t σ H fun x H'=>∃k,x=.bl k/\Q k H'
theorem zlK {op:CmpOp}{r:R2}(ho:OpR X (compareOp op) r)(ha:PE X a ta)(hb:PE X b tb)(hm:behindInMarks op b=false):PT X (.Compare a [op] [b] pos) (znL (tOp r ta tb)):=by
 intro pins s σ H Q I h;refine wpAny_isTrue_Compare1 (thn (ha pins s σ H _ I h) fun v s1 ⟨x,H1,I1,r1,q1⟩ =>thn (hb pins s1 σ H1 _ I1 q1) fun u s2 ⟨y,H2,I2,r2,q2⟩ =>
  thn (ho pins s2 σ H2 x y v u _ I2 r1 r2 q2) fun c s3 ⟨z,H3,I3,r3,k,e,q3⟩ =>?_) hm
 subst e;cases r3;exact wpAny_truthy_bool ⟨H3,I3,q3⟩
def TruV (K:W.Frag)(x:V)(H:Hp)(k:Bool):Prop:=
 match x with
 | .non=>k=false
 | .bl b=>k=b
 | .int i=>k=(i != 0)
 | .str y=>y.length<=sizeLine/\k=((y.length:Int) != 0)
 | .byt y=>y.size<=sizeLine/\k=((y.size:Int) != 0)
 | .ref p=>(∃xs,SqL K H p xs/\k = !xs.isEmpty)\/(∃xs,SqT K H p xs/\k = !xs.isEmpty)\/∃kvs,H p=some (.dK kvs)/\k = !kvs.isEmpty
 | _=>False
theorem zhH {κ:Type}{kvs:List (κ×V)}{vs:List (κ×Value)}(r:KV kvs vs):(!vs.isEmpty) = !kvs.isEmpty:=by
 cases r <;> rfl
theorem zeW {xs:List V}{its:List Value}(r:Vals xs its):(!its.toArray.isEmpty) = !xs.isEmpty:=by
 cases r <;> simp
theorem zee:(sizeLine:Nat)<2 ^ 63:=by rw[sizeLine_eq];decide
theorem znM:TruR X (fun x H Q=>∃k,TruV X.K x H k/\Q k H):=by
 intro pins s σ H x v Q I rx h;obtain⟨k,e,q⟩:=h;have hl:=zee
 have hs:sizeLine=16777216:=sizeLine_eq
 cases x with
 | non=>
   cases rx;have e':k=false:=e
   subst e';exact truthy_none ⟨H,I,q⟩
 | bl b=>
   cases rx;have e':k=b:=e
   subst e';exact wpAny_truthy_bool ⟨H,I,q⟩
 | int i=>
   obtain⟨t,rfl⟩:=rx;have e':k=(i != 0):=e
   subst e';exact PySem.P.truthy_int ⟨H,I,q⟩
 | str y=>
   obtain⟨t,rfl⟩:=rx;obtain⟨hy,e'⟩:y.length<=sizeLine/\k=((y.length:Int) != 0):=e;subst e';exact PySem.P.truthy_str (by omega) ⟨H,I.tok _,q⟩
 | byt y=>
   obtain⟨t,rfl⟩:=rx;obtain⟨hy,e'⟩:y.size<=sizeLine/\k=((y.size:Int) != 0):=e;subst e';exact PySem.W.truthy_bytes (by omega) ⟨H,I.tok _,q⟩
 | ref p=>
   cases rx;have e':(∃xs,SqL X.K H p xs/\k = !xs.isEmpty)\/(∃xs,SqT X.K H p xs/\k = !xs.isEmpty)\/∃kvs,H p=some (.dK kvs)/\k = !kvs.isEmpty:=e
   rcases e' with⟨xs,hx,e'⟩ | ⟨xs,hx,e'⟩ | ⟨kvs,hx,e'⟩
   ·subst e';obtain⟨its,r,pl,hz⟩:=I.list hx;have hlen:=r.length
    exact wpAny_truthy_list pl.isList (by simp only[List.size_toArray];omega) ⟨H,I.tok _,by rw[zeW r];exact q⟩
   ·subst e';obtain⟨its,r,pl,hz⟩:=I.tuple hx;have hlen:=r.length
    exact truthy_tuple pl (by simp only[List.size_toArray];omega) ⟨H,I.tok _,by rw[zeW r];exact q⟩
   ·subst e';obtain⟨hz,hS,vs,r,m⟩:kvs.length<=sizeLine/\(p == sysModules)=false/\∃vs,KV kvs vs/\s.heap.DictOf (zbF X.prog X.w) p vs:=I.hok p _ hx;have hlen:kvs.length=vs.length:=Paired.length r
    exact wpAny_truthy_dict hS m (by omega) ⟨H,I.tok _,by rw[zhH r];exact q⟩
 | _=>exact(show False from e).elim
theorem zjZ (ha:PE X a ta)(he:∀whole,isTrue a X.env whole=(do let v <-whole;standAt a.pos;holding [v] (truthy v))) :
 PT X a (fun σ H Q=>ta σ H fun x H'=>∃k,TruV X.K x H' k/\Q k H'):=by
 intro pins s σ H Q I h;exact isTrue_plain (thn (ha pins s σ H _ I h) fun v s1 ⟨x,H1,I1,r1,q1⟩ =>znM pins s1 σ H1 x v Q I1 r1 q1) (he _)
theorem op_add_str:OpR X (binaryOp .Add) (fun x y H Q=>∃i j,x=.str i/\y=.str j/\i.length+j.length<=sizeLine/\Q (.str (i++j)) H):=by
 intro pins s σ H x y v u Q I rx ry h;obtain⟨i,j,rfl,rfl,hz,q⟩:=h;obtain⟨t,rfl⟩:=rx;obtain⟨t',rfl⟩:=ry;exact add_str (fun t' tk=>⟨.str (i++j),H,I.tok _,⟨_,rfl⟩,q⟩) hz
theorem zfI {x:V}{us:List Value}(r:Vals [x] us):∃u,us = [u]/\RelV x u:=by
 cases r with
 | cons r1 r2=>cases r2;exact⟨_,rfl,r1⟩
theorem zj0 {x y:V}{us:List Value}(r:Vals [x,y] us):∃u w',us = [u,w']/\RelV x u/\RelV y w':=by
 cases r with
 | cons r1 r2=>
   cases r2 with
   | cons r3 r4=>cases r4;exact⟨_,_,rfl,r1,r3⟩
theorem zfJ (hc:X.calm=true):zb7 X (.builtin "max") (fun xs H Q=>∃i j,xs = [.int i,.int j]/\Q (.int (if j>i then j else i)) H):=by
 intro pins s σ H xs us Q I r h;obtain⟨i,j,rfl,q⟩:=h;obtain⟨u,w',rfl,⟨t,rfl⟩,⟨t',rfl⟩⟩:=zj0 r;refine max_two_ints (I.ok.hd hc) fun h' tk k=>⟨_,H,I.kept k,?_,q⟩
 by_cases hj:j>i
 ·rw[if_pos hj,if_pos hj];exact⟨_,rfl⟩
 ·rw[if_neg hj,if_neg hj];exact⟨_,rfl⟩
theorem zfK (hc:X.calm=true):zb7 X (.builtin "min") (fun xs H Q=>∃i j,xs = [.int i,.int j]/\Q (.int (if j<i then j else i)) H):=by
 intro pins s σ H xs us Q I r h;obtain⟨i,j,rfl,q⟩:=h;obtain⟨u,w',rfl,⟨t,rfl⟩,⟨t',rfl⟩⟩:=zj0 r;refine min_two_ints (I.ok.hd hc) fun h' tk k=>⟨_,H,I.kept k,?_,q⟩
 by_cases hj:j<i
 ·rw[if_pos hj,if_pos hj];exact⟨_,rfl⟩
 ·rw[if_neg hj,if_neg hj];exact⟨_,rfl⟩
def LenV (K:W.Frag)(x:V)(H:Hp)(n:Nat):Prop:=
 match x with
 | .str y=>y.length<=sizeLine/\n=y.length
 | .byt y=>y.size<=sizeLine/\n=y.size
 | .ref p=>(∃xs,SqL K H p xs/\n=xs.length)\/∃xs,SqT K H p xs/\n=xs.length
 | _=>False
theorem zg0:zb7 X (.builtin "len") (fun xs H Q=>∃x n,xs = [x]/\LenV X.K x H n/\Q (.int n) H):=by
 intro pins s σ H xs us Q I r h;obtain⟨x,n,rfl,e,q⟩:=h;obtain⟨u,rfl,rx⟩:=zfI r;have hl:=zee
 have hs:sizeLine=16777216:=sizeLine_eq
 cases x with
 | str y=>
   obtain⟨t,rfl⟩:=rx;obtain⟨hy,e'⟩:y.length<=sizeLine/\n=y.length:=e;subst e';exact len_str (by omega) ⟨.int _,H,I.tok _,⟨_,rfl⟩,q⟩
 | byt y=>
   obtain⟨t,rfl⟩:=rx;obtain⟨hy,e'⟩:y.size<=sizeLine/\n=y.size:=e;subst e';exact PySem.W.len_bytes (by omega) ⟨.int _,H,I.tok _,⟨_,rfl⟩,q⟩
 | ref p=>
   cases rx;have e':(∃xs,SqL X.K H p xs/\n=xs.length)\/∃xs,SqT X.K H p xs/\n=xs.length:=e
   rcases e' with⟨xs,hx,e'⟩ | ⟨xs,hx,e'⟩
   ·subst e';obtain⟨its,r',pl,hz⟩:=I.list hx;have hlen:=r'.length
    exact Calls.call_len_list pl.isList (by simp only[List.size_toArray];omega) ⟨.int xs.length,H,I.tok _,⟨_,by simp only[List.size_toArray];rw[hlen]⟩,q⟩
   ·subst e';obtain⟨its,r',pl,hz⟩:=I.tuple hx;have hlen:=r'.length
    exact len_tuple pl (by simp only[List.size_toArray];omega) ⟨.int xs.length,H,I.tok _,⟨_,by simp only[List.size_toArray];rw[hlen]⟩,q⟩
 | _=>exact(show False from e).elim
end
structure ObjM (h:Heap)(x dx C:Addr)(mA:Str->Option Value):Prop where
 obj:h.get? x=some (PySem.W.instObj C dx)
 ns:h.Ns1 dx mA
 ne:dx≠x
theorem zik {h:Heap}{dx:Addr}{mA:Str->Option Value}(n:h.Ns1 dx mA):∃od,h.get? dx=some od/\∀name,PySem.W.lookIn name od=some (mA name):=by
 obtain⟨o,es,ep,ho,hd,hk,_,hm⟩:=n;refine⟨o,ho,fun name=>?_⟩;have e:=hm name
 unfold nsFind findBy at e;rw[<-Array.find?_toList] at e;unfold PySem.W.lookIn;rw[hd];dsimp only;split
 ·rename_i y q
  rw[q] at e;exact congrArg some e
 ·rename_i q
  rw[q] at e;have a:es.toList.any (·.refKey)=false:=by
   rw[List.any_eq_false];intro y hy;obtain⟨z,t,hkey⟩:=hk y (Array.mem_toList_iff.mp hy);simp[DictEntry.refKey,hkey]
  have a':¬es.toList.any (·.refKey)=true:=by rw[a];exact Bool.false_ne_true
  rw[if_neg a'];exact congrArg some e
theorem ObjM.look {h:Heap}{x dx C:Addr}{mA:Str->Option Value}(I:ObjM h x dx C mA):∃od,PySem.W.InstAt h x (PySem.W.instObj C dx) C (some od)/\∀name,PySem.W.lookIn name od=some (mA name):=
 let ⟨od,ho,hl⟩:=zik I.ns
 ⟨od,⟨I.obj,rfl,rfl,ho⟩,hl⟩
section
variable {prog:Program}{w:World}{A:Around}{E:Value->Shared->Prop}{s:Shared}{K:W.Frag}{x dx C f:Addr}{mA:Str->Option Value}{name:Str}{v:Value}
end
section
variable {P:Program}{w:World}{H H':Hp}{h h':Heap}{a C dx:Addr}{fs fs':List (Str×V)}
theorem zlL (hok:HOk P w H h)(e:H a=some (.ins C dx fs)):∃mA,ObjM h a dx C mA/\(∀f,RelO (fs.lookup f) (mA f))/\PySem.Within mA (fs.map (·.1))/\fs.length<=1000/\H dx=some (.own a):=by
 obtain⟨d,z,ne,ob,mA,n,r,q⟩:=(show ObjOk P w H h a (.ins C dx fs) from hok a _ e)
 exact⟨mA,⟨ob,n,ne⟩,r,q,z,d⟩
end
structure Cls (K:W.Frag)(C:Addr):Prop where
 pg:PySem.W.plainGet K C Str.empty=true
 hd:PySem.W.hasDictIn K C=true
 po:PySem.W.plainOver K C=true
 sa:PySem.W.findIn K (.ref C) "__setattr__"=some (some (.builtin "object.__setattr__"))
theorem Cls.get {K:W.Frag}{C:Addr}(c:Cls K C)(f:Str):PySem.W.plainGet K C f=true:=c.pg
section
variable {X:Cx}{pins:List (Addr×Obj)}{σ:St}{H:Hp}{s:Shared}{a C dx:Addr}{fs:List (Str×V)}{f:Str}{v:V}{A:Around}{E:Value->Shared->Prop}
end
section
variable {X:Cx}{o e value:Expr}{f:Str}{pos pos' tpos:Pos}{ta tv:TE}
end
section
variable {X:Cx}{pins:List (Addr×Obj)}{σ:St}{H:Hp}{s:Shared}{A:Around}{E:Value->Shared->Prop}{Q:Value->Shared->Prop}{c:Value}{b:Bool}
inductive TyOf (K:W.Frag)(H:Hp):V->Value->Prop where
 | non:TyOf K H .non (.type "NoneType")
 | bl (x:Bool):TyOf K H (.bl x) (.type "bool")
 | int (i:Int):TyOf K H (.int i) (.type "int")
 | str (x:Str):TyOf K H (.str x) (.type "str")
 | flt (x:UInt64):TyOf K H (.flt x) (.type "float")
 | lst {a:Addr}{xs:List V}(e:H a=some (.lst xs)):TyOf K H (.ref a) (.type "list")
 | frz {a:Addr}{o:Obj}{xs:List V}(e:H a=some (.frz o (.lst xs))):TyOf K H (.ref a) (.type "list")
 | tup {a:Addr}{xs:List V}(e:H a=some (.tup xs)):TyOf K H (.ref a) (.type "tuple")
 | dK {a:Addr}{kvs:List (Key×V)}(e:H a=some (.dK kvs)):TyOf K H (.ref a) (.type "dict")
 | dT {a:Addr}{kvs:List (List Key×V)}(e:H a=some (.dT kvs)):TyOf K H (.ref a) (.type "dict")
 | ins {a C dx:Addr}{fs:List (Str×V)}(e:H a=some (.ins C dx fs)) (cl:Cls K C) (ha:PySem.W.findIn K (.ref C) "__class__"=some (some (.builtin "object.__class__")))
  (hn:PySem.W.specialIn K (.builtin "object.__class__") "__get__"=some (some (.builtin "getset_descriptor.__get__"))) (htk:PySem.W.takesIn K (.builtin "object.__class__")=some true)
  (hm:PySem.W.mroIn K C (.type "object")=some true):TyOf K H (.ref a) (.ref C)
theorem zil {x:V}{u t:Value}(I:Inv X pins σ H s)(rx:RelV x u)(ty:TyOf X.K H x t)(e:PySem.W.kitOne X.K t c=some b)(h:∀tk,Q (.bool b) {s with toks:=tk}) :
 wpAny (model X.prog X.w) A (call (.builtin "isinstance") [u,c]) Q E s:=by
 cases ty with
 | non=>cases(show u=Value.none from rx);exact PySem.W.kia_one PySem.W.kitx_none I.kIn True.intro e (fun z=>nomatch z) h
 | bl y=>cases(show u=Value.bool y from rx);exact PySem.W.kia_one PySem.W.kitx_bool I.kIn True.intro e (fun z=>nomatch z) h
 | int i=>obtain⟨t,q⟩:=(show ∃t,u=Value.int i t from rx);cases q;exact PySem.W.kia_one PySem.W.kitx_int I.kIn True.intro e (fun z=>nomatch z) h
 | str y=>obtain⟨t,q⟩:=(show ∃t,u=Value.str y t from rx);cases q;exact PySem.W.kia_one PySem.W.kitx_str I.kIn True.intro e (fun z=>nomatch z) h
 | flt y=>obtain⟨t,q⟩:=(show ∃t,u=Value.float y t from rx);cases q;exact PySem.W.kia_one PySem.W.kitx_float I.kIn True.intro e (fun z=>nomatch z) h
 | @lst a xs ea=>
   cases(show u=Value.ref a from rx);obtain⟨_,_,n,_,h1⟩:=(show ObjOk X.prog X.w H s.heap a (.lst xs) from I.hok a _ ea)
   exact PySem.W.kia_one PySem.W.kitx_list I.kIn ⟨_,h1,rfl⟩ e (fun z=>nomatch z) h
 | @frz a ob xs ea=>
   cases(show u=Value.ref a from rx);obtain⟨_,_,_,n,_,h1⟩:=(show ObjOk X.prog X.w H s.heap a (.frz ob (.lst xs)) from I.hok a _ ea)
   exact PySem.W.kia_one PySem.W.kitx_list I.kIn ⟨_,h1,rfl⟩ e (fun z=>nomatch z) h
 | @tup a xs ea=>
   cases(show u=Value.ref a from rx);obtain⟨_,_,_,p⟩:=(show ObjOk X.prog X.w H s.heap a (.tup xs) from I.hok a _ ea)
   obtain⟨o,h1,h2,_⟩:=p;exact PySem.W.kia_one PySem.W.kitx_tuple I.kIn ⟨o,h1,h2⟩ e (fun z=>nomatch z) h
 | @dK a kvs ea=>
   cases(show u=Value.ref a from rx);obtain⟨_,_,vs,_,p⟩:=(show ObjOk X.prog X.w H s.heap a (.dK kvs) from I.hok a _ ea)
   obtain⟨o,es,ep,h1,h2,_⟩:=p;exact PySem.W.kia_one PySem.W.kitx_dict I.kIn ⟨o,h1,h2.1⟩ e (fun z=>nomatch z) h
 | @dT a kvs ea=>
   cases(show u=Value.ref a from rx);obtain⟨_,_,xs,_,o,es,ep,h1,h2,_⟩:=(show ObjOk X.prog X.w H s.heap a (.dT kvs) from I.hok a _ ea)
   exact PySem.W.kia_one PySem.W.kitx_dict I.kIn ⟨o,h1,h2.1⟩ e (fun z=>nomatch z) h
 | @ins a C dx fs ea cl ha hn htk hm=>
   cases(show u=Value.ref a from rx);obtain⟨mA,O,_⟩:=zlL I.hok ea;obtain⟨od,J,_⟩:=O.look;exact PySem.W.kia_one (PySem.W.kitx_own (cl.get _) cl.hd ha hn htk hm) I.kIn J e (fun z=>nomatch z) h
end
structure Room (k:Nat)(A:Around):Prop where
 hd:A.handled=none
 dp:A.depth+3*k+5<recursionLimit
 un:A.units+16*k+200<cLine
theorem Room.mono {j k:Nat}{A:Around}(r:Room k A)(h:j<=k):Room j A:=⟨r.hd,by have:=r.dp;omega,by have:=r.un;omega⟩
theorem Room.deeper {k:Nat}{A:Around}(r:Room (k+1) A)(env:Env):Room k (A.deeper env):=
 ⟨r.hd,by have:=r.dp;show A.depth+1+3*k+5<_;omega,by have:=r.un;show A.units+3+16*k+200<_;omega⟩
theorem Room.in1 {k:Nat}{A:Around}(r:Room (k+1) A):Room k A.in1:=
 ⟨r.hd,by have:=r.dp;show A.depth+3*k+5<_;omega,by have:=r.un;show A.units+1+16*k+200<_;omega⟩
theorem Room.depth {k:Nat}{A:Around}(r:Room k A):A.depth<recursionLimit:=by have:=r.dp;omega
theorem Room.units {k:Nat}{A:Around}(r:Room k A):A.units+64<cLine:=by have:=r.un;omega
def tNil:TA:=fun _ H Q=>Q [] H
def znN (ta:TE)(tr:TA):TA:=fun σ H Q=>ta σ H fun x H1=>tr σ H1 fun xs H2=>Q (x::xs) H2
section
variable {X:Cx}{e:Expr}{es:List Expr}{te:TE}{t:TA}{pos:Pos}
theorem zco:PA X [] tNil:=fun _ _ _ _ H Q I h=>Calls.spliced_nil ⟨[],H,I,.nil,h⟩
theorem zbb (ha:PE X e te)(hr:PA X es t)(hs:starEach (e::es) X.env=(false,eval e X.env)::starEach es X.env:=by rfl):PA X (e::es) (znN te t):=by
 intro pos pins s σ H Q I h;rw[hs];show wpAny _ _ (spliced ((false,eval e X.env)::backTo pos (starEach es X.env))) _ _ s
 refine Calls.spliced_cons (thn (ha pins s σ H _ I h) fun u s1 ⟨x,H1,I1,r1,q1⟩ =>?_);exact thn (hr pos pins s1 σ H1 _ I1 q1) fun us s2 ⟨xs,H2,I2,r2,q2⟩ =>⟨x::xs,H2,I2,.cons r1 r2,q2⟩
def tTup (t:TA):TE:=fun σ H Q=>t σ H fun xs H1=>xs.length<=sizeLine/\∀p,H1 p=none->Q (.ref p) (upd H1 p (.tup xs))
def tLst (t:TA):TE:=fun σ H Q=>t σ H fun xs H1=>xs.length<=sizeLine/\∀p,H1 p=none->Q (.ref p) (upd H1 p (.lst xs))
theorem zk3 {x1}(h:PA X es t):PE X (.Tuple es x1 pos) (tTup t):=by
 intro pins s σ H Q I hq;refine wpAny_Tuple_spliced (thn (h pos pins s σ H _ I hq) fun us s1 ⟨xs,H1,I1,r,z,q⟩ =>⟨by rw[<-r.length];exact z,?_⟩);have hf:H1 s1.heap.objs.size=none:=I1.hok.fresh (Nat.le_refl _)
 refine⟨.ref s1.heap.objs.size,upd H1 s1.heap.objs.size (.tup xs),I1.laid (t':=s1.toks) (fun b u e=>Heap.get?_push_of_some _ e) (Nat.le_refl _) ?_,rfl,q _ hf⟩;exact⟨z,us,r,⟨_,Heap.get?_push_size _ rfl,rfl,_,rfl⟩⟩
theorem znO (h:PA X es t):PE X (.List es pos) (tLst t):=by
 intro pins s σ H Q I hq;refine wpAny_List_spliced (thn (h pos pins s σ H _ I hq) fun us s1 ⟨xs,H1,I1,r,z,q⟩ =>⟨by rw[<-r.length];exact z,?_⟩);have hf:H1 s1.heap.objs.size=none:=I1.hok.fresh (Nat.le_refl _)
 refine⟨.ref s1.heap.objs.size,upd H1 s1.heap.objs.size (.lst xs),I1.laid (t':=s1.toks) (fun b u e=>Heap.get?_push_of_some _ e) (Nat.le_refl _) ?_,rfl,q _ hf⟩;exact⟨z,us,0,r,Heap.get?_push_size _ rfl⟩
end
abbrev Sp:=List V->Hp->VK->XK->Prop
abbrev CXT:=List Env->Hp->Shared->XK->Value->Shared->Prop
structure Env0 (P:Program)(w:World)(K:W.Frag)(mg:Str->Option Value)(base:Heap)(A:Around)(outer:List Env)(s:Shared)(H:Hp):Prop where
 frames:A.frames=some outer
 mod:Mod K mg base
 bs:∀b o,base.get? b=some o->s.heap.get? b=some o/\H b=none
 bsz:base.objs.size<=s.heap.objs.size
 funs:s.heap.FunFrames base outer
 frf:∀b∈frs outer,H b=none
 hok:HOk P w H s.heap
 bare:AllBare s.gens
def CE (outer:List Env)(P:Program)(w:World)(H:Hp)(s:Shared)(Q:VK)(u:Value)(s':Shared):Prop:=
 ∃v H',s'.os=s.os/\AllBare s'.gens/\Un (frs outer) [] H H' s.heap s'.heap/\HOk P w H' s'.heap/\RelV v u/\Q v H'
def CR (CX:CXT)(outer:List Env)(P:Program)(w:World)(H:Hp)(s:Shared)(Q:VK)(E:XK)(r:Result)(s':Shared):Prop:=
 match r with
 | .ok (.ret u)=>CE outer P w H s Q u s'
 | .ok _=>False
 | .error e=>CX outer H s E e s'
structure FnOk (P:Program)(w:World)(K:W.Frag)(mg:Str->Option Value)(base:Heap)(CX:CXT)(k:Nat)(f:Addr)(fd:FuncData)(ps:List Str)(sp:Sp):Prop where
 len:∀vs H Q E,sp vs H Q E->vs.length=ps.length
 run:∀(A:Around) (outer:List Env) (s:Shared) (H:Hp) (args:Args) (us:List Value) (vs:List V) (Q:VK) (E:XK),Room k A->Env0 P w K mg base A outer s H->BindsTo s fd args (ps.zip us)->Vals vs us->sp vs H Q E->
  codeAny (model P w) A (.call (.ref f) args) (CR CX outer P w H s Q E) s
theorem FnOk.mono {P:Program}{w:World}{K:W.Frag}{mg:Str->Option Value}{base:Heap}{CX:CXT}{j k:Nat}{f:Addr}{fd:FuncData}{ps:List Str}{sp:Sp}(F:FnOk P w K mg base CX j f fd ps sp)(h:j<=k) :
 FnOk P w K mg base CX k f fd ps sp:=⟨F.len,fun A outer s H args us vs Q E hr=>F.run A outer s H args us vs Q E (hr.mono h)⟩
theorem Env0.in1 {P:Program}{w:World}{K:W.Frag}{mg:Str->Option Value}{base:Heap}{A:Around}{outer:List Env}{s:Shared}{H:Hp}(e:Env0 P w K mg base A outer s H) :
 Env0 P w K mg base A.in1 outer s H:=⟨e.frames,e.mod,e.bs,e.bsz,e.funs,e.frf,e.hok,e.bare⟩
section
variable {X:Cx}{pins:List (Addr×Obj)}{σ:St}{H:Hp}{s s':Shared}
theorem Inv.env0 (I:Inv X pins σ H s):Env0 X.prog X.w X.K X.mg X.base X.A X.stack s H:=
 ⟨I.ok.frames,I.ok.mod,I.bs,Nat.le_trans I.ok.bsz I.sz,I.stack,I.stkFree,I.hok,I.bare⟩
theorem Inv.after {Q:VK}{u:Value}(I:Inv X pins σ H s)(h:CE X.stack X.prog X.w H s Q u s'):EP X pins σ Q u s':=by
 obtain⟨v,H',os,bare,un,hok,r,q⟩:=h;obtain⟨hh,g,d,t,os'⟩:=s';obtain rfl:os'=s.os:=os;exact⟨v,H',I.call (h':=hh) (g':=g) (d':=d) (t':=t) (ch:=[]) un hok bare (fun b z=>absurd z (by simp)),r,q⟩
end
def zim (sp:Sp)(dvs:List V)(E:XK)(t:TA):TE:=fun σ H Q=>t σ H fun vs H1=>sp (vs++dvs) H1 Q E
def Binds (K:W.Frag)(fd:FuncData)(ps:List Str)(ds:List Value):Prop:=
 ∀(s:Shared) (us:List Value),K.In s.heap->(us++ds).length=ps.length->BindsTo s fd ⟨us,[]⟩ (ps.zip (us++ds))
theorem Binds.all {K:W.Frag}{fd:FuncData}{ps:List Str}(h:∀us:List Value,us.length=ps.length->bindArgs fd ⟨us,[]⟩=pure (ps.zip us)):Binds K fd ps []:=fun s us _ hl=>by
 rw[List.append_nil] at hl⊢;exact .of_eq (h us hl)
def zin (CX:CXT)(X:Cx)(E:XK):Prop:=∀(pins:List (Addr×Obj)) (σ:St) (H:Hp) (s:Shared) (e:Value) (s':Shared),Inv X pins σ H s->CX X.stack H s E e s'->X.xe e s'
section
variable {X:Cx}{CX:CXT}{k:Nat}{f C:Addr}{fd:FuncData}{ps:List Str}{sp:Sp}{dvs:List V}{ds:List Value}{E:XK}{x m:Str}{p pos apos:Pos}{e o:Expr}{es:List Expr}{ta:TE}{t:TA}
theorem zk4 {pins:List (Addr×Obj)}{σ:St}{H:Hp}{s:Shared}{Q:VK}{us:List Value}{vs:List V}(F:FnOk X.prog X.w X.K X.mg X.base CX k f fd ps sp)(hr:Room k X.A)(hb:Binds X.K fd ps ds)(hd:Vals dvs ds)(hx:zin CX X E)
 (I:Inv X pins σ H s) (r:Vals vs us) (h:sp (vs++dvs) H Q E):wpAny (model X.prog X.w) X.A (call (.ref f) us) (EP X pins σ Q) X.xe s:=by
 have r2:Vals (vs++dvs) (us++ds):=r.append hd
 have hl:(us++ds).length=ps.length:=by rw[<-r2.length];exact F.len _ _ _ _ h
 refine wpAny_call (codeAny_mono (F.run X.A X.stack s H ⟨us,[]⟩ (us++ds) (vs++dvs) Q E hr I.env0 (hb s us I.kIn hl) r2 h) fun r s' hq=>?_);cases r with
 | error e=>exact hx pins σ H s e s' I hq
 | ok fl=>
   cases fl with
   | ret u=>exact I.after hq
   | next=>exact False.elim hq
   | brk=>exact False.elim hq
   | cont=>exact False.elim hq
theorem zlM (F:FnOk X.prog X.w X.K X.mg X.base CX k f fd ps sp)(hr:Room k X.A)(hg:Gl X x)(hm:X.mg x=some (.ref f))(hk:W.keepIn X.K (.ref f)=true)(hb:Binds X.K fd ps ds)(hd:Vals dvs ds)(hx:zin CX X E)
 (ha:PA X (e::es) t) (hdb:(x == ("__debug__" : Str))=false:=by decide) (he:starEach (e::es) X.env=(false,eval e X.env)::starEach es X.env:=by rfl) (hpl:(backTo pos (starEach es X.env)).any (·.1)=false:=by rfl) :
 PE X (.Call (.Name x p) (e::es) [] pos) (zim sp dvs E t):=by
 intro pins s σ H Q I h;refine wpAny_Call_Name_kw (zgp I hg hm ?_ hdb);refine PySem.W.callWith_K (h₀:=X.base) I.ok.mod.kin hk (thn (ha pos pins s σ H _ I h) fun us s1 ⟨vs,H1,I1,r,q⟩ =>⟨I1.kIn,?_⟩) he hpl;exact zk4 F hr hb hd hx I1 r q
end
section
variable {X:Cx}{CX:CXT}{k:Nat}{f C:Addr}{fd:FuncData}{ps ks:List Str}{sp:Sp}{E:XK}{x m:Str}{p pos apos kpos:Pos}{e o:Expr}{es:List Expr}{kws:List Keyword}{te ta:TE}{t tk:TA}{nm:Option Str}
variable {g:List Value->List Value->List Value}{gV:List V->List V->List V}
end
structure FnScope (N P:List Str)(sc:Scope):Prop where
 kind:sc.kind=.function
 co:sc.isCoroutine=false
 gen:sc.isGenerator=false
 nd:N.Nodup
 pre:N.take P.length=P
 par:∀x∈P,sc.names.lookup x=some .local\/sc.names.lookup x=some .cell
 nofree:∀y∈sc.names,y.2≠.free
theorem zfL {kindOf:Str->Option NameKind}{x:Str}:∀{binds:List (Str×Value)}{m:Str->Option Value},(∀v,(x,v)∉binds)->bindL kindOf binds m x=m x
 | [],_,_=>rfl
 | (n,v)::r,m,h=>by
   unfold bindL;rw[zfL fun w hw=>h w (List.mem_cons_of_mem _ hw)];split
   ·have:x≠n:=by rintro rfl;exact h v List.mem_cons_self
    simp[this]
   ·rfl
theorem zfM {kindOf:Str->Option NameKind}{x:Str}:∀{binds:List (Str×Value)}{m:Str->Option Value},(∀v,(x,v)∉binds)->bindC kindOf binds m x=m x
 | [],_,_=>rfl
 | (n,v)::r,m,h=>by
   unfold bindC;rw[zfM fun w hw=>h w (List.mem_cons_of_mem _ hw)];split
   ·rfl
   ·have:x≠n:=by rintro rfl;exact h v List.mem_cons_self
    simp[this]
theorem zfN {kindOf:Str->Option NameKind}{x:Str}{v:Value}:∀{P:List Str}{vs:List Value}{i:Nat}{m:Str->Option Value},P.Nodup->P[i]?=some x->vs[i]?=some v->kindOf x=some .local->
 bindL kindOf (P.zip vs) m x=some v
 | [],_,_,_,_,h,_,_=>by simp at h
 | _::_,[],_,_,_,_,h,_=>by simp at h
 | p::P,w::vs,0,m,nd,h1,h2,hk=>by
   simp at h1 h2;subst h1;subst h2;show bindL kindOf ((p,w)::P.zip vs) m p=_
   unfold bindL;rw[zfL fun v hv=>(List.nodup_cons.mp nd).1 (List.of_mem_zip hv).1,if_pos hk];simp
 | p::P,w::vs,i+1,m,nd,h1,h2,hk=>by
   show bindL kindOf ((p,w)::P.zip vs) m x=_
   unfold bindL;exact zfN (i:=i) (List.nodup_cons.mp nd).2 (by simpa using h1) (by simpa using h2) hk
theorem zfO {kindOf:Str->Option NameKind}{x:Str}{v:Value}:∀{P:List Str}{vs:List Value}{i:Nat}{m:Str->Option Value},P.Nodup->P[i]?=some x->vs[i]?=some v->kindOf x≠some .local->
 bindC kindOf (P.zip vs) m x=some v
 | [],_,_,_,_,h,_,_=>by simp at h
 | _::_,[],_,_,_,_,h,_=>by simp at h
 | p::P,w::vs,0,m,nd,h1,h2,hk=>by
   simp at h1 h2;subst h1;subst h2;show bindC kindOf ((p,w)::P.zip vs) m p=_
   unfold bindC;rw[zfM fun v hv=>(List.nodup_cons.mp nd).1 (List.of_mem_zip hv).1,if_neg hk];simp
 | p::P,w::vs,i+1,m,nd,h1,h2,hk=>by
   show bindC kindOf ((p,w)::P.zip vs) m x=_
   unfold bindC;exact zfO (i:=i) (List.nodup_cons.mp nd).2 (by simpa using h1) (by simpa using h2) hk
def start (N:List Str)(vs:List V):St:=vs.map some++List.replicate (N.length - vs.length) none
def cxOf (CX:CXT)(P:Program)(w:World)(K:W.Frag)(mg:Str->Option Value)(base:Heap)(N:List Str)(qual:Str)(scope:Scope)(f:Addr)(cd:Value)(A:Around)(outer:List Env)(s:Shared)(H:Hp)(E:XK):Cx where
 prog:=P
 w:=w
 K:=K
 mg:=mg
 base:=base
 A:=A.deeper (envOfC qual scope s.heap.objs.size f cd)
 N:=N
 s₀:=s
 Hz:=H
 env:=envOfC qual scope s.heap.objs.size f cd
 outer:=outer
 stack:=envOfC qual scope s.heap.objs.size f cd::outer
 ex:=[]
 calm:=true
 fn:=fun _=>true
 pn:=[]
 xe:=fun e s'=>wpAny (model P w) (A.deeper (envOfC qual scope s.heap.objs.size f cd)) (leaving (envOfC qual scope s.heap.objs.size f cd) e) (fun _ s''=>CX outer H s E e s'') (fun e' s''=>CX outer H s E e' s'') s'
theorem zaW {sc:Scope}{n:Nat}{x:Str}(h:sc.names.lookup x=some .cell):∃c,(cellsFrom n sc.names []).lookup x=some c:=by
 have q:=PySem.W.cellsFrom_some sc.names n [] (.inl h)
 exact Option.isSome_iff_exists.mp q
theorem zfP {CX:CXT}{P:Program}{w:World}{K:W.Frag}{mg:Str->Option Value}{base:Heap}{N ps:List Str}{qual:Str}{scope:Scope}{f:Addr}{cd:Value}{A:Around}{outer:List Env}{s s1:Shared}{H:Hp}{E:XK}{us:List Value}{vs:List V}
 (S:FnScope N ps scope) (hd:A.handled=none) (e0:Env0 P w K mg base A outer s H) (hl:vs.length=ps.length) (r:Vals vs us)
 (x:InCallC s s.heap.objs.size (bindL (envOfC qual scope s.heap.objs.size f cd).kindOf (ps.zip us) fun _=>none) (cellsFrom (s.heap.objs.size+1) scope.names []) (bindC (envOfC qual scope s.heap.objs.size f cd).kindOf (ps.zip us) fun _=>none) s1) :
 Inv (cxOf CX P w K mg base N qual scope f cd A outer s H E) [] (start N vs) H s1:=by
 have hpl:ps.length<=N.length:=by have:=congrArg List.length S.pre;rw[List.length_take] at this;omega
 obtain⟨h1,tk,rfl,hk⟩:=x.done;have noA:∀b:Addr,b∉(cxOf CX P w K mg base N qual scope f cd A outer s H E).ex:=fun b z=>absurd (show b∈([]:List Addr) from z) (by simp)
 refine⟨⟨e0.mod,S.kind,rfl,rfl,Nat.le_refl _,fun y z c h1 h2=>?_,fun y hy=>?_,fun y c _ h=>?_,fun _=>hd,Around.frames_deeper e0.frames,.inr ⟨rfl,rfl⟩,fun b z=>absurd z (noA b),e0.bs,e0.bsz,fun b _ _=>noA b,fun b z=>absurd z (noA b),e0.funs,e0.frf⟩,
  rfl,e0.bare,Un.kept hk,⟨_,x.toInCall.ns,fun i y v h1 h2 h3=>?_⟩,fun y c h=>⟨_,x.cell y c h⟩,e0.hok.fresh (Nat.le_refl _),fun y c h=>?_,fun p hp=>absurd (show p∈([]:List (Addr×Obj)) from hp) (by simp),e0.hok.kept hk,?_⟩
 ·exact name_of_addr x.apart (PySem.mem_of_lookup h1) (PySem.mem_of_lookup h2)
 ·have hy:scope.names.lookup y=some .cell\/scope.names.lookup y=some .free:=hy
  rcases hy with hy | hy
  ·exact zaW hy
  ·exact absurd rfl (S.nofree _ (PySem.mem_of_lookup hy))
 ·exact Nat.le_of_lt (x.above y c (PySem.mem_of_lookup h))
 ·have hi:i<vs.length:=by
   unfold start at h2;by_cases hi:i<vs.length
   ·exact hi
   ·rw[List.getElem?_append_right (by simpa using hi)] at h2;rw[List.getElem?_replicate] at h2;split at h2 <;> cases h2
  have ha:vs[i]?=some v:=by
   unfold start at h2;rw[List.getElem?_append_left (by simpa using hi),List.getElem?_map] at h2;cases e:vs[i]? with
   | none=>rw[e] at h2;cases h2
   | some a=>rw[e] at h2;cases h2;rfl
  obtain⟨u,hu,rv⟩:=r.get ha;have hp:ps[i]?=some y:=by
   rw[<-S.pre,List.getElem?_take_of_lt (by omega)];exact h1
  have ndP:ps.Nodup:=by rw[<-S.pre];exact S.nd.sublist (List.take_sublist _ _)
  refine⟨u,rv,?_⟩;rcases S.par y (List.mem_of_getElem? hp) with k | k
  ·exact .inl ⟨k,zfN ndP hp hu k⟩
  ·obtain⟨c,e⟩:=zaW (n:=s.heap.objs.size+1) k;refine .inr ⟨.inl k,c,e,?_⟩;have q:=x.cell y c e
   rw[zfO ndP hp hu (by show scope.names.lookup y≠_;rw[k];decide)] at q;exact q
 ·exact e0.hok.fresh (Nat.le_of_lt (x.above y c (PySem.mem_of_lookup h)))
 ·unfold start;show _=N.length
  rw[List.length_append,List.length_map,List.length_replicate];omega
theorem znP {CX:CXT}{P:Program}{w:World}{K:W.Frag}{mg:Str->Option Value}{base:Heap}{k:Nat}{f:Addr}{name qual:Str}{params:Arguments}{body:List Stmt}{scope:Scope}{dV kV doc pm cdv ct oc:Value}{an od:Option Addr}
 {osl:Array (Option Value)}{N ps:List Str}{sp:Sp}(lk:K.lookup f=some ⟨oc,od,.func (W.fnOf name qual params body scope dV kV doc pm an cdv ct),osl⟩) (hcd:W.codeIn K cdv qual=true) (S:FnScope N ps scope)
 (len:∀vs H Q E,sp vs H Q E->vs.length=ps.length)
 (hbody:∀(A:Around) (outer:List Env) (s:Shared) (H:Hp) (vs:List V) (Q:VK) (E:XK),Room k (A.deeper (envOfC qual scope s.heap.objs.size f cdv))->sp vs H Q E->
  ∃t,PSs (cxOf CX P w K mg base N qual scope f cdv A outer s H E) body t/\t {nx:=fun _ H'=>Q .non H',rt:=Q} (start N vs) H) :
 FnOk P w K mg base CX (k+1) f (W.fnOf name qual params body scope dV kV doc pm an cdv ct) ps sp:=by
 refine⟨len,fun A outer s H args us vs Q E hr e0 hb r hsp=>?_⟩;have hl:=len _ _ _ _ hsp
 have KX:K.In s.heap:=e0.mod.kin.keeps fun b o e=>(e0.bs b o e).1
 have lim:s.heap.NoLimit:=e0.mod.nolimit.keeps fun b o e=>(e0.bs b o e).1
 have hkind:∀y∈ps.zip us,scope.names.lookup y.1=some .local\/(scope.names.lookup y.1=some .cell/\((cellsFrom (s.heap.objs.size+1) scope.names []).lookup y.1).isSome=true):=fun⟨n,v⟩ hy=>by
  rcases S.par n (List.of_mem_zip hy).1 with q | q
  ·exact .inl q
  ·exact .inr ⟨q,PySem.W.cellsFrom_some _ _ _ (.inl q)⟩
 refine codeAny_call_function hr.depth (KX _ _ lk) rfl S.co S.gen rfl (PySem.W.codeRec_of KX hcd) (hb _ _ _ _ ?_);refine wpAny_newFunctionEnv_cells S.kind hkind fun env he s1 x=>?_
 subst he;refine⟨lim.keeps x.toInCall.keep,codeAny_func ?_⟩;obtain⟨t,ht,hq⟩:=hbody A outer s H vs Q E (hr.deeper _) hsp;have I:Inv (cxOf CX P w K mg base N qual scope f cdv A outer s H E) [] (start N vs) H s1:=zfP S hr.hd e0 hl r x
 refine wpAny_mono (ht [] s1 (start N vs) H _ I hq) (fun fl s' hs=>?_) fun e s' hs=>hs
 have fin:∀{σ':St}{H':Hp}{v:V}{u:Value},Inv (cxOf CX P w K mg base N qual scope f cdv A outer s H E) [] σ' H' s'->RelV v u->Q v H'->CE outer P w H s Q u s':=
  fun {σ' H' v u} J rv q=>⟨v,H',J.os,J.bare,J.base,J.hok,rv,q⟩
 cases fl with
 | ret u=>
   obtain⟨v,σ',H',J,rv,q⟩:=hs;exact fin J rv q
 | next=>
   obtain⟨σ',H',J,q⟩:=hs;exact fin (v:=V.non) (u:=Value.none) J rfl q
 | brk=>
   obtain⟨_,_,_,q⟩:=hs;exact False.elim q
 | cont=>
   obtain⟨_,_,_,q⟩:=hs;exact False.elim q
section
variable {X:Cx}{x:Str}{p pos:Pos}{e:Expr}{es:List Expr}{t:TA}{id T:String}{r:List V->Hp->VK->Prop}
def tCB (r:List V->Hp->VK->Prop)(t:TA):TE:=fun σ H Q=>t σ H fun vs H1=>r vs H1 Q
theorem zj1 (hc:zb7 X (.builtin id) r)(hg:Gl X x)(hm:X.mg x=none)(hv:bootBuiltins x=some (.builtin id))(ha:PA X (e::es) t)(hn:x≠"__name__":=by decide)(hdb:(x == ("__debug__" : Str))=false:=by decide)
 (he:starEach (e::es) X.env=(false,eval e X.env)::starEach es X.env:=by rfl) (hpl:(backTo pos (starEach es X.env)).any (·.1)=false:=by rfl):PE X (.Call (.Name x p) (e::es) [] pos) (tCB r t):=by
 intro pins s σ H Q I h;refine wpAny_Call_Name_kw (zc4 I hg hm hv ?_ hn hdb);exact PyProof.Rows.callWith_builtin1 (thn (ha pos pins s σ H _ I h) fun us s1 ⟨vs,H1,I1,r1,q1⟩ =>hc pins s1 σ H1 vs us Q I1 r1 q1) he hpl
theorem zio (hc:zb7 X (.type T) r)(hg:Gl X x)(hm:X.mg x=none)(hv:bootBuiltins x=some (.type T))(ha:PA X (e::es) t)(hn:x≠"__name__":=by decide)(hdb:(x == ("__debug__" : Str))=false:=by decide)
 (he:starEach (e::es) X.env=(false,eval e X.env)::starEach es X.env:=by rfl) (hpl:(backTo pos (starEach es X.env)).any (·.1)=false:=by rfl):PE X (.Call (.Name x p) (e::es) [] pos) (tCB r t):=by
 intro pins s σ H Q I h;refine wpAny_Call_Name_kw (zc4 I hg hm hv ?_ hn hdb);exact PyProof.Rows.callWith_type1 (thn (ha pos pins s σ H _ I h) fun us s1 ⟨vs,H1,I1,r1,q1⟩ =>hc pins s1 σ H1 vs us Q I1 r1 q1) he hpl
end
end L2
namespace HT
open PySem PyProof.Rows
theorem zfh (A:Around)(s:Shared)(a:Int)(t:Tok)(c:Int)(u:Tok):∃e,SeqAt.EqAt A s (.int a t) (.int c u) e/\(e=true↔a=c):=
 ⟨(a == c),SeqAt.EqAt.int_int a t c u,by simp⟩
section
open PySem.SeqAt
open PySem.AutoSeq1 (wpAny_loadPart')
open PySem.MeetsSeq PySem.MeetsSeq2 PySem.MeetsSeq3
end
section
variable {prog:Program}{w:World}{A:Around}{E:Value->Shared->Prop}{s:Shared}
theorem cat_tup {t b:Addr}{vs ws:List Value}{Q:Value->Shared->Prop}(ht:IsTup s.heap t vs.toArray)(hb:IsTup s.heap b ws.toArray)(hv:vs≠[])
 (h1:ws = []->Q (.ref t) s) (h2:ws≠[]->Q (.ref s.heap.objs.size) {s with heap:=s.heap.push {cls:=.type "tuple",data:=.seq (vs++ws).toArray}})
 (hsz:vs.length+ws.length<=sizeLine):wpAny (model prog w) A (binaryOp .Add (.ref t) (.ref b)) Q E s:=by
 obtain⟨⟨cls,dd,data,sl⟩,ho,hc,n,hd⟩:=id ht;obtain⟨⟨cls2,dd2,data2,sl2⟩,ho2,hc2,n2,hd2⟩:=id hb;simp only at hc hd hc2 hd2;subst hc hd hc2 hd2;have e:vs.toArray++ws.toArray=(vs++ws).toArray:=by simp
 by_cases hw:ws = []
 ·exact concat_meets ⟨_,ho,rfl⟩ ⟨_,ho2,rfl⟩ noFill_tuple_add seq_tuple_add PySem.F.slot_tuple_add PySem.F.entry_tuple_add (PySem.F.args_tuple_add_2 _ _)
   (tuple_addW1 t b vs.toArray ws.toArray n n2 dd dd2 sl sl2 (by simpa using hv) (by simp[hw])) ⟨ho,ho2,h1 hw⟩
 ·refine concat_meets ⟨_,ho,rfl⟩ ⟨_,ho2,rfl⟩ noFill_tuple_add seq_tuple_add PySem.F.slot_tuple_add PySem.F.entry_tuple_add (PySem.F.args_tuple_add_2 _ _)
   (tuple_addW2 t b vs.toArray ws.toArray n n2 dd dd2 sl sl2 (by simpa using hv) (by simpa using hw) (by rw[List.size_toArray,List.size_toArray];exact hsz)) ⟨ho,ho2,?_⟩
  rw[e];exact h2 hw
def sIx (n d:Nat):Option Int->Nat
 | none=>d
 | some v=>if v<0 then(v+(n:Int)).toNat else min v.toNat n
theorem znQ (n d:Nat)(hd:d<=n)(o:Option Int):sIx n d o<=n:=by
 cases o with
 | none=>exact hd
 | some v=>
   show(if v<0 then(v+(n:Int)).toNat else min v.toNat n)<=n
   by_cases hv:v<0
   ·rw[if_pos hv];omega
   ·rw[if_neg hv];exact Nat.min_le_right _ _
theorem ziq (v:Int)(n d:Nat):(if v<0 then max (v+(n:Int)) 0 else min v (n:Int))=((sIx n d (some v):Nat):Int):=by
 show(if v<0 then max (v+(n:Int)) 0 else min v (n:Int))=(((if v<0 then(v+(n:Int)).toNat else min v.toNat n):Nat):Int)
 by_cases hv:v<0
 ·simp only[if_pos hv];omega
 ·simp only[if_neg hv];omega
theorem zhI (lo hi:Option Int)(n:Nat):Builtin.Slice.sliceAdjust lo hi 1 (n:Int)=(((sIx n 0 lo:Nat):Int),((sIx n n hi:Nat):Int)):=by
 have h1:¬((1:Int)<0):=by omega
 unfold Builtin.Slice.sliceAdjust;simp only[h1,if_false];refine Prod.ext ?_ ?_
 ·cases lo with
  | none=>rfl
  | some v=>exact ziq v n 0
 ·cases hi with
  | none=>rfl
  | some v=>exact ziq v n n
theorem zhJ (i j:Nat):Builtin.Slice.slicePlaces (i:Int) (j:Int) 1=j - i:=by
 unfold Builtin.Slice.slicePlaces;have h1:(1:Int)>0:=by omega
 simp only[h1,if_true,Int.ediv_one];split <;> omega
theorem zeX {v:Value}{o:Option Int}{Q:Option Int->Shared->Prop}(p:IsPart v o)(h:Q o s):wpAny (model prog w) A (Builtin.Slice.slicePartIndex v) Q E s:=by
 cases p with
 | none=>exact slicePart_none h
 | int i t=>exact slicePart_int h
theorem zdV {sl:Addr}{vl vu:Value}{lo hi:Option Int}{n:Nat}{Q:Int×Int×Nat->Shared->Prop}(hs:s.heap.IsSliceOf sl vl vu .none)(pl:IsPart vl lo)(pu:IsPart vu hi)
 (h:Q (((sIx n 0 lo:Nat):Int),1,sIx n n hi - sIx n 0 lo) s):wpAny (model prog w) A (Builtin.Slice.sliceApplied (.ref sl) (pure (n:Int))) Q E s:=by
 obtain⟨os,hos,hcs,hds⟩:=id hs;unfold Builtin.Slice.sliceApplied Builtin.Slice.sliceFields;refine wpAny_bind (wpAny_bind (wpAny_field hos hds (x:=vl) rfl (wpAny_bind (wpAny_field hos hds (x:=vu) rfl (wpAny_bind (wpAny_field hos hds (x:=.none) rfl (wpAny_pure ?_)))))));refine wpAny_bind (slicePart_none ?_);show wpAny _ _ (if((1:Int) == 0)=true then _ else _) _ _ s
 rw[if_neg (by decide)];refine wpAny_bind (zeX pl (wpAny_bind (zeX pu (wpAny_bind (wpAny_pure ?_)))));show wpAny _ _ (match Builtin.Slice.sliceAdjust lo hi 1 (n:Int) with | (lo,hi)=>pure (lo,(1:Int),Builtin.Slice.slicePlaces lo hi 1)) _ _ s
 rw[zhI lo hi n];show wpAny _ _ (pure (((sIx n 0 lo:Nat):Int),(1:Int),Builtin.Slice.slicePlaces ((sIx n 0 lo:Nat):Int) ((sIx n n hi:Nat):Int) 1)) _ _ s
 rw[zhJ];exact wpAny_pure h
theorem zj2 (xs:Array Value)(i k:Nat):((List.range k).filterMap fun(m:Nat)=>xs[((i:Int)+(m:Int)*1).toNat]?).toArray=((xs.toList.drop i).take k).toArray:=by
 have e:(fun(m:Nat)=>xs[((i:Int)+(m:Int)*1).toNat]?)=fun m=>xs[i+m]?:=by
  funext m
  have:((i:Int)+(m:Int)*1).toNat=i+m:=by omega
  rw[this]
 rw[e];have:=pick_run xs i k
 rw[List.filterMap_map] at this;have e2:((fun x=>xs[x]?)∘fun x=>i+x)=fun m=>xs[i+m]?:=rfl
 rw[e2] at this;rw[this]
theorem getItem_tuple_cut {t sl:Addr}{items:Array Value}{vl vu:Value}{lo hi:Option Int}{Q:Value->Shared->Prop}(ht:IsTup s.heap t items)(hs:s.heap.IsSliceOf sl vl vu .none)(pl:IsPart vl lo)(pu:IsPart vu hi)
 (hw:¬(sIx items.size 0 lo=0/\sIx items.size items.size hi=items.size))
 (h:Q (.ref s.heap.objs.size) {s with heap:=s.heap.push {cls:=.type "tuple",data:=.seq ((items.toList.drop (sIx items.size 0 lo)).take (sIx items.size items.size hi - sIx items.size 0 lo)).toArray}})
 (hsz:items.size<=sizeLine):wpAny (model prog w) A (getItem (.ref t) (.ref sl)) Q E s:=by
 have htake:sizeOk (.seq ((items.toList.drop (sIx items.size 0 lo)).take (sIx items.size items.size hi - sIx items.size 0 lo)).toArray):=by
  show((items.toList.drop (sIx items.size 0 lo)).take (sIx items.size items.size hi - sIx items.size 0 lo)).toArray.size<=sizeLine
  rw[List.size_toArray,List.length_take,List.length_drop,Array.length_toList];omega
 have hj:sIx items.size items.size hi<=items.size:=znQ _ _ (Nat.le_refl _) hi
 obtain⟨os,hos,hcs,hds⟩:=id hs;have hTs:s.TypeIs (.ref sl) "slice":=⟨os,hos,hcs⟩
 unfold getItem;try with_reducible refine wpAny_holding ?_
 first | refine wpAny_bind (wpAny_pure ?_) | skip
 refine wpAny_bind (wpAny_sequenceKey ht.typeIs (by decide) ?_);refine wpAny_bind (wpAny_callSpecial?_slot (name:=Str.ofString "__getitem__") ht.typeIs PyProof.Rows.slot_tuple_getitem
  (wpAny_call_entry PyProof.Rows.slot_tuple_getitem ht.typeIs entry_tuple_getitem ?_ (args_tuple_getitem _ _)))
 show wpAny _ _ (Builtin.Tuple.tupleItemsOf (.ref t) >>= _) _ _ s
 refine wpAny_bind (tupleItemsOf_ ht ?_);refine wpAny_bind (wpAny_typeOf hTs ?_);rw[if_pos (by decide)];refine wpAny_bind (zdV hs pl pu ?_);have hno:¬((((sIx items.size 0 lo:Nat):Int) == 0&&(1:Int) == 1&&(sIx items.size items.size hi - sIx items.size 0 lo) == items.size)=true):=by
  intro q;rw[Bool.and_eq_true,Bool.and_eq_true] at q;have q1:((sIx items.size 0 lo:Nat):Int)=0:=eq_of_beq q.1.1
  have q2:sIx items.size items.size hi - sIx items.size 0 lo=items.size:=eq_of_beq q.2
  exact hw ⟨by omega,by omega⟩
 show wpAny _ _ (if(((sIx items.size 0 lo:Nat):Int) == 0&&(1:Int) == 1&&(sIx items.size items.size hi - sIx items.size 0 lo) == items.size)=true then _ else _) _ _ s
 rw[if_neg hno,zj2];first
  | exact wpAny_bind (m:=Builtin.Tuple.tupleExact _) (wpAny_newObj_type (wpAny_pure ⟨_,rfl,wpAny_pure h⟩) htake)
  | exact wpAny_bind (m:=Builtin.Tuple.tupleExact _) (wpAny_newObj_type (wpAny_bind (wpAny_pure (wpAny_pure ⟨_,rfl,wpAny_pure h⟩))) htake)
  | exact wpAny_bind (wpAny_bind (m:=Builtin.Tuple.tupleExact _) (wpAny_newObj_type (wpAny_pure (wpAny_pure ⟨_,rfl,wpAny_pure h⟩)) htake))
  | exact wpAny_bind (wpAny_bind (m:=Builtin.Tuple.tupleExact _) (wpAny_newObj_type (wpAny_pure ⟨_,rfl,wpAny_pure h⟩) htake))
end
end HT
namespace L2
open PySem PySem.Spec PyProof.Rows
abbrev TO:=St->Hp->(Option Int->Hp->Prop)->Prop
def PO (X:Cx)(e:Option Expr)(t:TO):Prop:=
 ∀(pins:List (Addr×Obj)) (s:Shared) (σ:St) (H:Hp) (Q:Option Int->Hp->Prop),Inv X pins σ H s->t σ H Q->
  wpAny (model X.prog X.w) X.A (evalPart e X.env) (fun u s'=>∃o H',Inv X pins σ H' s'/\IsPart u o/\Q o H') X.xe s
def zlN:TO:=fun _ H Q=>Q none H
def zph (t:TE):TO:=fun σ H Q=>t σ H fun x H1=>∃i,x=.int i/\Q (some i) H1
section
variable {X:Cx}{e:Expr}{te:TE}{lo hi:Option Expr}{tl th:TO}{pos p2:Pos}
theorem zlO:PO X none zlN:=by
 intro pins s σ H Q I h;rw[evalPart_none];exact wpAny_pure ⟨none,H,I,.none,h⟩
theorem zlP (h:PE X e te):PO X (some e) (zph te):=by
 intro pins s σ H Q I hw;rw[evalPart_some];refine thn (h pins s σ H _ I hw) fun u s1 ⟨x,H1,I1,r1,q1⟩ =>?_
 obtain⟨i,rfl,q⟩:=q1;obtain⟨t,rfl⟩:=r1;exact⟨some i,H1,I1,.int i t,q⟩
def SlR (X:Cx)(r:V->Option Int->Option Int->Hp->VK->Prop):Prop:=
 ∀(pins:List (Addr×Obj)) (s:Shared) (σ:St) (H:Hp) (x:V) (v vl vu:Value) (lo hi:Option Int) (sl:Addr) (Q:VK),Inv X pins σ H s->RelV x v->s.heap.IsSliceOf sl vl vu .none->IsPart vl lo->IsPart vu hi->r x lo hi H Q->
  ∃T id,typeLookup (.type T) "__getitem__"=pure (some (.builtin id))/\s.TypeIs v T/\wpAny (model X.prog X.w) X.A (getItem v (.ref sl)) (EP X pins σ Q) X.xe s
theorem SlR.or {r r':V->Option Int->Option Int->Hp->VK->Prop}(h:SlR X r)(h':SlR X r'):SlR X (fun x lo hi H Q=>r x lo hi H Q\/r' x lo hi H Q):=by
 intro pins s σ H x v vl vu lo hi sl Q I rx hs pl pu q;rcases q with q | q
 ·exact h pins s σ H x v vl vu lo hi sl Q I rx hs pl pu q
 ·exact h' pins s σ H x v vl vu lo hi sl Q I rx hs pl pu q
def tSl (r:V->Option Int->Option Int->Hp->VK->Prop)(te:TE)(tl th:TO):TE:=fun σ H Q=>te σ H fun x H1=>tl σ H1 fun l H2=>th σ H2 fun u H3=>r x l u H3 Q
theorem zj3 {r:V->Option Int->Option Int->Hp->VK->Prop}(hr:SlR X r)(he:PE X e te)(hl:PO X lo tl)(hu:PO X hi th):PE X (.Subscript e (.Slice lo hi none p2) pos) (tSl r te tl th):=by
 intro pins s σ H Q I h;refine Subscript_ (thn (he pins s σ H _ I h) fun v s1 ⟨x,H1,I1,r1,q1⟩ =>?_);refine wpAny_Slice (thn (hl pins s1 σ H1 _ I1 q1) fun vl s2 ⟨l,H2,I2,pl,q2⟩ =>thn (hu pins s2 σ H2 _ I2 q2) fun vu s3 ⟨u,H3,I3,pu,q3⟩ =>?_);rw[evalPart_none];refine wpAny_pure ?_;have I4:Inv X pins σ H3 {s3 with heap:=s3.heap.push {cls:=.type "slice",data:=.fields #[vl,vu,.none]}}:=I3.kept (t':=s3.toks) fun b ob q=>Heap.get?_push_of_some _ q
 obtain⟨T,id,hT,ht,hg⟩:=hr pins {s3 with heap:=s3.heap.push {cls:=.type "slice",data:=.fields #[vl,vu,.none]}} σ H3 x v vl vu l u s3.heap.objs.size Q I4 r1 (Heap.IsSliceOf.new ..) pl pu q3;show wpAny (model X.prog X.w) X.A (subscriptTail e (.Slice lo hi none p2) v (.ref s3.heap.objs.size)) (EP X pins σ Q) X.xe {s3 with heap:=s3.heap.push {cls:=.type "slice",data:=.fields #[vl,vu,.none]}}
 exact tail_any (ops:=[.ref s3.heap.objs.size,v]) ht hT hg (by with_unfolding_all rfl)
def cutV (xs:List V)(lo hi:Option Int):List V:=(xs.drop (HT.sIx xs.length 0 lo)).take (HT.sIx xs.length xs.length hi - HT.sIx xs.length 0 lo)
theorem zef (xs:List V)(lo hi:Option Int):(cutV xs lo hi).length<=xs.length:=by
 unfold cutV;rw[List.length_take,List.length_drop];omega
def rSlT (K:W.Frag):V->Option Int->Option Int->Hp->VK->Prop:=fun x lo hi H Q=>∃a xs,x=.ref a/\SqT K H a xs/\
 ¬(HT.sIx xs.length 0 lo=0/\HT.sIx xs.length xs.length hi=xs.length)/\∀p,H p=none->Q (.ref p) (upd H p (.tup (cutV xs lo hi)))
theorem sl_tup:SlR X (rSlT X.K):=by
 intro pins s σ H x v vl vu lo hi sl Q I rx hs pl pu h;obtain⟨a,xs,rfl,hx,hw,q⟩:=h;cases rx;obtain⟨its,r,ht,hz⟩:=I.tuple hx;have hlen:its.toArray.size=xs.length:=by rw[List.size_toArray];exact r.length.symm
 refine⟨"tuple",_,PyProof.Rows.slot_tuple_getitem.lookup,ht.typeIs,?_⟩;refine HT.getItem_tuple_cut ht hs pl pu (by rw[hlen];exact hw) ?_ (by rw[hlen];exact hz);rw[hlen];refine⟨.ref s.heap.objs.size,_,I.laid (t':=s.toks) (o:=.tup (cutV xs lo hi)) (fun b ob q=>Heap.get?_push_of_some _ q) (Nat.le_refl _) ?_,rfl,q _ (I.hok.fresh (Nat.le_refl _))⟩;exact⟨Nat.le_trans (zef xs lo hi) hz,_,(r.drop (HT.sIx xs.length 0 lo)).take (HT.sIx xs.length xs.length hi - HT.sIx xs.length 0 lo),IsTup.new _ _⟩
def zpi (K:W.Frag):R2:=fun x y H Q=>∃a b xs ys,x=.ref a/\y=.ref b/\SqT K H a xs/\SqT K H b ys/\xs≠[]/\xs.length+ys.length<=sizeLine/\
 (ys = []->Q (.ref a) H)/\(ys≠[]->∀p,H p=none->Q (.ref p) (upd H p (.tup (xs++ys))))
theorem Vals.nil_iff {xs:List V}{us:List Value}(r:Vals xs us):us = []↔xs = []:=by
 cases r with
 | nil=>simp
 | cons _ _=>simp
theorem zlQ:OpR X (binaryOp .Add) (zpi X.K):=by
 intro pins s σ H x y v u Q I rx ry h;obtain⟨a,b,xs,ys,rfl,rfl,ha,hb,hx,hz,q1,q2⟩:=h;cases rx;cases ry;obtain⟨its,r1,p1,_⟩:=I.tuple ha;obtain⟨its2,r2,p2,_⟩:=I.tuple hb;refine HT.cat_tup p1 p2 (fun z=>hx (r1.nil_iff.mp z)) (fun z=>⟨.ref a,H,I,rfl,q1 (r2.nil_iff.mp z)⟩) (fun z=>?_) (by rw[<-r1.length,<-r2.length];exact hz);refine⟨.ref s.heap.objs.size,_,I.laid (t':=s.toks) (o:=.tup (xs++ys)) (fun b ob q=>Heap.get?_push_of_some _ q) (Nat.le_refl _) ?_,rfl,q2 (fun w=>z (r2.nil_iff.mpr w)) _ (I.hok.fresh (Nat.le_refl _))⟩;exact⟨by rw[List.length_append];exact hz,_,r1.append r2,IsTup.new _ _⟩
end
def ixN (n:Nat)(i:Int):Option Nat:=if 0<=i then(if i<n then some i.toNat else none) else if -(n:Int)<=i then some (i+n).toNat else none
def atI {α:Type}(xs:List α)(i:Int):Option α:=(ixN xs.length i).bind fun j=>xs[j]?
theorem zir {n:Nat}{i:Int}{j:Nat}(h:ixN n i=some j):seqIndex? i n=some j/\j<n/\-(n:Int)<=i/\i<n:=by
 unfold ixN at h;by_cases h0:0<=i
 ·rw[if_pos h0] at h;by_cases h1:i<n
  ·rw[if_pos h1] at h;have e:i.toNat=j:=Option.some.inj h
   exact⟨by rw[seqIndex_of h0 h1,e],by omega,by omega,h1⟩
  ·rw[if_neg h1] at h;cases h
 ·rw[if_neg h0] at h;by_cases h1:-(n:Int)<=i
  ·rw[if_pos h1] at h;have e:(i+n).toNat=j:=Option.some.inj h
   exact⟨by rw[seqIndex_neg (by omega) h1,e],by omega,h1,by omega⟩
  ·rw[if_neg h1] at h;cases h
theorem zgq {α:Type}{xs:List α}{i:Int}{v:α}(h:atI xs i=some v):∃j,seqIndex? i xs.length=some j/\xs[j]?=some v/\j<xs.length/\-(xs.length:Int)<=i/\i<xs.length:=by
 unfold atI at h;cases e:ixN xs.length i with
 | none=>rw[e] at h;cases h
 | some j=>
   rw[e] at h;obtain⟨h1,h2,h3,h4⟩:=zir e;exact⟨j,h1,h,h2,h3,h4⟩
theorem zaP {α:Type}{xs:List α}{j:Nat}{v:α}(h:xs[j]?=some v):atI xs (j:Int)=some v:=by
 have hj:j<xs.length:=(List.getElem?_eq_some_iff.mp h).1
 have e:ixN xs.length (j:Int)=some j:=by
  unfold ixN;rw[if_pos (by omega),if_pos (by omega)];simp
 unfold atI;rw[e];exact h
def zdw (b:Expr):Prop:=∀o i,subscripted b false o i=operate [o,i] (getItem o i)
def IxR (X:Cx)(r:R2):Prop:=
 ∀(value slice:Expr) (pins:List (Addr×Obj)) (s:Shared) (σ:St) (H:Hp) (x y:V) (v u:Value) (Q:VK),Inv X pins σ H s->RelV x v->RelV y u->r x y H Q->
  subscripted slice false v u=operate [v,u] (getItem v u)->wpAny (model X.prog X.w) X.A (subscriptTail value slice v u) (EP X pins σ Q) X.xe s
def MtR (X:Cx)(id:String)(r:V->List V->Hp->VK->Prop):Prop:=
 ∀(pins:List (Addr×Obj)) (s:Shared) (σ:St) (H:Hp) (x:V) (xs:List V) (v:Value) (us:List Value) (Q:VK),Inv X pins σ H s->RelV x v->Vals xs us->r x xs H Q->
  wpAny (model X.prog X.w) X.A (call (.builtin id) (v::us)) (EP X pins σ Q) X.xe s
section
variable {X:Cx}{a b:Expr}{ta tb:TE}{pos:Pos}
theorem IxR.or {r r':R2}(h:IxR X r)(h':IxR X r'):IxR X (fun x y H Q=>r x y H Q\/r' x y H Q):=by
 intro value slice pins s σ H x y v u Q I rx ry q hs;rcases q with q | q
 ·exact h value slice pins s σ H x y v u Q I rx ry q hs
 ·exact h' value slice pins s σ H x y v u Q I rx ry q hs
theorem zhK {r:R2}(hr:IxR X r)(ha:PE X a ta)(hb:PE X b tb)(hs:zdw b):PE X (.Subscript a b pos) (tOp r ta tb):=by
 intro pins s σ H Q I h;exact Subscript_ (binT ha hb I h fun v u s2 x y H2 I2 rx ry q=>hr a b pins s2 σ H2 x y v u Q I2 rx ry q (hs _ _))
def rIxL (K:W.Frag):R2:=fun x y H Q=>∃p xs i v,x=.ref p/\y=.int i/\SqL K H p xs/\atI xs i=some v/\Q v H
def rIxT (K:W.Frag):R2:=fun x y H Q=>∃p xs i v,x=.ref p/\y=.int i/\SqT K H p xs/\atI xs i=some v/\Q v H
def rIxS:R2:=fun x y H Q=>∃z i c,x=.str z/\y=.int i/\z.length<=sizeLine/\atI z.cps.toList i=some c/\Q (.str ⟨#[c]⟩) H
theorem ix_list:IxR X (rIxL X.K):=by
 intro value slice pins s σ H x y v u Q I rx ry h hs;obtain⟨p,xs,i,z,rfl,rfl,hq,he,q⟩:=h;cases rx;obtain⟨t,rfl⟩:=ry;obtain⟨its,r,pl,hz⟩:=I.list hq;obtain⟨j,h1,h2,h3,h4,h5⟩:=zgq he;obtain⟨w,ew,rw'⟩:=r.get h2;have hl:=r.length
 have hn:=zee
 have fin:EP X pins σ Q w s:=⟨z,H,I,rw',q⟩
 by_cases h0:0<=i
 ·have hj:i.toNat=j:=by
   rw[seqIndex_of h0 h5] at h1;exact Option.some.inj h1
  exact item_listR pl.isList h0 (by omega) (by rw[hj];simpa using ew) fin hs
 ·have hj:(i+(its.toArray.size:Int)).toNat=j:=by
   rw[seqIndex_neg (by omega) h4] at h1;rw[List.size_toArray,<-hl];exact Option.some.inj h1
  exact subscriptTail_builtinR (x:=w) pl.isList.typeIs slot_list_getitem.lookup
   (wpAny_getItem_list_neg (Q:=fun r s'=>r=w/\EP X pins σ Q r s') pl.isList (by omega) (by rw[List.size_toArray] <;> omega) (by omega) (by rw[hj];simpa using ew) ⟨rfl,fin⟩) hs
theorem ix_tup:IxR X (rIxT X.K):=by
 intro value slice pins s σ H x y v u Q I rx ry h hs;obtain⟨p,xs,i,z,rfl,rfl,hq,he,q⟩:=h;cases rx;obtain⟨t,rfl⟩:=ry;obtain⟨its,r,pl,hz⟩:=I.tuple hq;obtain⟨j,h1,h2,h3,h4,h5⟩:=zgq he;obtain⟨w,ew,rw'⟩:=r.get h2;have hl:=r.length
 have hn:=zee
 have fin:EP X pins σ Q w s:=⟨z,H,I,rw',q⟩
 exact subscriptTail_builtinR (x:=w) pl.typeIs slot_tuple_getitem.lookup
  (getItem_tuple (j:=j) (Q:=fun r s'=>r=w/\EP X pins σ Q r s') pl (by omega) (by omega) (by rw[List.size_toArray,<-hl];exact h1) (by simpa using ew) ⟨rfl,fin⟩) hs
theorem znR:IxR X rIxS:=by
 intro value slice pins s σ H x y v u Q I rx ry h hs;obtain⟨z,i,c,rfl,rfl,hz,he,q⟩:=h;obtain⟨t,rfl⟩:=rx;obtain⟨t',rfl⟩:=ry;obtain⟨j,h1,h2,h3,h4,h5⟩:=zgq he;have hl:z.cps.toList.length=z.length:=by simp[Str.length]
 rw[hl] at h1 h4 h5;have hn:=zee
 exact tail_any (typeIs_str s z t) slot_str_getitem.lookup (getItem_str (c:=c) (by
  have e1:decide (i < -(2 ^ 63:Int))=false:=decide_eq_false (by omega)
  have e2:decide (i≥2 ^ 63)=false:=decide_eq_false (by omega)
  rw[e1,e2,Bool.or_false]) (by rw[h1];simpa using h2) ⟨.str ⟨#[c]⟩,H,I.tok _,⟨_,rfl⟩,q⟩) hs
def rIx (K:W.Frag):R2:=fun x y H Q=>rIxL K x y H Q\/rIxT K x y H Q\/rIxS x y H Q
theorem zfQ:IxR X (rIx X.K):=ix_list.or (ix_tup.or znR)
theorem zhL (its:List Value)(n j:Nat)(u:Value):Obj.mapSeq (·.setIfInBounds j u) {cls:=.type "list",data:=.seq its.toArray n} = {cls:=.type "list",data:=.seq (its.set j u).toArray n}:=by
 simp[Obj.mapSeq]
theorem Inv.lst {pins:List (Addr×Obj)}{σ:St}{H:Hp}{s:Shared}{p:Addr}{xs:List V}(I:Inv X pins σ H s)(h:H p=some (.lst xs)) :
 ∃(its:List Value) (n:Nat),Vals xs its/\s.heap.get? p=some {cls:=.type "list",data:=.seq its.toArray n}/\xs.length<=sizeLine:=by
 obtain⟨z,its,n,r,e⟩:=I.hok p _ h;exact⟨its,n,r,e,z⟩
theorem Inv.lstUpd {pins:List (Addr×Obj)}{σ:St}{H:Hp}{s:Shared}{p:Addr}{xs ys:List V}{its its':List Value}{n n':Nat}{f:Obj->Obj}(I:Inv X pins σ H s)(h:H p=some (.lst xs))
 (ho:s.heap.get? p=some {cls:=.type "list",data:=.seq its.toArray n}) (hf:f {cls:=.type "list",data:=.seq its.toArray n} = {cls:=.type "list",data:=.seq its'.toArray n'}) (r:Vals ys its') (hz:ys.length<=sizeLine) (t:Nat) :
 Inv X pins σ (upd H p (.lst ys)) {s with heap:=s.heap.update p f,toks:=t}:=by
 have e:(s.heap.update p f).get? p=some {cls:=.type "list",data:=.seq its'.toArray n'}:=by
  rw[Heap.get?_update_self f ho (by rw[hf] <;> rfl),hf]
 refine I.write (x:=p) (e:=p) (by rw[h];trivial) (.inl rfl) (fun b u hb q=>(Heap.get?_update_other _ _ (Ne.symm hb)).trans q) ⟨_,e⟩ ?_;exact⟨hz,its',n',r,e⟩
def zpj:V->V->V->Hp->(Hp->Prop)->Prop:=fun o i v H Q=>∃p xs k j,o=.ref p/\i=.int k/\H p=some (.lst xs)/\ixN xs.length k=some j/\Q (upd H p (.lst (xs.set j v)))
theorem zg1:PSet X zpj:=by
 intro pins s σ H o i v ov iv u Q I ro ri rv h;obtain⟨p,xs,k,j,rfl,rfl,hp,hj,q⟩:=h;cases ro;obtain⟨t,rfl⟩:=ri;obtain⟨its,n,r,ho,hz⟩:=I.lst hp;obtain⟨h1,h2,h3,h4⟩:=zir hj;have hl:=r.length
 have hn:=zee
 have I':Inv X pins σ (upd H p (.lst (xs.set j v))) {s with heap:=s.heap.update p (Obj.mapSeq (·.setIfInBounds j u))}:=
  I.lstUpd hp ho (zhL its n j u) (r.set rv j) (by rw[List.length_set];exact hz) s.toks
 by_cases h0:0<=k
 ·have hk:k.toNat=j:=by
   rw[seqIndex_of h0 h4] at h1;exact Option.some.inj h1
  exact PySem.W.ki_setAt ho h0 (by omega) (by rw[List.size_toArray,<-hl];exact h4) (by rw[hk];exact⟨_,I',q⟩)
 ·have hk:(k+(its.toArray.size:Int)).toNat=j:=by
   rw[seqIndex_neg (by omega) h3] at h1;rw[List.size_toArray,<-hl];exact Option.some.inj h1
  exact PySem.W.ki_setBack ho (by omega) (by rw[List.size_toArray,<-hl];exact h3) (by omega) (by rw[hk];exact⟨_,I',q⟩)
theorem zfR (lo hi:Option Int)(n:Nat):(sliceBounds lo hi none n).1=((HT.sIx n 0 lo:Nat):Int)/\(sliceBounds lo hi none n).2.1=((HT.sIx n n hi:Nat):Int)/\(sliceBounds lo hi none n).2.2=1:=by
 refine⟨?_,?_,rfl⟩
 ·cases lo with
  | none=>simp[sliceBounds,HT.sIx]
  | some i=>
    simp only[sliceBounds,HT.sIx,Option.getD_none,show(1:Int)>0 by decide,if_true];by_cases h:i<0
    ·simp only[h,if_true] <;> omega
    ·simp only[h,if_false] <;> omega
 ·cases hi with
  | none=>simp[sliceBounds,HT.sIx]
  | some i=>
    simp only[sliceBounds,HT.sIx,Option.getD_none,show(1:Int)>0 by decide,if_true];by_cases h:i<0
    ·simp only[h,if_true] <;> omega
    ·simp only[h,if_false] <;> omega
theorem zfi (its:List Value)(lo hi:Option Int):slicePick its.toArray lo hi none=((its.drop (HT.sIx its.length 0 lo)).take (HT.sIx its.length its.length hi - HT.sIx its.length 0 lo)).toArray:=by
 obtain⟨h1,h2,h3⟩:=zfR lo hi its.toArray.size;unfold slicePick;rw[h1,h2,h3];simp only[sliceRange_one,pick_run,List.size_toArray] <;> rfl
def rSlL (K:W.Frag):V->Option Int->Option Int->Hp->VK->Prop:=fun x lo hi H Q=>∃a xs,x=.ref a/\SqL K H a xs/\∀p,H p=none->Q (.ref p) (upd H p (.lst (cutV xs lo hi)))
theorem sl_list:SlR X (rSlL X.K):=by
 intro pins s σ H x v vl vu lo hi sl Q I rx hs pl pu h;obtain⟨a,xs,rfl,hx,q⟩:=h;cases rx;obtain⟨its,r,ht,hz⟩:=I.list hx;have hlen:=r.length
 refine⟨"list",_,slot_list_getitem.lookup,ht.isList.typeIs,?_⟩;refine wpAny_getItem_list_slice ht.isList hs pl pu .none (by simp) ?_ (by rw[List.size_toArray] <;> omega);rw[zfi,<-hlen];refine⟨.ref s.heap.objs.size,_,I.laid (t':=s.toks) (o:=.lst (cutV xs lo hi)) (fun b ob q=>Heap.get?_push_of_some _ q) (Nat.le_refl _) ?_,rfl,q _ (I.hok.fresh (Nat.le_refl _))⟩;exact⟨Nat.le_trans (zef xs lo hi) hz,_,0,(r.drop (HT.sIx xs.length 0 lo)).take (HT.sIx xs.length xs.length hi - HT.sIx xs.length 0 lo),Heap.get?_push_size _ rfl⟩
def zfj:V->Bool
 | .non=>true
 | .bl _=>true
 | .int _=>true
 | .str _=>true
 | _=>false
def eqV:V->V->Bool
 | .non,.non=>true
 | .bl a,.bl b=>a == b
 | .bl a,.int b=>(if a then 1 else 0) == b
 | .int a,.bl b=>a == (if b then 1 else 0)
 | .int a,.int b=>a == b
 | .str a,.str b=>a == b
 | _,_=>false
theorem znS {A:Around}{s:Shared}{y x:V}{u v:Value}(ry:RelV y u)(rx:RelV x v)(fy:zfj y=true)(fx:zfj x=true):SeqAt.EqAt A s u v (eqV y x):=by
 cases y with
 | non=>
   cases ry;cases x with
   | non=>cases rx;exact SeqAt.EqAt.same _
   | bl b=>cases rx;exact SeqAt.EqAt.none_bool b
   | int b=>obtain⟨t,rfl⟩:=rx;exact SeqAt.EqAt.none_int b t
   | str b=>obtain⟨t,rfl⟩:=rx;exact SeqAt.EqAt.none_str b t
   | _=>exact absurd (show false=true from fx) Bool.false_ne_true
 | bl a=>
   cases ry;cases x with
   | non=>cases rx;exact SeqAt.EqAt.bool_none a
   | bl b=>cases rx;exact SeqAt.EqAt.bool_bool a b
   | int b=>obtain⟨t,rfl⟩:=rx;exact SeqAt.EqAt.bool_int a b t
   | str b=>obtain⟨t,rfl⟩:=rx;exact SeqAt.EqAt.bool_str a b t
   | _=>exact absurd (show false=true from fx) Bool.false_ne_true
 | int a=>
   obtain⟨t',rfl⟩:=ry;cases x with
   | non=>cases rx;exact SeqAt.EqAt.int_none a t'
   | bl b=>cases rx;exact SeqAt.EqAt.int_bool a t' b
   | int b=>obtain⟨t,rfl⟩:=rx;exact SeqAt.EqAt.int_int a t' b t
   | str b=>obtain⟨t,rfl⟩:=rx;exact SeqAt.EqAt.int_str a t' b t
   | _=>exact absurd (show false=true from fx) Bool.false_ne_true
 | str a=>
   obtain⟨t',rfl⟩:=ry;cases x with
   | non=>cases rx;exact SeqAt.EqAt.str_none a t'
   | bl b=>cases rx;exact SeqAt.EqAt.str_bool a t' b
   | int b=>obtain⟨t,rfl⟩:=rx;exact SeqAt.EqAt.str_int a t' b t
   | str b=>obtain⟨t,rfl⟩:=rx;exact SeqAt.EqAt.str_str a t' b t
   | _=>exact absurd (show false=true from fx) Bool.false_ne_true
 | _=>exact absurd (show false=true from fy) Bool.false_ne_true
def eqU (x:V)(u:Value):Bool:=match u with
 | .none=>eqV .non x
 | .bool b=>eqV (.bl b) x
 | .int i _=>eqV (.int i) x
 | .str z _=>eqV (.str z) x
 | _=>false
theorem zis {x y:V}{u:Value}(r:RelV y u)(f:zfj y=true):eqU x u=eqV y x:=by
 cases y with
 | non=>cases r;rfl
 | bl b=>cases r;rfl
 | int i=>obtain⟨t,rfl⟩:=r;rfl
 | str z=>obtain⟨t,rfl⟩:=r;rfl
 | _=>exact absurd (show false=true from f) Bool.false_ne_true
theorem zg2 {A:Around}{s:Shared}{x:V}{v:Value}(rx:RelV x v)(fx:zfj x=true):∀{xs:List V}{us:List Value},Vals xs us->xs.all zfj=true->∀u∈us,SeqAt.EqAt A s u v (eqU x u)
 | _,_,.nil,_=>fun u hu=>by cases hu
 | y::xs,u::us,.cons r t,f=>fun u' hu=>by
   rw[List.all_cons,Bool.and_eq_true] at f;rcases List.mem_cons.mp hu with rfl | hu
   ·rw[zis r f.1];exact znS r rx f.1 fx
   ·exact zg2 rx fx t f.2 u' hu
theorem zfS:zb7 X (.builtin "len") (fun xs H Q=>∃p ys,xs = [.ref p]/\(SqL X.K H p ys\/SqT X.K H p ys)/\Q (.int ys.length) H):=by
 intro pins s σ H xs us Q I r h;obtain⟨p,ys,rfl,hq,q⟩:=h;obtain⟨u,rfl,rx⟩:=zfI r;cases rx;have hn:=zee
 rcases hq with hq | hq
 ·obtain⟨its,r',pl,hz⟩:=I.list hq;have hlen:=r'.length
  exact Calls.call_len_list pl.isList (by simp only[List.size_toArray] <;> omega) ⟨.int ys.length,H,I.tok _,⟨s.toks+1,by rw[List.size_toArray,hlen]⟩,q⟩
 ·obtain⟨its,r',pl,hz⟩:=I.tuple hq;have hlen:=r'.length
  exact len_tuple pl (by simp only[List.size_toArray] <;> omega) ⟨.int ys.length,H,I.tok _,⟨s.toks+1,by rw[List.size_toArray,hlen]⟩,q⟩
theorem zc6:zb7 X (.type "tuple") (fun xs H Q=>∃p ys,xs = [.ref p]/\((SqL X.K H p ys/\∀l,H l=none->Q (.ref l) (upd H l (.tup ys)))\/(SqT X.K H p ys/\Q (.ref p) H))):=by
 intro pins s σ H xs us Q I r h;obtain⟨p,ys,rfl,h⟩:=h;obtain⟨u,rfl,rx⟩:=zfI r;cases rx;rcases h with⟨hq,q⟩ | ⟨hq,q⟩
 ·obtain⟨its,r',pl,hz⟩:=I.list hq;have hlen:=r'.length
  refine call_tuple_list pl.isList (fun h' kp=>?_) (by simp only[List.size_toArray] <;> omega);have I1:Inv X pins σ H {s with heap:=h'}:=I.kept (t':=s.toks) kp
  have I2:Inv X pins σ (upd H h'.objs.size (.tup ys)) {s with heap:=h'.push {cls:=.type "tuple",data:=.seq its.toArray}}:=
   I1.laid (t':=s.toks) (fun b o e=>Heap.get?_push_of_some _ e) (Nat.le_refl _) (show ObjOk X.prog X.w _ _ _ (.tup ys) from⟨hz,its,r',IsTup.new _ _⟩)
  exact⟨.ref h'.objs.size,_,I2,rfl,q _ (I1.hok.fresh (Nat.le_refl _))⟩
 ·obtain⟨its,r',pl,hz⟩:=I.tuple hq;exact call_tuple_same pl ⟨.ref p,H,I,rfl,q⟩
def tyV (K:W.Frag)(T:String)(x:V)(H:Hp):Prop:=match x with
 | .str _=>T = "str"
 | .int _=>T = "int"
 | .ref p=>(T = "list"/\∃xs,SqL K H p xs)\/(T = "tuple"/\∃o,K.lookup p=some o/\o.cls=.type "tuple"/\o.dict=none)\/
  (T = "dict"/\((∃kvs,H p=some (.dK kvs))\/∃kvs,H p=some (.dT kvs)))\/(T = "set"/\∃S n,H p=some (.set S n))
 | _=>False
theorem znT {pins:List (Addr×Obj)}{σ:St}{H:Hp}{s:Shared}{T:String}{x:V}{v:Value}(I:Inv X pins σ H s)(r:RelV x v)(ty:tyV X.K T x H) :
 s.TypeIs v T/\∀a,v=.ref a->∃ob,s.heap.get? a=some ob/\ob.dict=none:=by
 cases x with
 | str z=>
   obtain⟨t,rfl⟩:=r;cases(show T = "str" from ty);exact⟨typeIs_str s z t,fun _ e=>nomatch e⟩
 | int i=>
   obtain⟨t,rfl⟩:=r;cases(show T = "int" from ty);exact⟨typeIs_int s i t,fun _ e=>nomatch e⟩
 | ref p=>
   cases r;rcases ty with⟨rfl,xs,hq⟩ | ⟨rfl,o,hk,hc,hd⟩ | ⟨rfl,hk⟩ | ⟨rfl,S,n,hk⟩
   ·obtain⟨its,_,pl,_⟩:=I.list hq;refine⟨pl.isList.typeIs,fun a e=>?_⟩;cases e;obtain⟨o,n,e,c,hd,_⟩:=pl;exact⟨o,e,hd⟩
   ·refine⟨⟨o,I.kIn p o hk,hc⟩,fun a e=>?_⟩;cases e;exact⟨o,I.kIn _ o hk,hd⟩
   ·have z:∃o,s.heap.get? p=some o/\o.ExactDict:=by
     rcases hk with⟨kvs,hk⟩ | ⟨kvs,hk⟩
     ·obtain⟨_,_,_,_,o,_,_,e,ex,_⟩:=I.hok p _ hk;exact⟨o,e,ex⟩
     ·obtain⟨_,_,_,_,o,_,_,e,ex,_⟩:=I.hok p _ hk;exact⟨o,e,ex⟩
    obtain⟨o,e,ex⟩:=z;refine⟨⟨o,e,ex.1⟩,fun a e2=>?_⟩;cases e2;exact⟨o,e,ex.2.1⟩
   ·obtain⟨o,_,_,_,e,ex,_⟩:=I.hok p _ hk;refine⟨⟨o,e,ex.1⟩,fun a e2=>?_⟩;cases e2;exact⟨o,e,ex.2.1⟩
 | _=>exact False.elim ty
def tBM (K:W.Frag)(T:String)(r:V->List V->Hp->VK->Prop)(to:TE)(t:TA):TE:=fun σ H Q=>to σ H fun x H1=>tyV K T x H1/\t σ H1 fun xs H2=>r x xs H2 Q
variable {o e:Expr}{es:List Expr}{to:TE}{t:TA}{name:Str}{apos cpos:Pos}{T id:String}{r:V->List V->Hp->VK->Prop}
theorem zlR (pa:PlainAttrs T)(slot:Slot T name id)(hty:typeOf (.builtin id)=pure (.type "method_descriptor"))(hm:MtR X id r)(ho:PE X o to)(ha:PA X (e::es) t)
 (hbase:attributeBase o name X.env (eval o X.env)=eval o X.env:=by rfl)
 (hfew:((backTo cpos (starEach (e::es) X.env)).all (fun x=>!x.1)&&(backToKw cpos (keywordEach [] X.env)).all (fun x=>x.1.isSome)
  && decide ((e::es).length+([]:List Keyword).length+(if([]:List Keyword).isEmpty then 0 else 1)<30))=true:=by rfl)
 (hline:(apos.endLine == cpos.line)=true:=by rfl) (hs:starEach (e::es) X.env=(false,eval e X.env)::starEach es X.env:=by rfl) (hplain:(backTo cpos (starEach es X.env)).any (·.1)=false:=by rfl) :
 PE X (.Call (.Attribute o name apos) (e::es) [] cpos) (tBM X.K T r to t):=by
 intro pins s σ H Q I h;refine wpAny_Call_method_late hbase hfew hline rfl (thn (ho pins s σ H _ I h) fun v s1 ⟨x,H1,I1,r1,ty,q1⟩ =>?_);obtain⟨h1,h2⟩:=znT I1 r1 ty;refine⟨T,id,pa,slot,hty,h1,h2,?_⟩;have hA:=ha cpos pins s1 σ H1 _ I1 q1
 rw[hs] at hA⊢;refine Calls.callWith_builtin (by show(false||(backTo cpos (starEach es X.env)).any (·.1))=false;rw[hplain] <;> rfl) (Calls.evalArgs_plain ?_);exact thn hA fun us s2 ⟨vs,H2,I2,r2,q2⟩ =>hm pins s2 σ H2 x vs v us Q I2 r1 r2 q2
end
def MtM (X:Cx)(id:String)(r:V->List V->Hp->VK->Prop):Prop:=
 ∀(pins:List (Addr×Obj)) (s:Shared) (σ:St) (H:Hp) (x:V) (xs:List V) (v:Value) (us:List Value) (Q:VK),Inv X pins σ H s->RelV x v->Vals xs us->r x xs H Q->
  wpAny (model X.prog X.w) X.A (call (.builtin id) (v::us)) (EP X pins σ Q) X.xe s
theorem Vals.one:∀{x:V}{us:List Value},Vals [x] us->∃u,us = [u]/\RelV x u
 | _,_,.cons r .nil=>⟨_,rfl,r⟩
theorem Vals.two:∀{x y:V}{us:List Value},Vals [x,y] us->∃u v,us = [u,v]/\RelV x u/\RelV y v
 | _,_,_,.cons r (.cons q .nil)=>⟨_,_,rfl,r,q⟩
theorem Vals.reverse {xs:List V}{us:List Value}(h:Vals xs us):Vals xs.reverse us.reverse:=by
 induction h with
 | nil=>exact .nil
 | cons r t ih=>rw[List.reverse_cons,List.reverse_cons];exact Vals.append ih (.cons r .nil)
theorem Vals.rep {xs:List V}{us:List Value}(h:Vals xs us):∀k:Nat,Vals (List.replicate k xs).flatten (List.replicate k us).flatten
 | 0=>.nil
 | k+1=>by
   rw[List.replicate_succ,List.replicate_succ,List.flatten_cons,List.flatten_cons];exact Vals.append h (Vals.rep h k)
theorem zfT (its:List Value):∀(k:Nat) (acc:List Value),
 List.foldl (fun x1 x2=>x1++x2) acc.toArray (List.replicate k its.toArray)=(acc++(List.replicate k its).flatten).toArray
 | 0,acc=>by simp
 | k+1,acc=>by
   have e:acc.toArray++its.toArray=(acc++its).toArray:=by simp
   have e2:(acc++its)++(List.replicate k its).flatten=acc++(List.replicate (k+1) its).flatten:=by
    rw[List.replicate_succ,List.flatten_cons,List.append_assoc]
   rw[<-e2,<-zfT its k (acc++its),<-e,List.replicate_succ,List.foldl_cons]
section
variable {X:Cx}{pins:List (Addr×Obj)}{σ:St}{H:Hp}{s:Shared}{l b:Addr}{xs ys zs:List V}
theorem Inv.lset {its its':List Value}{n:Nat}{f:Array Value->Array Value}{t':Nat}(I:Inv X pins σ H s)(hH:H l=some (.lst xs))
 (e:s.heap.get? l=some {cls:=.type "list",data:=.seq its.toArray n}) (hf:f its.toArray=its'.toArray) (hv:Vals ys its') (hz:ys.length<=sizeLine) :
 Inv X pins σ (upd H l (.lst ys)) {s with heap:=s.heap.update l (Obj.mapSeq f),toks:=t'}:=by
 have q:=PySem.IsL.update e f
 rw[hf] at q;refine I.write (x:=l) (e:=l) (by rw[hH];exact trivial) (.inl rfl) (fun b' u hb hu=>(Heap.get?_update_other s.heap (Obj.mapSeq f) (Ne.symm hb)).trans hu) ⟨_,q⟩ ?_;exact⟨hz,its',_,hv,q⟩
theorem Inv.lnew {its:List Value}{t':Nat}(I:Inv X pins σ H s)(hv:Vals ys its)(hz:ys.length<=sizeLine) :
 Inv X pins σ (upd H s.heap.objs.size (.lst ys)) {s with heap:=s.heap.push {cls:=.type "list",data:=.seq its.toArray},toks:=t'}:=
 I.laid (fun _ _ q=>Heap.get?_push_of_some _ q) (Nat.le_refl _) ⟨hz,its,0,hv,Heap.get?_push_size _ rfl⟩
theorem Inv.fresh (I:Inv X pins σ H s):H s.heap.objs.size=none:=I.hok.fresh (Nat.le_refl _)
theorem Inv.lstM (I:Inv X pins σ H s)(hH:H l=some (.lst xs)):xs.length<=sizeLine/\∃(its:List Value) (n:Nat),Vals xs its/\xs.length=its.length/\s.heap.get? l=some {cls:=.type "list",data:=.seq its.toArray n}:=by
 obtain⟨z,its,n,r,e⟩:=I.hok l _ hH;exact⟨z,its,n,r,r.length,e⟩
theorem zg3 {n:Nat}(h:n<=sizeLine):Builtin.List.listTooLong n=false:=by
 unfold Builtin.List.listTooLong;exact decide_eq_false (by omega)
end
section
variable {X:Cx}
def zfk:V->List V->Hp->VK->Prop:=fun x vs H Q=>∃l xs y,x=.ref l/\vs = [y]/\H l=some (.lst xs)/\xs.length<sizeLine/\Q .non (upd H l (.lst (xs++[y])))
theorem zeg:MtM X "list.append" zfk:=by
 intro pins s σ H x vs v us Q I rx rv h;obtain⟨l,xs,y,rfl,rfl,hH,hz,q⟩:=h;cases rx;obtain⟨u,rfl,ru⟩:=rv.one;obtain⟨z,its,n,r,hl,e⟩:=I.lstM hH;refine call_meets F.slot_list_append ⟨_,e,rfl⟩ F.entry_list_append (F.args_list_append_2 _ _) (PySem.list_append l its.toArray n u (by rw[List.size_toArray];omega)) ⟨e,?_⟩;refine⟨.non,_,I.lset (its':=its++[u]) hH e (by simp) (r.append (.cons ru .nil)) ?_,rfl,q⟩;rw[List.length_append,List.length_singleton];omega
def zit:V->List V->Hp->VK->Prop:=fun x vs H Q=>∃l b xs zs,x=.ref l/\vs = [.ref b]/\H l=some (.lst xs)/\H b=some (.lst zs)/\xs.length+zs.length<=sizeLine/\Q .non (upd H l (.lst (xs++zs)))
theorem ziu:MtM X "list.extend" zit:=by
 intro pins s σ H x vs v us Q I rx rv h;obtain⟨l,b,xs,zs,rfl,rfl,hH,hB,hz,q⟩:=h;cases rx;obtain⟨u,rfl,ru⟩:=rv.one;cases ru;obtain⟨z,its,n,r,hl,e⟩:=I.lstM hH;obtain⟨z2,its2,n2,r2,hl2,e2⟩:=I.lstM hB;have hsz:its.toArray.size+its2.toArray.size<=sizeLine:=by rw[List.size_toArray,List.size_toArray];omega
 have hlong:¬(!its.toArray.isEmpty&&Builtin.List.listTooLong (its.toArray.size+its2.toArray.size))=true:=by
  rw[zg3 hsz,Bool.and_false];exact Bool.false_ne_true
 refine call_meets F.slot_list_extend ⟨_,e,rfl⟩ F.entry_list_extend (F.args_list_extend_2 _ _)
  (AutoSeq1.list_extend_list_list_0 l its.toArray n b its2.toArray n2 hlong (by rw[List.size_toArray];omega) (by omega)) ⟨e,e2,?_⟩
 refine⟨.non,_,I.lset (its':=its++its2) hH e (by simp) (r.append r2) ?_,rfl,q⟩;rw[List.length_append];omega
def rCat:R2:=fun x y H Q=>∃l b xs zs,x=.ref l/\y=.ref b/\H l=some (.lst xs)/\H b=some (.lst zs)/\xs.length+zs.length<=sizeLine/\∀p,H p=none->Q (.ref p) (upd H p (.lst (xs++zs)))
theorem op_cat:OpR X (binaryOp .Add) rCat:=by
 intro pins s σ H x y v u Q I rx ry h;obtain⟨l,b,xs,zs,rfl,rfl,hH,hB,hz,q⟩:=h;cases rx;cases ry;obtain⟨z,its,n,r,hl,e⟩:=I.lstM hH;obtain⟨z2,its2,n2,r2,hl2,e2⟩:=I.lstM hB;refine PySem.P.add_list e e2 ?_ (by rw[List.size_toArray,List.size_toArray];omega);have ea:its.toArray++its2.toArray=(its++its2).toArray:=by simp
 rw[ea];exact⟨.ref _,_,I.lnew (t':=s.toks) (r.append r2) (by rw[List.length_append];omega),rfl,q _ I.fresh⟩
def rRep:R2:=fun x y H Q=>∃l k xs,x=.ref l/\y=.int k/\H l=some (.lst xs)/\-(2 ^ 63)<=k/\k<2 ^ 63/\xs.length*k.toNat<=sizeLine/\
 ∀p,H p=none->Q (.ref p) (upd H p (.lst (List.replicate k.toNat xs).flatten))
theorem zlS {α:Type}(xs:List α)(k:Nat):(List.replicate k xs).flatten.length=k*xs.length:=by
 induction k with
 | zero=>simp
 | succ k ih=>rw[List.replicate_succ,List.flatten_cons,List.length_append,ih,Nat.succ_mul,Nat.add_comm]
theorem znU:OpR X (binaryOp .Mult) rRep:=by
 intro pins s σ H x y v u Q I rx ry h;obtain⟨l,k,xs,rfl,rfl,hH,h1,h2,hz,q⟩:=h;cases rx;obtain⟨t,rfl⟩:=ry;obtain⟨z,its,n,r,hl,e⟩:=I.lstM hH;have hlen:its.toArray.size*k.toNat<=sizeLine:=by rw[List.size_toArray,<-hl];exact hz
 have hcap:¬its.toArray.size*k.toNat>(2 ^ 63 - 1) / 8:=by
  have:(sizeLine:Nat)<=(2 ^ 63 - 1) / 8:=by decide
  omega
 have hfit:¬(!Builtin.List.listFitsIndex k)=true:=by
  rw[fitsIndex_both h1 h2];exact Bool.false_ne_true
 have hlong:¬Builtin.List.listTooLong (its.toArray.size*k.toNat)=true:=by
  rw[zg3 hlen];exact Bool.false_ne_true
 have hnew:List.foldl (fun x1 x2=>x1++x2) #[] (List.replicate (if its.toArray.isEmpty=true then 0 else k.toNat) its.toArray)=(List.replicate k.toNat its).flatten.toArray:=by
  have f0:∀m:Nat,List.foldl (fun x1 x2=>x1++x2) #[] (List.replicate m its.toArray)=(List.replicate m its).flatten.toArray:=fun m=>by
   have:=zfT its m []
   rw[List.nil_append] at this;exact this
  rw[f0];cases its with
  | nil=>simp
  | cons a r'=>rw[if_neg (by simp)]
 refine wpAny_binaryOp_repeat_ref (T:="list") (U:="int") (by decide) ⟨_,e,rfl⟩ (fun s'=>typeIs_int s' k t) noFill_list_mul F.fills_int_mul F.slot_int_rmul repeat_list F.slot_int_index.lookup
  (call_meets F.slot_int_rmul (typeIs_int s k t) F.entry_int_rmul (F.args_int_rmul_2 _ _) (int___rmul___int_list k t l its.toArray n)
   ⟨e,rfl,⟨_,e,rfl⟩,call_meets F.slot_list_mul ⟨_,e,rfl⟩ F.entry_list_mul (F.args_list_mul_2 _ _) (AutoListH.list___mul___list_int_3 l its.toArray n k t hfit hcap hlong) ⟨e,?_⟩⟩)
 rw[hnew];exact⟨.ref _,_,I.lnew (t':=s.toks) (r.rep k.toNat) (by rw[zlS,Nat.mul_comm];exact hz),rfl,q _ I.fresh⟩
end
section
variable {prog:Program}{w:World}{A:Around}{E:Value->Shared->Prop}{s:Shared}
end
section
variable {X:Cx}
end
end L2
namespace Att
open PySem PySem.W PySem.Calls PyProof.Rows
theorem zeh {P:Params}{h:Heap}:∀(ns:List Int) (vs:List Value),WellAll P h vs (ns.map WData.int)->IntsAre vs ns:=by
 intro ns;induction ns with
 | nil=>
   intro vs w;rw[List.map_nil] at w;cases w;exact .nil
 | cons n ns ih=>
   intro vs w;rw[List.map_cons] at w;cases w with
   | cons a b=>
     cases a;exact .cons _ _ (ih _ b)
theorem ziv {l:OpenLaw}{n:Nat}(hn:l.most=some n){P:Params}{h:Heap}{args:List WData}{vals:List Value}
 (hpre:l.row.toRowW.claim.pre args=true) (hwl:WellAll P h vals args) :
 ∃a vs ns,vals = [Value.ref a]/\args = [WData.list (ns.map WData.int)]/\h.get? a=some {cls:=.type "list",data:=.seq vs.toArray}/\IntsAre vs ns/\ns.length<=n:=by
 have hsh:WShape.hasAll [] args [.list .int]=true:=(pre_splitW hpre).1
 have hc:l.pre.holds [] {args:=args}=true:=(pre_splitW hpre).2
 obtain⟨d,r,rfl,h1,h2⟩:=hasAllW_cons hsh;obtain rfl:=hasAllW_nil h2;obtain⟨xs,rfl,h3⟩:=hasW_list h1;obtain⟨ns,rfl⟩:=items_int h3;have hlen:ns.length<=n:=by
  unfold OpenLaw.pre at hc;have h4:(WTm.not (.lt (.lit (.int (n:Int))) (.len (.arg 0)))).holds [] {args:=[.list (ns.map .int)]}=true:=by
   have h4:=(holds_andW hc).1
   rw[hn] at h4;exact h4
  have h5:=condW_of h4 (w_not (w_lt w_lit (w_len_list (w_arg rfl))))
  rw[List.length_map] at h5;refine Nat.le_of_not_lt fun q=>?_
  have q':(n:Int)<((ns.length:Nat):Int):=by omega
  first
   | (rw[decide_eq_true q'] at h5;exact absurd h5 (by decide))
   | (simp at h5;omega)
 cases hwl with
 | cons w1 w2=>
   cases w2;cases w1 with
   | list ho hall=>exact⟨_,_,ns,rfl,rfl,ho,zeh ns _ hall,hlen⟩
theorem ziw (l:OpenLaw)(args:List WData):l.row.toRowW.claim.post args (.bool true) args=true:=
 postW_of (r:=l.row.toRowW) (X:=(true == true))
  (show WShape.has [] (.bool true) .bool=true by first | rfl | decide | simp[WShape.has,WShape.arms,WShape.armsAll])
  (show(WTm.eq .res (.lit (.bool true))).value [] {args:=args,res:=some (.bool true),after:=args}=some (.bool (true == true)) from w_eq_bool (w_res rfl) w_lit) rfl
theorem attach_call {l:OpenLaw}{n:Nat}{q:Program}{loose:List Str}{XP:(Str->Option Value)->Heap->Prop}{YP:World->Heap->Prop}{d:DefRec}
 (hn:l.most=some n) (hdf:d.params.defaults = [])
 (call:∀(w:World) (s₀ s₁:Shared) (mg mb:Str->Option Value) (fa:Addr) (o:Obj) (pm cd doc:Value) (a:Addr) (vs:List Value) (ns:List Int),
  Ground q loose [] XP w s₀ mg mb s₁.heap->YP w s₁.heap->
  s₁.heap.get? fa=some o->o.data=.func (docDef d.name d.params d.body d.scope pm cd doc)->s₁.heap.CodeRec cd d.name->mg d.name=some (.ref fa)->
  s₁.heap.get? a=some {cls:=.type "list",data:=.seq vs.toArray}->IntsAre vs ns->ns.length<=n->s₁.gens = #[]->
  codeAny (model l.prog w) callerA (.call (.ref fa) ⟨[.ref a],[]⟩) (fun r s'=>r=.ok (.ret (.bool true))/\OldK s₁.heap s'.heap/\s'.os=s₁.os/\AllBare s'.gens) s₁) :
 WalkO q loose XP YP l.row.toRowW d [] (fun f vs=>PySem.call f vs):=by
 intro w s₀ s₁ mg mb G Y fa o pm cd doc dV kV ho hd hcd hD hmg hg args vals as hpre hlay hrd hwl hlo;obtain rfl:dV=.none:=Dflts.none hD hdf;obtain rfl:kV=.none:=Dflts.noKw hD;obtain⟨a,vs,ns,rfl,rfl,hobj,hints,hlen⟩:=ziv hn hpre hwl;refine enter_call (codeAny_mono (call w s₀ s₁ mg mb fa o pm cd doc a vs ns G Y ho (fd_plain hd) hcd hmg hobj hints hlen hg) fun r s' hq=>?_);obtain⟨rfl,h2,h3,h4⟩:=hq;exact⟨.inl ⟨.bool true,.bool true,[],rfl,fun _=>rfl,.bool true,ziw l _,fun _=>⟨List.Pairwise.nil,fun _ hm=>(nomatch hm)⟩⟩,h2,h3,h4⟩
section
variable {prog:Program}{w:World}{A:Around}{E:Value->Shared->Prop}{s:Shared}{K:Frag}
end
end Att
namespace L2
open PySem PySem.Spec PyProof.Rows
theorem zfU:∀{vs:List Value}{ns:List Int},IntsAre vs ns->Vals (ns.map V.int) vs
 | _,_,.nil=>.nil
 | _,_,.cons n t h=>.cons ⟨t,rfl⟩ (zfU h)
def Only (H:Hp):Prop:=∀b,H b=none\/∃o xs,H b=some (.frz o (.lst xs))
def zcp (s:Stmt):Arguments:=match s with
 | .FunctionDef _ a _ _ _ _ _ _ _ _=>a
 | _=>{posonlyargs:=[],args:=[],vararg:=none,kwonlyargs:=[],kw_defaults:=[],kwarg:=none,defaults:=[]}
def zbc (s:Stmt):List Stmt:=match s with
 | .FunctionDef _ _ b _ _ _ _ _ _ _=>b
 | _=>[]
def zad (s:Stmt):Scope:=match s with
 | .FunctionDef _ _ _ _ _ _ sc _ _ _=>sc
 | _=>{kind:=.function,names:=[],isGenerator:=false,isCoroutine:=false}
abbrev CX0:CXT:=fun _ _ _ _ _ _=>False
abbrev E0:XK:=fun _ _ _=>False
theorem znV {X:Cx}:zin CX0 X E0:=fun _ _ _ _ _ _ _ h=>h.elim
structure Fun (K:W.Frag)(x qual:Str)(st:Stmt)(f:Addr)(fd:FuncData):Prop where
 ex:∃(oc:Value) (od:Option Addr) (kV doc pm:Value) (an:Option Addr) (cdv ct:Value) (osl:Array (Option Value)),
  fd=W.fnOf x qual (zcp st) (zbc st) (zad st) .none kV doc pm an cdv ct/\K.lookup f=some ⟨oc,od,.func fd,osl⟩ /\W.codeIn K cdv qual=true
 kp:W.keepIn K (.ref f)=true
section
variable {P:Program}{w:World}{K:W.Frag}{mg:Str->Option Value}{base:Heap}
theorem Fun.ok {x qual:Str}{st:Stmt}{f:Addr}{fd:FuncData}{N ps:List Str}{k:Nat}{sp:Sp}(F:Fun K x qual st f fd)(S:FnScope N ps (zad st))(len:∀vs H Q E,sp vs H Q E->vs.length=ps.length)
 (hbody:∀(cdv:Value) (A:Around) (outer:List Env) (s:Shared) (H:Hp) (vs:List V) (Q:VK) (E:XK),Room k (A.deeper (envOfC qual (zad st) s.heap.objs.size f cdv))->sp vs H Q E->
  ∃t,PSs (cxOf CX0 P w K mg base N qual (zad st) f cdv A outer s H E).nox (zbc st) t/\t {nx:=fun _ H'=>Q .non H',rt:=Q} (start N vs) H):FnOk P w K mg base CX0 (k+1) f fd ps sp:=by
 obtain⟨oc,od,kV,doc,pm,an,cdv,ct,osl,rfl,lk,hcd⟩:=F.ex;refine znP lk hcd S len fun A outer s H vs Q E hr hsp=>?_
 obtain⟨t,h,q⟩:=hbody cdv A outer s H vs Q E hr hsp;exact⟨t,h.nox,q⟩
theorem Fun.binds {x qual:Str}{st:Stmt}{f:Addr}{fd:FuncData}{ps:List Str}(F:Fun K x qual st f fd)
 (h:∀(kV doc pm:Value) (an:Option Addr) (cdv ct:Value) (us:List Value),us.length=ps.length->bindArgs (W.fnOf x qual (zcp st) (zbc st) (zad st) .none kV doc pm an cdv ct) ⟨us,[]⟩=pure (ps.zip us)):Binds K fd ps []:=by
 obtain⟨oc,od,kV,doc,pm,an,cdv,ct,osl,rfl,lk,hcd⟩:=F.ex;exact .all (h kV doc pm an cdv ct)
theorem zix {x qual:Str}{st:Stmt}{f:Addr}{oc:Value}{od an:Option Addr}{osl:Array (Option Value)}{kV doc pm cdv ct:Value}(l:K.lookup f=some ⟨oc,od,.func (W.fnOf x qual (zcp st) (zbc st) (zad st) .none kV doc pm an cdv ct),osl⟩)
 (c:W.codeIn K cdv qual=true) (k:W.keepIn K (.ref f)=true):Fun K x qual st f (W.fnOf x qual (zcp st) (zbc st) (zad st) .none kV doc pm an cdv ct):=⟨⟨oc,od,kV,doc,pm,an,cdv,ct,osl,rfl,l,c⟩,k⟩
end
theorem zao {A:Around}{k:Nat}(hr:Room k A):A.units+1<cLine:=Nat.lt_of_le_of_lt (Nat.add_le_add_left (by decide:1<=64) _) hr.units
section
variable {X:Cx}
end
theorem iteF {A B:Prop}(h:B):if false=true then A else B:=by
 rw[if_neg Bool.false_ne_true];exact h
theorem iteT {A B:Prop}(h:A):if true=true then A else B:=by
 rw[if_pos rfl];exact h
def Same (H H':Hp):Prop:=∀b o,H b=some o->H' b=some o
theorem Same.refl (H:Hp):Same H H:=fun _ _ h=>h
theorem Same.trans {H H1 H2:Hp}(a:Same H H1)(b:Same H1 H2):Same H H2:=fun c o h=>b c o (a c o h)
theorem Same.free {H H':Hp}(e:Same H H'){l:Addr}(h:H' l=Option.none):H l=Option.none:=by
 cases q:H l with
 | none=>rfl
 | some o=>
   rw[e l o q] at h;cases h
end L2
namespace L2
open PySem PySem.Spec PyProof PyProof.Rows
structure CodeK (K:W.Frag)(c P:Addr):Prop where
 ex:∃(o:Obj) (vs:Array Value) (file:Str) (tf:Tok) (flags:Int) (tg:Tok) (inF:Bool) (text:Int) (tt:Tok),K.lookup c=some o/\o.cls=.type "code"/\o.data=.fields vs/\vs[11]?=some (.ref P)/\vs.getD 11 .none=.ref P/\
  vs.getD 18 .none=.str file tf/\vs.getD 7 .none=.int flags tg/\vs.getD 9 .none=.bool inF/\vs.getD 10 .none=.int text tt/\c≠P
abbrev tabO (ps:Array Value):Obj:={cls:=.none,data:=.fields ps}
theorem CodeK.of {K:W.Frag}{c P:Addr}{h:Heap}{q:Str}(X:K.In h)(hc:W.codeIn K (.ref c) q=true)(B:Based h h c P #[]):CodeK K c P:=by
 have hl:∃o,K.lookup c=some o:=by
  unfold W.codeIn at hc;cases e:K.lookup c with
  | some o=>exact⟨o,rfl⟩
  | none=>simp only[e] at hc;cases hc
 obtain⟨o,lo⟩:=hl;obtain⟨⟨o1,vs1,a1,a2,a3,a4⟩,_⟩:=B.tab;obtain⟨o2,vs2,file,tf,flags,tg,inF,text,tt,op,b1,b2,b3,b4,b5,b6,b7,b8,b9,b10,b11⟩:=B.code;rw[X _ _ lo] at a1 b1;cases a1;cases b1;rw[a3] at b2;cases b2;exact⟨o,_,file,tf,flags,tg,inF,text,tt,lo,a2,a3,a4,b3,b4,b5,b6,b7,b11⟩
section
variable {X:Cx}{pins:List (Addr×Obj)}{σ:St}{H:Hp}{s:Shared}
def TabC (H:Hp)(ps qs:Array Value):Prop:=TriplesOk qs.toList/\∀pos cv,codeAmong pos qs.toList=some cv->∃c' o u vs t q,cv=Value.ref c'/\H c'=some (.frz o u)/\o.data=.fields vs/\vs[1]?=some (Value.str q t)/\ps[0]?=some (Value.str q 0)
theorem Inv.tblAt {P:Addr}{ps:Array Value}(I:Inv X pins σ H s)(h:H P=some (.tbl ps)):∃qs:Array Value,s.heap.get? P=some (tabO qs)/\TabC H ps qs:=I.hok P _ h
theorem Inv.ne_tbl {P b:Addr}{ps:Array Value}(h:H P=some (.tbl ps))(n:H b=none):b≠P:=fun z=>by subst z;rw[h] at n;cases n
end
section
variable {X:Cx}{a b c:Expr}{ta tb tc:TE}{pos:Pos}
def rSlS:V->Option Int->Option Int->Hp->VK->Prop:=fun x lo hi H Q=>∃z,x=.str z/\z.length<=sizeLine/\Q (.str (Txt.slice z lo hi)) H
theorem znW:SlR X rSlS:=by
 intro pins s σ H x v vl vu lo hi sl Q I rx hs pl pu h;obtain⟨z,rfl,hz,q⟩:=h;obtain⟨t,rfl⟩:=rx;refine⟨"str",_,F.slot_str_getitem.lookup,typeIs_str _ _ _,?_⟩;obtain⟨o,e1,e2,e3⟩:=hs;cases pl with
 | none=>
   cases pu with
   | none=>exact wpAny_getItem_str_slice (l:=none) (u:=none) (st:=none) ⟨o,e1,e2,e3⟩ rfl (post_val_or_str ⟨Nat.le_trans (Txt.slice_le z _ _) hz,fun t' k=>⟨.str (Txt.slice z none none),H,I.tok _,⟨_,rfl⟩,q⟩⟩)
   | int j uj=>exact wpAny_getItem_str_slice (l:=none) (u:=some (j,uj)) (st:=none) ⟨o,e1,e2,e3⟩ rfl (post_val_or_str ⟨Nat.le_trans (Txt.slice_le z _ _) hz,fun t' k=>⟨.str (Txt.slice z none (some j)),H,I.tok _,⟨_,rfl⟩,q⟩⟩)
 | int i ui=>
   cases pu with
   | none=>exact wpAny_getItem_str_slice (l:=some (i,ui)) (u:=none) (st:=none) ⟨o,e1,e2,e3⟩ rfl (post_val_or_str ⟨Nat.le_trans (Txt.slice_le z _ _) hz,fun t' k=>⟨.str (Txt.slice z (some i) none),H,I.tok _,⟨_,rfl⟩,q⟩⟩)
   | int j uj=>exact wpAny_getItem_str_slice (l:=some (i,ui)) (u:=some (j,uj)) (st:=none) ⟨o,e1,e2,e3⟩ rfl (post_val_or_str ⟨Nat.le_trans (Txt.slice_le z _ _) hz,fun t' k=>⟨.str (Txt.slice z (some i) (some j)),H,I.tok _,⟨_,rfl⟩,q⟩⟩)
theorem zgr {z:Str}{n:Int}(h1:-1000<=n)(h2:n<=1000)(h3:z.length<=1000):MulOk z n:=by
 refine⟨?_,fun h _=>?_,fun h _=>?_⟩
 ·have e1:¬n < -(2 ^ 63:Int):=by omega
  have e2:¬n≥2 ^ 63:=by omega
  rw[decide_eq_false e1,decide_eq_false e2];rfl
 ·have:(1000:Int)<=(2 ^ 63 - 1) / n:=by
   rw[Int.le_ediv_iff_mul_le (by omega)];omega
  omega
 ·have h4:z.length*n.toNat<=1000*1000:=Nat.mul_le_mul h3 (by omega)
  unfold PySem.Builtin.Str.tooLong;simp only[decide_eq_false_iff_not];have:sizeLine=16777216:=sizeLine_eq
  omega
theorem op_rep_str:OpR X (binaryOp .Mult) (fun x y H Q=>∃z n,x=.str z/\y=.int n/\-1000<=n/\n<=1000/\z.length<=1000/\Q (.str (Txt.mul z n)) H):=by
 intro pins s σ H x y v u Q I rx ry h;obtain⟨z,n,rfl,rfl,h1,h2,h3,q⟩:=h;obtain⟨t,rfl⟩:=rx;obtain⟨t',rfl⟩:=ry;exact SB.mul (zgr h1 h2 h3) fun t' k=>⟨.str (Txt.mul z n),H,I.tok _,⟨_,rfl⟩,q⟩
theorem zgs:zb7 X (.builtin "isinstance") (fun xs H Q=>∃x n t k,xs = [x,.ty n]/\TyOf X.K H x t/\PySem.W.kitOne X.K t (.type n)=some k/\Q (.bl k) H):=by
 intro pins s σ H xs us Q I r h;obtain⟨x,n,t,k,rfl,ty,e,q⟩:=h;obtain⟨u,w',rfl,r1,r2⟩:=zj0 r;obtain rfl:w'=Value.type n:=r2;exact zil I r1 ty e fun tk=>⟨.bl k,H,I.tok _,rfl,q⟩
theorem zhM (bs:List Bool):((List.range bs.length).all fun i=>(bs[i]?).getD true)=bs.all id:=by
 rw[Bool.eq_iff_iff,List.all_eq_true,List.all_eq_true];constructor
 ·intro h b hb;obtain⟨j,hj,rfl⟩:=List.getElem_of_mem hb;have:=h j (List.mem_range.mpr hj)
  rwa [List.getElem?_eq_getElem hj] at this
 ·intro h j hj;have hj':=List.mem_range.mp hj
  rw[List.getElem?_eq_getElem hj'];exact h _ (List.getElem_mem hj')
theorem zeI (hh:X.A.handled=none):zb7 X (.builtin "all") (fun xs H Q=>∃(p:Addr) (bs:List Bool),xs = [.ref p]/\SqL X.K H p (bs.map V.bl)/\Q (.bl (bs.all id)) H):=by
 intro pins s σ H xs us Q I r h;obtain⟨p,bs,rfl,hs,q⟩:=h;obtain⟨u,rfl,r1⟩:=zfI r;obtain rfl:u=Value.ref p:=r1;obtain⟨its,rv,pl,hz⟩:=I.list hs;have hl:=pl.isList
 have hlt:p<s.heap.objs.size:=by obtain⟨_,e,_⟩:=hl;exact Heap.lt_size e
 refine call_all_walk (wpAny_pyIter_list hl ?_);refine⟨s.heap.objs.size,[s.heap.objs.size,p],[s.heap.objs.size],its.toArray.size,_,_,fun i=>(bs[i]?).getD true,rfl,Walks.list (A:=X.A.in1) hh _ p (Nat.ne_of_lt hlt) its.toArray,
  ⟨⟨_,Heap.get?_push_size _ rfl,rfl,rfl⟩,hl.push _⟩,fun i v s' Q' E' hP hQ=>?_,fun h' tk hk=>?_⟩
 ·have e:its[i]?=some v:=by simpa using hP
  cases eb:(bs.map V.bl)[i]? with
  | none=>have:=rv.none_of eb;rw[e] at this;cases this
  | some y=>
    obtain⟨u,e',ry⟩:=rv.get eb;rw[e] at e';cases e';rw[List.getElem?_map] at eb;cases eb':bs[i]? with
    | none=>rw[eb'] at eb;cases eb
    | some k=>
      rw[eb'] at eb;cases eb;obtain rfl:v=Value.bool k:=ry;simp only[eb',Option.getD_some] at hQ;exact wpAny_truthy_bool hQ
 ·have e:((List.range its.toArray.size).all fun i=>(bs[i]?).getD true)=bs.all id:=by
   rw[List.size_toArray,<-rv.length,List.length_map];exact zhM bs
  rw[e];exact⟨.bl _,H,I.kept (t':=tk) (fun b o e=>hk b o (fun hm=>by rw[List.mem_singleton.mp hm] at e;exact Nat.lt_irrefl _ (Heap.lt_size e)) (Heap.get?_push_of_some _ e)),rfl,q⟩
end
theorem ObjOk.there {P:Program}{w:World}{H:Hp}{h:Heap}{a:Addr}{o:HO}(x:ObjOk P w H h a o):∃ob,h.get? a=some ob:=by
 induction o with
 | lst xs=>obtain⟨z,its,n,r,e⟩:=x;exact⟨_,e⟩
 | tup xs=>obtain⟨z,its,r,ob,e,c⟩:=x;exact⟨_,e⟩
 | dK kvs=>obtain⟨z,y,vs,r,ob,es,ep,e,c⟩:=x;exact⟨_,e⟩
 | dT kvs=>obtain⟨z,y,xs,r,ob,es,ep,e,c⟩:=x;exact⟨_,e⟩
 | set S n=>obtain⟨ob,es,ep,t,e,c⟩:=x;exact⟨_,e⟩
 | ins C dx fs=>obtain⟨d,z,ne,e,_⟩:=x;exact⟨_,e⟩
 | own y=>exact x
 | xd fs=>obtain⟨mA,⟨od,es,ep,e,c⟩,r⟩:=x;exact⟨_,e⟩
 | rng lo hi=>obtain⟨t,u,v,e⟩:=x;exact⟨_,e⟩
 | frz ob u ih=>exact⟨_,x.1⟩
 | tbl ps=>obtain⟨_,e,_⟩:=x;exact⟨_,e⟩
 | met f y=>exact⟨_,x⟩
 | ext φ=>exact x.2.1
section
variable {P:Program}{w:World}{K:W.Frag}{mg:Str->Option Value}{base:Heap}
theorem Fun.okC {x qual:Str}{st:Stmt}{f:Addr}{fd:FuncData}{N ps:List Str}{k:Nat}{sp:Sp}(F:Fun K x qual st f fd)(S:FnScope N ps (zad st))(len:∀vs H Q E,sp vs H Q E->vs.length=ps.length)
 (hbody:∀(cdv:Value) (A:Around) (outer:List Env) (s:Shared) (H:Hp) (vs:List V) (Q:VK) (E:XK),fd.code=cdv->Room k (A.deeper (envOfC qual (zad st) s.heap.objs.size f cdv))->sp vs H Q E->
  ∃t,PSs (cxOf CX0 P w K mg base N qual (zad st) f cdv A outer s H E).nox (zbc st) t/\t {nx:=fun _ H'=>Q .non H',rt:=Q} (start N vs) H):FnOk P w K mg base CX0 (k+1) f fd ps sp:=by
 obtain⟨oc,od,kV,doc,pm,an,cdv,ct,osl,rfl,lk,hcd⟩:=F.ex;refine znP lk hcd S len fun A outer s H vs Q E hr hsp=>?_
 obtain⟨t,h,q⟩:=hbody cdv A outer s H vs Q E rfl hr hsp;exact⟨t,h.nox,q⟩
end
structure Tabs (K:W.Frag)(h:Heap)(tb:List Addr):Prop where
 at_:∀P∈tb,∃c,h.TableAt c P #[]
 out:∀P∈tb,K.lookup P=none
theorem ziy {P:Program}{w:World}{K:W.Frag}{mg mb:Str->Option Value}{CX:CXT}{k:Nat}{fa a bm:Addr}{ob:Obj}{fd:FuncData}{x:Str}{sp:Sp}{s₁:Shared}{vs:List Value}{ns:List Int}{tb:List Addr}{nm:Addr->Array Value}
 (KX:K.In s₁.heap) (hns:s₁.heap.Ns mainGlobals mg) (hb:s₁.heap.Ns builtinsNs mb) (hbb:∀x:Str,x≠"__name__"->mb x=bootBuiltins x) (hlim:s₁.heap.NoLimit) (hg:s₁.gens = #[]) (hBM:BMod s₁.heap mainGlobals mg bm ob)
 (ha:s₁.heap.get? a=some {cls:=.type "list",data:=.seq vs.toArray}) (hi:IntsAre vs ns) (hl:ns.length<=sizeLine) (hr:Room k callerA) (hT:Tabs K s₁.heap tb)
 (F:∀base:Heap,K.In base->base.Ns mainGlobals mg->BMod base mainGlobals mg bm ob->FnOk P w K mg base CX k fa fd [x] sp) (hbind:∀(s:Shared) (u:Value),BindsTo s fd ⟨[u],[]⟩ [(x,u)])
 (hsp:∀H:Hp,(∀P∈tb,H P=some (.tbl (nm P)))->SqL K H a (ns.map V.int)->(H a≠none->∃o xs,H a=some (.frz o (.lst xs)))->sp [.ref a] H (fun v _=>v=.bl true) fun _ _ _=>False)
 (hCX:∀H e s',CX [] H s₁ (fun _ _ _=>False) e s'->False) :
 codeAny (model P w) callerA (.call (.ref fa) ⟨[.ref a],[]⟩) (fun r s'=>r=.ok (.ret (.bool true))/\OldK s₁.heap s'.heap/\s'.os=s₁.os/\AllBare s'.gens) s₁:=by
 have rv:=zfU hi
 have lenV:=hi.length
 have tabAt:∀P∈tb,s₁.heap.get? P=some (tabO #[]):=fun P hP=>by obtain⟨c,h⟩:=hT.at_ P hP;exact h.2
 have aT:a∉tb:=fun h=>by have:=tabAt a h;rw[ha] at this;cases this
 have core:∀H:Hp,(∀P∈tb,H P=some (.tbl (nm P)))->SqL K H a (ns.map V.int)->HOk P w H s₁.heap->(∀b,H b≠none->b=a\/b∈tb)->(H a≠none->K.lookup a=none/\∃o xs,H a=some (.frz o (.lst xs)))->
  codeAny (model P w) callerA (.call (.ref fa) ⟨[.ref a],[]⟩) (fun r s'=>r=.ok (.ret (.bool true))/\OldK s₁.heap s'.heap/\s'.os=s₁.os/\AllBare s'.gens) s₁:=by
  intro H hTb hS hok hA hK;have base_of:∀{b:Addr}{o:Obj},s₁.heap.get? b=some o->H b=none->(hidT s₁.heap H).get? b=some o:=fun e n=>zjS e n
  have noA:∀{b:Addr}{o:Obj},s₁.heap.get? b=some o->o.cls≠.type "list"->(o.cls≠.none\/∃es ep,o.data=.dict es ep)->H b=none:=fun {b o} e d1 d2=>by
   cases q:H b with
   | none=>rfl
   | some u=>
     rcases hA b (by rw[q];simp) with e' | e'
     ·subst e';rw[ha] at e;cases e;exact absurd rfl d1
     ·rw[tabAt b e'] at e;cases e;rcases d2 with d | ⟨es,ep,d⟩
      ·exact absurd rfl d
      ·cases d
  have noD:∀{b:Addr}{o:Obj}{es:Array DictEntry}{ep:Nat},s₁.heap.get? b=some o->o.data=.dict es ep->H b=none:=fun {b o es ep} e d=>by
   cases q:H b with
   | none=>rfl
   | some u=>
     rcases hA b (by rw[q];simp) with e' | e'
     ·subst e';rw[ha] at e;cases e;have d':Data.seq vs.toArray _=Data.dict es ep:=d
      cases d'
     ·rw[tabAt b e'] at e;cases e;cases d
  have nsK:∀{b:Addr}{m:Str->Option Value},s₁.heap.Ns b m->(hidT s₁.heap H).Ns b m:=fun {b m} ⟨o,es,ep,e,d,r⟩ =>⟨o,es,ep,base_of e (noD e d),d,r⟩
  have hKb:K.In (hidT s₁.heap H):=fun b o e=>base_of (KX b o e) (by
   cases q:H b with
   | none=>rfl
   | some u=>
     rcases hA b (by rw[q];simp) with e' | e'
     ·subst e';rw[(hK (by rw[q];simp)).1] at e;cases e
     ·rw[hT.out b e'] at e;cases e)
  have hM:Mod K mg (hidT s₁.heap H):=⟨hKb,nsK hns,⟨mb,nsK hb,hbb⟩,let ⟨mc,h1,h2⟩:=hlim;⟨mc,nsK h1,h2⟩⟩
  have hBM':BMod (hidT s₁.heap H) mainGlobals mg bm ob:=⟨nsK hBM.ns,hBM.name,hBM.ne,base_of hBM.obj (noA hBM.obj (by rw[hBM.cls];simp) (.inl (by rw[hBM.cls];simp))),hBM.cls,hBM.dict,hBM.data⟩
  have e0:Env0 P w K mg (hidT s₁.heap H) callerA [] s₁ H:=⟨rfl,hM,fun b o e=>zlA e,Nat.le_of_eq (zib _ _),trivial,fun b hb=>absurd (show b∈([]:List Addr) from hb) (by simp),hok,.of_eq hg⟩
  refine codeAny_mono ((F _ hKb (nsK hns) hBM').run callerA [] s₁ H ⟨[.ref a],[]⟩ [.ref a] [.ref a] _ _ hr e0 (hbind s₁ (.ref a)) (.cons rfl .nil) (hsp H hTb hS fun z=>(hK z).2)) fun r s' h=>?_
  cases r with
  | error e=>exact(hCX H e s' h).elim
  | ok fl=>
    cases fl with
    | next=>exact False.elim h
    | brk=>exact False.elim h
    | cont=>exact False.elim h
    | ret u=>
      obtain⟨v,H',os,bare,un,hok',r',q⟩:=h;have q':v=.bl true:=q
      subst q';obtain rfl:u=Value.bool true:=r';have key:∀b o,s₁.heap.get? b=some o->asItWas s₁.heap s'.heap b o:=fun b o e=>by
       cases q:H b with
       | none=>exact .inl (un.keep b o e q (by intro z;exact absurd (show b∈([]:List Addr) from z) (by simp)) (by simp))
       | some u=>
         rcases hA b (by rw[q];simp) with e' | e'
         ·subst e';obtain⟨_,oo,xs,z⟩:=hK (by rw[q];simp);have z2:=un.frzs b oo _ z
          obtain⟨e1,_⟩:=hok b _ z;obtain⟨e2,_⟩:=hok' b _ z2;rw[e] at e1;cases e1;exact .inl e2
         ·obtain⟨more,z⟩:=un.tbls b _ (hTb b e');obtain⟨qs,e2,_⟩:=hok' b _ z;obtain⟨c,ht⟩:=hT.at_ b e';rw[tabAt b e'] at e;cases e;exact .inr (.inl ⟨ht.isCodeTable,rfl,#[],qs,rfl,by simpa using e2⟩)
      refine⟨rfl,⟨key,fun b o e=>un.there b o e (by simp)⟩,os,bare⟩
 cases hk:K.lookup a with
 | some o=>
   have e:=KX a o hk
   rw[ha] at e;cases e;refine core (fun b=>if b∈tb then some (.tbl (nm b)) else none) (fun P hP=>if_pos hP) (.inr ⟨_,vs.toArray,_,hk,rfl,rfl,rfl,by rw[List.size_toArray,lenV];exact hl,by simpa using rv⟩) (fun b u z=>?_) (fun b z=>?_) fun z=>absurd (if_neg aT) z
   ·by_cases hb':b∈tb
    ·have z':=(if_pos hb').symm.trans z
     cases z';exact⟨#[],tabAt b hb',trivial,fun pos cv q=>by simp[codeAmong] at q⟩
    ·have z':=(if_neg hb').symm.trans z
     cases z'
   ·by_cases hb':b∈tb
    ·exact .inr hb'
    ·exact absurd (if_neg hb') z
 | none=>
   have hA:∀b,(if b=a then some (HO.frz {cls:=.type "list",data:=.seq vs.toArray} (.lst (ns.map V.int))) else if b∈tb then some (.tbl (nm b)) else none:Option HO)≠none->b=a\/b∈tb:=fun b z=>by
    by_cases h1:b=a
    ·exact .inl h1
    ·rw[if_neg h1] at z;by_cases h2:b∈tb
     ·exact .inr h2
     ·rw[if_neg h2] at z;exact absurd rfl z
   refine core (fun b=>if b=a then some (.frz {cls:=.type "list",data:=.seq vs.toArray} (.lst (ns.map V.int))) else if b∈tb then some (.tbl (nm b)) else none) (fun P hP=>?_) (.inl (.inr ⟨{cls:=.type "list",data:=.seq vs.toArray},if_pos rfl⟩)) (fun b u z=>?_) hA fun _=>⟨hk,_,_,if_pos rfl⟩
   ·have:P≠a:=fun z=>aT (z▸hP)
    show(if P=a then _ else if P∈tb then _ else _)=_
    rw[if_neg this,if_pos hP]
   ·by_cases hb':b=a
    ·have z':=(if_pos hb').symm.trans z
     cases z';subst hb';exact⟨ha,by rw[List.length_map];exact hl,vs,_,rv,ha⟩
    ·have z':=(if_neg hb').symm.trans z
     by_cases h2:b∈tb
     ·have z2:=(if_pos h2).symm.trans z'
      cases z2;exact⟨#[],tabAt b h2,trivial,fun pos cv q=>by simp[codeAmong] at q⟩
     ·have z2:=(if_neg h2).symm.trans z'
      cases z2
theorem zlT {K:W.Frag}{h:Heap}{mg:Str->Option Value}{c P:Addr}{ps:Array Value}(X:K.In h)(G:h.Ns mainGlobals mg)(B:Based h h c P ps)(hK:PySem.W.kb_classed K=true):K.lookup P=none:=by
 cases e:K.lookup P with
 | none=>rfl
 | some o=>
   have ha:=X P o e
   have q:=List.all_eq_true.mp hK (P,o) (PySem.W.kb_mem e)
   simp only[Bool.or_eq_true,decide_eq_true_eq,beq_iff_eq] at q;rcases q with(q | q) | q
   ·exact absurd rfl (B.ne_of_cls ha q)
   ·exact absurd q B.notStatics
   ·exact absurd q.symm (B.ne_of_ns G)
theorem zj4 {l:PySem.W.OpenLaw}{n k:Nat}{q:Program}{loose:List Str}{XP:(Str->Option Value)->Heap->Prop}{YP:World->Heap->Prop}{d:DefRec}{K:Params->W.Frag}{CX:World->CXT}{sp:World->List Addr->(Addr->Array Value)->Sp}{x:Str}
 (hn:l.most=some n) (hn2:n<=sizeLine) (hdf:d.params.defaults = []) (hr:Room k callerA)
 (hY:∀(w:World) (h:Heap),YP w h->(K w.params).In h)
 (F:∀(w:World) (mg mb:Str->Option Value) (mean:ExcName->Option Value) (fa:Addr) (h:Heap),(K w.params).In h->Top q (PySem.W.looseW q loose) mean mg mb h->mg d.name=some (.ref fa)->
  ∃(fd:FuncData) (tb:List Addr) (nm:Addr->Array Value),Tabs (K w.params) h tb/\(∀(s:Shared) (u:Value),BindsTo s fd ⟨[u],[]⟩ [(x,u)])/\
   ∀(base:Heap) (bm:Addr) (ob:Obj),(K w.params).In base->base.Ns mainGlobals mg->BMod base mainGlobals mg bm ob->FnOk l.prog w (K w.params) mg base (CX w) k fa fd [x] (sp w tb nm))
 (hsp:∀(w:World) (tb:List Addr) (nm:Addr->Array Value) (H:Hp) (a:Addr) (ns:List Int),ns.length<=n->(∀P∈tb,H P=some (.tbl (nm P)))->SqL (K w.params) H a (ns.map V.int)->(H a≠none->∃o xs,H a=some (.frz o (.lst xs)))->sp w tb nm [.ref a] H (fun v _=>v=.bl true) fun _ _ _=>False)
 (hCX:∀(w:World) (H:Hp) (s:Shared) (e:Value) (s':Shared),CX w [] H s (fun _ _ _=>False) e s'->False) :
 PySem.W.WalkO q loose XP YP l.row.toRowW d [] (fun f vs=>PySem.call f vs):=by
 refine Att.attach_call hn hdf fun w s₀ s₁ mg mb fa o pm cd doc a vs ns G Y ho hd hcd hmg hobj hints hlen hg=>?_
 have KX:=hY w _ Y
 obtain⟨fd,tb,nm,hT,hb,hF⟩:=F w mg mb _ fa _ KX G.T hmg;obtain⟨bm,ob,hBM⟩:=PySem.W.bmod_of_top G.T;exact ziy KX G.T.g G.T.b G.T.builtins G.T.nolimit hg hBM hobj hints (Nat.le_trans hlen hn2) hr hT (fun base h1 h2 h3=>hF base bm ob h1 h2 h3) hb (fun H hO hS hF=>hsp w tb nm H a ns hlen hO hS hF) fun H e s'=>hCX w H s₁ e s'
def PTs (X:Cx)(ifs:List Expr)(t:TT):Prop:=
 ∀(pins:List (Addr×Obj)) (s:Shared) (σ:St) (H:Hp) (Q:Bool->Hp->Prop),Inv X pins σ H s->t σ H Q->
  wpAny (model X.prog X.w) X.A (forIn ifs true fun c r=>if r=true then do let ok <-isTrue c X.env (eval c X.env);pure (ForInStep.yield ok) else pure (ForInStep.yield r)) (TP X pins σ Q) X.xe s
def zlU:TT:=fun _ H Q=>Q true H
theorem zlV {X:Cx}:PTs X [] zlU:=fun _ _ _ H _ I h=>wpAny_tests_nil ⟨H,I,h⟩
theorem zlW {X:Cx}{c:Expr}{t:TT}(h:PT X c t):PTs X [c] t:=fun pins s σ H Q I hw=>wpAny_tests_one (h pins s σ H Q I hw)
def cxC (X:Cx)(scope:Scope)(cl:List (Str×Addr))(NC:List Str)(C:Addr)(s0:Shared)(H0:Hp)(ex:List Addr)(pn:List (Addr×Obj)):Cx where
 prog:=X.prog
 w:=X.w
 K:=X.K
 mg:=X.mg
 base:=X.base
 A:=X.A
 N:=NC
 s₀:=s0
 Hz:=H0
 env:=compEnvC scope cl C X.env
 outer:=X.stack
 stack:=X.stack
 ex:=ex
 fn:=fun _=>false
 calm:=true
 pn:=pn
 xe:=fun _ _=>False
def pick (σ:St)(fr:List (Option Nat)):St:=fr.map fun o=>o.bind fun j=>(σ[j]?).join
theorem zfV {prog:Program}{w:World}{A:Around}{R:Result->Shared->Prop}{s:Shared}{elt target iter:Expr}{ifs:List Expr}{scope:Scope}{pos:Pos}{it acc:Value}{env:Env}(I:Nat->Shared->Prop)
 (turn:∀n s,I n s->wpAny (model prog w) A (pyNext it) (fun r s1=>
  (r=none->R (.ok .next) s1)/\∀v,r=some v->wpAny (model prog w) A (letOwnedTupleGo target it v) (fun _ s2=>wpAny (model prog w) A (assign target env v) (fun _ s3=>
   wpAny (model prog w) A (forIn ifs true fun c r=>if r=true then do let ok <-isTrue c env (eval c env);pure (ForInStep.yield ok) else pure (ForInStep.yield r)) (fun ok s4=>
    (ok=true->wpAny (model prog w) A (eval elt env) (fun x s5=>wpAny (model prog w) A (call (.builtin "list.append") [acc,x]) (fun _ s6=>∃m,m<n/\I m s6) (fun _ _=>False) s5) (fun _ _=>False) s4)/\
    (ok=false->∃m,m<n/\I m s4)) (fun _ _=>False) s3) (fun _ _=>False) s2) (fun _ _=>False) s1) (fun _ _=>False) s)
 (n:Nat) (h:I n s):codeAny (model prog w) A (.compLoop (.ListComp elt [⟨target,iter,ifs,0⟩] scope pos) 0 it acc env) R s:=by
 refine codeAny_loop rfl I (fun n s hI=>?_) n h;refine wpAny_noted (m:=compTurn (.ListComp elt [⟨target,iter,ifs,0⟩] scope pos) 0 it acc env) ?_;rw[compTurn_list];refine wpAny_bind (wpAny_standAt (wpAny_bind (wpAny_mono (turn n s hI) (fun r s1 h1=>?_) fun _ _ f=>f.elim)));cases r with
 | none=>exact wpAny_pure (h1.1 rfl)
 | some v=>
   refine wpAny_bind (wpAny_mono (h1.2 v rfl) (fun _ s2 h2=>?_) fun _ _ f=>f.elim);refine wpAny_bind (wpAny_mono h2 (fun _ s3 h3=>?_) fun _ _ f=>f.elim);refine wpAny_bind (wpAny_mono h3 (fun ok s4 h4=>?_) fun _ _ f=>f.elim);cases ok with
   | false=>exact wpAny_pure ⟨rfl,h4.2 rfl⟩
   | true=>exact wpAny_bind (wpAny_bind (wpAny_mono (h4.1 rfl) (fun x s5 h5=>wpAny_bind (wpAny_mono h5 (fun _ s6 h6=>wpAny_pure (wpAny_pure ⟨rfl,h6⟩)) fun _ _ f=>f.elim)) fun _ _ f=>f.elim))
def zgt (fr:List (Option Nat))(wi:TI)(g:TG)(tt:TT)(te:TE):TE:=fun σ H Q=>wi σ H fun J H1=>∀D,H1 D=none->∃W:Nat->Nat->List V->St->Hp->Prop,
 (∃m,W 0 m [] (pick σ fr) (upd H1 D (.lst [])))/\∀i m ys σ2 H2,W i m ys σ2 H2->H2 D=some (.lst ys)->
  (J.stop i H2/\Q (.ref D) H2)\/(J.go i H2/\∃N:List V->St->Hp->Prop,(∀zs σ' H',N zs σ' H'->∃m',m'<m/\W (i+1) m' zs σ' H')/\∀x H3,J.yld i H2 x H3->g x σ2 H3 fun σ4 H4=>tt σ4 H4 fun ok H5=>
   (ok=true->te σ4 H5 fun v H6=>H6 D=some (.lst ys)/\ys.length<sizeLine/\N (ys++[v]) σ4 (upd H6 D (.lst (ys++[v]))))/\
   (ok=false->H5 D=some (.lst ys)/\N ys σ4 H5))
theorem zj5 {X:Cx}{elt iter tg:Expr}{ifs:List Expr}{scope:Scope}{pos:Pos}{cl:List (Str×Addr)}{NC:List Str}{fr:List (Option Nat)}{wi:TI}{g:TG}{tt:TT}{te:TE}{RR:Hp->Prop}(hRR:∀pins σ H s,Inv X pins σ H s->RR H)(hcalm:X.calm=true)(hi:PI X tg iter wi)
 (hclos:closureFor scope X.env=pure cl) (hcell:∀y∈scope.names,y.2≠.cell) (hkind:scope.kind=.function) (hnames:∀y∈scope.names,y.2=.local->scope.names.lookup y.1=some .local)
 (hcl:∀x c,cl.lookup x=some c->X.env.cells.lookup x=some c)
 (hhas:∀x,((compEnvC scope cl 0 X.env).kindOf x=some .cell\/(compEnvC scope cl 0 X.env).kindOf x=some .free)->∃c,cl.lookup x=some c)
 (hfr:∀(i:Nat) (x:Str) (j:Nat),NC[i]?=some x->fr[i]?=some (some j)->X.N[j]?=some x/\Vis X.env.scope x/\X.env.kindOf x≠some .local/\((compEnvC scope cl 0 X.env).kindOf x=some .cell\/(compEnvC scope cl 0 X.env).kindOf x=some .free))
 (hlen:fr.length=NC.length)
 (hg:∀C s0 H0 ex pn,PG (cxC X scope cl NC C s0 H0 ex pn) tg g) (ht:∀C s0 H0 ex pn,PTs (cxC X scope cl NC C s0 H0 ex pn) ifs tt) (he:∀C s0 H0 ex pn,RR H0->PE (cxC X scope cl NC C s0 H0 ex pn) elt te)
 (hs:∀x,foldedSetIterable iter X.env x=pure x:=by intro _;rfl):PE X (.ListComp elt [⟨tg,iter,ifs,0⟩] scope pos) (zgt fr wi g tt te):=by
 intro pins s σ H Q I h;rw[eval_ListComp];refine wpAny_comprehension_free (use:=none) (g:=⟨tg,iter,ifs,0⟩) (gs:=[]) rfl hs hclos hkind hnames (thn (hi pins s σ H _ I h) fun v s1 h1=>thn h1 fun itv s2 h2=>?_);obtain⟨it,fp,tn,J,H1,e,I2,T,st2,f2,hW⟩:=h2;subst e;refine wpAny_newObj_type (wpAny_newFunctionEnv hcell (by intro y hy;simp at hy) (fun h4 hn4 hs4=>?_) hkind);have hD0:H1 s2.heap.objs.size=none:=I2.hok.fresh (Nat.le_refl _)
 obtain⟨W,⟨m0,w0⟩,turn⟩:=hW s2.heap.objs.size hD0;generalize hDe:s2.heap.objs.size=D at hD0 w0 turn;generalize h3e:s2.heap.push {cls:=.type "list",dict:=none,data:=.seq ([]:List Value).toArray}=h3 at hn4 hs4;have sz3:h3.objs.size=D+1:=by rw[<-h3e,Heap.size_push,hDe]
 have k3:∀b o,s2.heap.get? b=some o->h3.get? b=some o:=fun b o e=>by rw[<-h3e];exact Heap.get?_push_of_some _ e
 have ltD:∀{b:Addr}{o:Obj},s2.heap.get? b=some o->b<D:=fun e=>by rw[<-hDe];exact Heap.lt_size e
 have d3:h3.get? D=some {cls:=.type "list",data:=.seq ([]:List Value).toArray}:=by rw[<-h3e,<-hDe];exact Heap.get?_push_size _ rfl
 have I3:Inv X pins σ (upd H1 D (.lst [])) {s2 with heap:=h3}:=I2.laid (h':=h3) (t':=s2.toks) k3 (Nat.le_of_eq hDe) ⟨Nat.zero_le _,[],0,.nil,d3⟩
 have rH:=hRR _ _ _ _ I3
 generalize hCe:h3.objs.size=C at hn4 hs4;have k4:∀b o,h3.get? b=some o->h4.get? b=some o:=fun b o e=>hs4.extBut b o (fun z=>by rw[z,<-hCe] at e;exact absurd (Heap.lt_size e) (Nat.lt_irrefl _)) (Heap.get?_push_of_some _ e)
 have ltC:∀{b:Addr}{o:Obj},h3.get? b=some o->b<C:=fun e=>by rw[<-hCe];exact Heap.lt_size e
 have hne:∀(c:Env->Addr),True:=fun _=>trivial
 have okC:(cxC X scope cl NC C {s2 with heap:=h3} (upd H1 D (.lst [])) fp (X.pn++pins)).Ok:=by
  refine⟨I.ok.mod,?_,I.ok.glob,I.ok.blt,Nat.le_of_eq hCe,fun x y c h1 h2=>I.ok.inj x y c (hcl x c h1) (hcl y c h2),fun x hx=>hhas x hx,fun x c hf _=>(by cases hf),fun _=>I.ok.hd hcalm,I.ok.frames,.inl rfl,fun b hb=>⟨?_,fun x c e=>?_⟩,fun b o e=>I3.bs b o e,?_,fun b o e hb=>?_,fun b hb hf=>?_,?_,fun b hb=>I3.stkFree b hb⟩
  ·show(relabel scope X.env).kind=.function
   exact hkind
  ·obtain⟨o,eo,_⟩:=T.obj _ _ st2 b hb;exact Nat.ne_of_lt (ltC (k3 b o eo))
  ·exact(f2 b hb).2.2.2.2.1 x c (hcl x c e)
  ·exact Nat.le_trans I.ok.bsz I3.sz
  ·obtain⟨e1,_⟩:=I.ok.bs b o e;have f:=f2 b hb
   rcases f.2.2.2.1 with z | z
   ·exact I.ok.noex b o e z
   ·exact absurd (Nat.lt_of_lt_of_le (Heap.lt_size e1) z) (Nat.lt_irrefl _)
  ·rcases List.mem_cons.mp (I2.stkSub b hf) with z | z
   ·exact(f2 b hb).2.1 z
   ·exact(f2 b hb).2.2.1 z
  ·exact I3.stack
 have IC:Inv (cxC X scope cl NC C {s2 with heap:=h3} (upd H1 D (.lst [])) fp (X.pn++pins)) [] (pick σ fr) (upd H1 D (.lst [])) {s2 with heap:=h4,toks:=s2.toks+([]:List (Str×Value)).length}:=by
  refine⟨okC,rfl,I2.bare,Un.kept k4,⟨_,hn4,fun i x v hN hv hvis=>?_⟩,fun x c e=>?_,?_,fun x c e=>I3.freeC x c (hcl x c e),fun p hp=>?_,I3.hok.kept k4,?_⟩
  ·have hfi:∃j,fr[i]?=some (some j)/\σ[j]?=some (some v):=by
    unfold pick at hv;rw[List.getElem?_map] at hv;cases e1:fr[i]? with
    | none=>rw[e1] at hv;cases hv
    | some o=>
      rw[e1] at hv;cases o with
      | none=>cases hv
      | some j=>
        refine⟨j,rfl,?_⟩;have hv':(σ[j]?).join=some v:=Option.some.inj hv
        cases e2:σ[j]? with
        | none=>rw[e2] at hv';cases hv'
        | some w'=>rw[e2] at hv';exact congrArg some hv'
   obtain⟨j,hj,hσ⟩:=hfi;obtain⟨q1,q2,q3,q4⟩:=hfr i x j hN hj;obtain⟨m,hm,hl⟩:=I3.loc;obtain⟨u,ru,lk⟩:=hl j x v q1 hσ q2;refine⟨u,ru,?_⟩;rcases lk with⟨z,_⟩ | ⟨_,c,ec,ic⟩
   ·exact absurd z q3
   ·obtain⟨c',ec'⟩:=hhas x q4;have:c'=c:=by rw[hcl x c' ec'] at ec;exact Option.some.inj ec
    subst this;obtain⟨oc,h1,h2⟩:=ic;exact .inr ⟨q4,c',ec',oc,k4 _ _ h1,h2⟩
  ·obtain⟨v,oc,h1,h2⟩:=I3.cell x c (hcl x c e);exact⟨v,oc,k4 _ _ h1,h2⟩
  ·show upd H1 D (.lst []) C=none
   exact I3.hok.fresh (Nat.le_of_eq hCe)
  ·have hp':p∈X.pn++pins:=by simpa[cxC] using hp
   obtain⟨e1,e2,e3,e4,e5⟩:=I3.pin p hp';refine⟨k4 _ _ e1,e2,Nat.ne_of_lt (ltC e1),fun z=>?_,e5⟩;rcases List.mem_cons.mp (I2.stkSub p.1 z) with z' | z'
   ·exact e3 z'
   ·exact e4 z'
  ·unfold pick;rw[List.length_map];exact hlen
 have fC:∀b∈fp,FpOk (cxC X scope cl NC C {s2 with heap:=h3} (upd H1 D (.lst [])) fp (X.pn++pins)) [] H1 b:=fun b hb=>by
  obtain⟨q1,q2,q3,q4,q5,q6⟩:=f2 b hb;obtain⟨o,eo,_⟩:=T.obj _ _ st2 b hb;refine⟨q1,Nat.ne_of_lt (ltC (k3 b o eo)),fun z=>?_,.inl hb,fun x c e=>q5 x c (hcl x c e),fun p hp=>q6 p (by simpa[cxC] using hp)⟩;rcases List.mem_cons.mp (I2.stkSub b z) with z' | z'
  ·exact q2 z'
  ·exact q3 z'
 have stat:∀{H':Hp},(∀b∈fp,H' b=none)->∀b∈fp,FpOk (cxC X scope cl NC C {s2 with heap:=h3} (upd H1 D (.lst [])) fp (X.pn++pins)) [] H' b:=fun hn b hb=>⟨hn b hb,(fC b hb).2⟩
 have fD:∀b∈fp,b≠D:=fun b hb z=>by
  obtain⟨o,eo,_⟩:=T.obj _ _ st2 b hb;have:=ltD eo
  rw[z] at this;exact absurd this (Nat.lt_irrefl _)
 have st4:tn 0 h4:=T.keep _ _ _ st2 fun b hb o e=>k4 b o (k3 b o e)
 have fin:∀{σ':St}{H':Hp}{s':Shared},Inv (cxC X scope cl NC C {s2 with heap:=h3} (upd H1 D (.lst [])) fp (X.pn++pins)) [] σ' H' s'->Q (.ref D) H'->compPost (model X.prog X.w) X.A X.xe none (EP X pins σ Q) (.ref D) C (.ok .next) s':=fun {σ' H' s'} I' q'=>by
  obtain⟨m,hm,_⟩:=I'.loc;refine⟨m,hm,fun h' hs'=>⟨.ref D,H',?_,rfl,q'⟩⟩;have nC:∀{b:Addr}{o:Obj},s2.heap.get? b=some o->b≠C:=fun e=>Nat.ne_of_lt (ltC (k3 _ _ e))
  have nD:∀{b:Addr}{o:Obj},s2.heap.get? b=some o->b≠D:=fun e=>Nat.ne_of_lt (ltD e)
  refine I2.call' (s':={s' with heap:=h'}) (ch:=fp) ?_ ⟨fun b o e n hf hx=>?_,fun b o e n hf hx=>?_,fun b o e n hx=>?_,fun b o e hx=>?_,fun b xs e=>?_,fun b o u e=>?_,fun b ps e=>?_⟩ (fun b u e=>?_) I'.bare fun b hb=>?_
  ·exact I'.os
  ·exact hs'.extBut b o (nC e) (I'.base.keep b o (k3 b o e) (by show upd H1 D _ b=none;rw[zah (nD e)];exact n) hf hx)
  ·obtain⟨sl,z⟩:=I'.base.slot b o (k3 b o e) (by show upd H1 D _ b=none;rw[zah (nD e)];exact n) hf hx;exact⟨sl,hs'.extBut b _ (nC e) z⟩
  ·exact I'.base.free b o (k3 b o e) (by show upd H1 D _ b=none;rw[zah (nD e)];exact n) hx
  ·obtain⟨o',z⟩:=I'.base.there b o (k3 b o e) hx;exact⟨o',hs'.extBut b _ (nC e) z⟩
  ·exact I'.base.tups b xs (by show upd H1 D _ b=_;rw[zah (zaH e hD0)];exact e)
  ·exact I'.base.frzs b o u (by show upd H1 D _ b=_;rw[zah (zaH e hD0)];exact e)
  ·exact I'.base.tbls b ps (by show upd H1 D _ b=_;rw[zah (zaH e hD0)];exact e)
  ·have cC:H' C=none:=I'.free
   refine(I'.hok b u e).stay (fun c v hc q=>hs'.extBut c v (fun z=>?_) q) (fun _ q=>q) fun _ _ _ q=>q
   rcases hc with r | r
   ·rw[z] at r;rw[<-r,cC] at e;cases e
   ·rw[z,cC] at r;cases r
  ·obtain⟨q1,q2,q3,q4,q5,q6⟩:=f2 b hb;exact⟨q4,q2,q5,q6⟩
 have loop:codeAny (model X.prog X.w) X.A (.compLoop (.ListComp elt [⟨tg,iter,ifs,0⟩] scope pos) 0 (.ref it) (.ref D) (compEnvC scope cl C X.env)) (compPost (model X.prog X.w) X.A X.xe none (EP X pins σ Q) (.ref D) C) {s2 with heap:=h4,toks:=s2.toks+([]:List (Str×Value)).length}:=by
  refine zfV (fun n s'=>∃i ys σ' H',Inv (cxC X scope cl NC C {s2 with heap:=h3} (upd H1 D (.lst [])) fp (X.pn++pins)) [] σ' H' s'/\tn i s'.heap/\(∀b∈fp,H' b=none)/\H' D=some (.lst ys)/\W i n ys σ' H') ?_ m0 ⟨0,[],_,_,IC,st4,fun b hb=>by rw[zah (fD b hb)];exact(f2 b hb).1,zai,w0⟩;rintro n s3 ⟨i,ys,σ3,H3,J3,st3,fr3,hD3,w3⟩;rcases turn i n ys σ3 H3 w3 hD3 with⟨stop,qn⟩ | ⟨go,N,hN,step⟩
  ·refine thn (T.done (cxC X scope cl NC C {s2 with heap:=h3} (upd H1 D (.lst [])) fp (X.pn++pins)) rfl rfl rfl rfl i [] s3 σ3 H3 _ J3 (stat fr3) st3 stop) fun r s4 ⟨hr,J4⟩ =>⟨fun _=>fin J4 qn,fun v z=>?_⟩
   rw[hr] at z;cases z
  ·refine thn (T.item (cxC X scope cl NC C {s2 with heap:=h3} (upd H1 D (.lst [])) fp (X.pn++pins)) rfl rfl rfl rfl i [] s3 σ3 H3 _ J3 (stat fr3) st3 go) fun r s4 ⟨u,hr,h4'⟩ =>⟨fun z=>?_,fun v z=>?_⟩
   ·rw[hr] at z;cases z
   rw[hr] at z;cases z;refine thn h4' fun _ s5 ⟨x,H5,J5,r5,y5,st5,fr5⟩ =>?_
   have J5':=J5.pinned (stat fr5) (T.obj _ _ st5)
   refine thn (hg C _ _ fp _ _ s5 σ3 H5 x _ _ J5' r5 (step x H5 y5)) fun _ s6 ⟨σ6,H6,J6,q6⟩ =>?_
   have back:∀{σ7:St}{H7:Hp}{s7:Shared},Inv (cxC X scope cl NC C {s2 with heap:=h3} (upd H1 D (.lst [])) fp (X.pn++pins)) ([]++zeV fp s5.heap) σ7 H7 s7->tn (i+1) s7.heap/\∀b∈fp,H7 b=none:=fun {σ7 H7 s7} J7=>
    ⟨T.keep _ _ _ st5 fun b hb o e=>(J7.pin (b,o) (List.mem_append_right _ (List.mem_append_right _ (zbD hb e)))).1,fun b hb=>by
     obtain⟨o,e,d⟩:=T.obj _ _ st5 b hb;exact(J7.pin (b,o) (List.mem_append_right _ (List.mem_append_right _ (zbD hb e)))).2.1⟩
   refine thn (ht C _ _ fp _ _ s6 σ6 H6 _ J6 q6) fun ok s7 ⟨H7,J7,q7⟩ =>⟨fun hok=>?_,fun hok=>?_⟩
   ·refine thn (he C _ _ fp _ rH _ s7 σ6 H7 _ J7 (q7.1 hok)) fun xv s8 ⟨v,H8,J8,r8,hD8,hz,n8⟩ =>?_
    obtain⟨m',hm,w8⟩:=hN _ _ _ n8;refine thn (zeg (X:=cxC X scope cl NC C {s2 with heap:=h3} (upd H1 D (.lst [])) fp (X.pn++pins)) _ s8 σ6 H8 (.ref D) [v] (.ref D) [xv] (fun _ H9=>H9=upd H8 D (.lst (ys++[v]))) J8 rfl (.cons r8 .nil) ⟨D,ys,v,rfl,rfl,hD8,hz,rfl⟩) fun _ s9 ⟨_,H9,J9,_,e9⟩ =>?_
    subst e9;obtain⟨b1,b2⟩:=back J9;exact⟨m',hm,i+1,_,_,_,J9.unpinned,b1,b2,zai,w8⟩
   ·obtain⟨hD7,n7⟩:=q7.2 hok;obtain⟨m',hm,w7⟩:=hN _ _ _ n7;obtain⟨b1,b2⟩:=back J7;exact⟨m',hm,i+1,_,_,_,J7.unpinned,b1,b2,hD7,w7⟩
 refine codeAny_compStart_list (rest:=[]) loop (T.self X.A 0 _ _ _ st4 loop)
theorem pgC (i:Nat){X:Cx}{scope:Scope}{cl:List (Str×Addr)}{NC:List Str}{C:Addr}{s0:Shared}{H0:Hp}{ex:List Addr}{pn:List (Addr×Obj)}{x:Str}{pos:Pos}(nd:NC.Nodup)(hi:NC[i]?=some x)(hx:scope.names.lookup x=some .local) :
 PG (cxC X scope cl NC C s0 H0 ex pn) (.Name x pos) (zeH i):=zie (X:=cxC X scope cl NC C s0 H0 ex pn) nd hi (.inl (lookup_relabel_local hx)) (.inr (lookup_relabel_local hx))
end L2
namespace En
open PySem
open AutoSeq1 (wpAny_loadPart')
section
variable {prog:Program}{w:World}{A:Around}{E:Value->Shared->Prop}{s:Shared}
theorem zlX {it t:Addr}{i:Nat}{items:Array Value}{x:Value}{Q:Value->Shared->Prop}(a1:s.heap.IsTupleIter it t i)(a2:s.heap.IsTuple t items)(a3:items[i]?=some x)
 (q:∀h',h'.IsTupleIter it t (i+1)->Heap.SameBut it s.heap h'->Q x {s with heap:=h'}):wpAny (model prog w) A (Builtin.SmallTypes.nextOf (.ref it)) Q E s:=by
 obtain⟨o,b1,b2,b3⟩:=id a1;obtain⟨ot,c1,_,n,c2⟩:=a2;unfold Builtin.SmallTypes.nextOf;have body:wpAny (model prog w) A.in1 (Builtin.«tuple_iterator.__next__» ⟨[.ref it],[]⟩) (fun f s'=>∃v,f=.done (.ret v)/\Q v s') E s:=by
  show wpAny _ _ (do let v <-field (.ref it) 0;_) _ _ s
  refine wpAny_bind (wpAny_field b1 b3 (x:=.ref t) rfl ?_);show wpAny _ _ (ite ((Value.ref t == Value.none)=true) _ _) _ _ s
  rw[if_neg (show ¬(Value.ref t == Value.none)=true by intro z;cases z)];show wpAny _ _ (do let v <-field (.ref it) 1;_) _ _ s
  refine wpAny_bind (wpAny_field b1 b3 (x:=.int i 0) rfl ?_);show wpAny _ _ (do let v <-seqItems? (.ref t);_) _ _ s
  refine wpAny_bind (wpAny_seqItems c1 c2 ?_);simp only[Int.toNat_natCast,a3];refine wpAny_bind (wpAny_setField b1 b3 (by simp) (wpAny_pure ⟨x,rfl,q _ ⟨_,Heap.get?_update_self _ b1 (Obj.isFreed_of_fields (Obj.data_mapFields b3 _)),(Obj.cls_mapFields ..).trans b2,?_⟩ (Heap.SameBut.update ..)⟩));rw[Obj.data_mapFields b3];simp[rawInt]
 have nx:=F.slot_tuple_iterator_next
 exact wpAny_bind (wpAny_callSpecial?_slot (name:=Str.ofString "__next__") a1.typeIs nx (wpAny_call_entry nx a1.typeIs F.entry_tuple_iterator_next (wpAny_mono body (fun f s' ⟨v,e,h⟩ =>⟨v,e,wpAny_pure h⟩) fun _ _ x=>x) (F.args_tuple_iterator_next_1 _)))
theorem zk5 {it t:Addr}{i:Nat}{items:Array Value}{Q:Value->Shared->Prop}(hh:A.handled=none)(a1:s.heap.IsTupleIter it t i)(a2:s.heap.IsTuple t items)(a3:items[i]?=none)
 (q:∀h' e,Heap.ExtBut it s.heap h'->(∃o,h'.get? e=some o/\o.cls=.type "StopIteration")->E (.ref e) {s with heap:=h'}):wpAny (model prog w) A (Builtin.SmallTypes.nextOf (.ref it)) Q E s:=by
 obtain⟨o,b1,b2,b3⟩:=id a1;obtain⟨ot,c1,_,n,c2⟩:=a2;unfold Builtin.SmallTypes.nextOf;have nx:=F.slot_tuple_iterator_next
 refine wpAny_bind (wpAny_callSpecial?_slot (name:=Str.ofString "__next__") a1.typeIs nx (wpAny_call_entry nx a1.typeIs F.entry_tuple_iterator_next ?_ (F.args_tuple_iterator_next_1 _)));show wpAny _ _ (do let v <-field (.ref it) 0;_) _ _ s
 refine wpAny_bind (wpAny_field b1 b3 (x:=.ref t) rfl ?_);show wpAny _ _ (ite ((Value.ref t == Value.none)=true) _ _) _ _ s
 rw[if_neg (show ¬(Value.ref t == Value.none)=true by intro z;cases z)];show wpAny _ _ (do let v <-field (.ref it) 1;_) _ _ s
 refine wpAny_bind (wpAny_field b1 b3 (x:=.int i 0) rfl ?_);show wpAny _ _ (do let v <-seqItems? (.ref t);_) _ _ s
 refine wpAny_bind (wpAny_seqItems c1 c2 ?_);simp only[Int.toNat_natCast,a3];refine wpAny_bind (wpAny_rule (wpAny_bind (wpAny_setField b1 b3 (by simp) ?_)));show wpAny _ _ (do let x <-newExc (.type "StopIteration") [];_) _ _ _
 refine wpAny_bind ?_;simp only[newExc,newTuple];refine wpAny_bind (wpAny_newObj_type ?_ (by size_fits));refine wpAny_bind (m:=firstArgMember _ _) (wpAny_of_eq (a:=Value.none) (by first | rfl | (simp only[firstArgMember];rfl)) ?_);refine wpAny_newObj_type ?_ (by size_fits);simp only[raiseNew];refine wpAny_bind (wpAny_handled ?_);first | rw[show A.in1.handled=none from hh] | rw[hh]
 exact wpAny_bind (wpAny_pure (wpAny_throw (q _ _ (((Heap.SameBut.update ..).extBut.push _).push _) ⟨_,Heap.get?_push_size _ rfl,rfl⟩)))
end
theorem draws_tuple {prog:Program}{w:World}{A:Around}(hh:A.handled=none)(it t:Addr)(hne:t≠it)(items:Array Value) :
 Draws prog w A it [it,t] items.size (fun i v=>items[i]?=some v) (fun i h=>h.IsTupleIter it t i/\h.IsTuple t items) where
 live:=fun _ _ st=>let ⟨o,ho,_⟩:=st.1;⟨o,ho⟩
 frame:=fun _ _ _ ⟨⟨o,e,r⟩,⟨o',e',r'⟩⟩ hk=>⟨⟨o,hk it (by simp) o e,r⟩,⟨o',hk t (by simp) o' e',r'⟩⟩
 item:=fun i s Q E hi st hQ=>zlX st.1 st.2 (x:=items[i]) (by simp[hi]) fun h' a b=>hQ _ h' s.toks (by simp[hi]) ⟨a,st.2.extBut b.extBut hne⟩ b
 done:=fun s Q E st hE=>zk5 hh st.1 st.2 (by simp) hE
theorem draws_end {prog:Program}{w:World}{A:Around}(hh:A.handled=none)(it t:Addr)(i:Nat)(items:Array Value)(hx:items[i]?=none) :
 Draws prog w A it [it,t] i (fun i v=>items[i]?=some v) (fun j h=>j=i/\h.IsTupleIter it t i/\h.IsTuple t items) where
 live:=fun _ _ st=>let ⟨o,ho,_⟩:=st.2.1;⟨o,ho⟩
 frame:=fun _ _ _ ⟨hj,⟨o,e,r⟩,⟨o',e',r'⟩⟩ hk=>⟨hj,⟨o,hk it (by simp) o e,r⟩,⟨o',hk t (by simp) o' e',r'⟩⟩
 item:=fun j s Q E hi st hQ=>by rw[st.1] at hi;exact absurd hi (Nat.lt_irrefl _)
 done:=fun s Q E st hE=>zk5 hh st.2.1 st.2.2 hx hE
theorem ziz (t:Addr)(items:Array Value)(n:Nat)(dct:Option Addr)(sl:Array (Option Value)) :
 Meets (Builtin.«enumerate.__new__» ⟨[.type "enumerate",.ref t],[]⟩) (fun _ R s=>s.heap.get? t=some {cls:=.type "tuple",dict:=dct,data:=.seq items n,slots:=sl}/\
  R (.ok (.ret (.ref (s.heap.push {cls:=.type "tuple_iterator",data:=.fields #[.ref t,.int 0 0]}).objs.size)))
    {s with heap:=(s.heap.push {cls:=.type "tuple_iterator",data:=.fields #[.ref t,.int 0 0]}).push {cls:=.type "enumerate",data:=.fields #[.none,.bool false,.ref s.heap.objs.size,rawInt 0,.none,.none]}}):=
 .of_wp fun prog w A R s h=>by
  obtain⟨hp,g,d,tk,os⟩:=s;obtain⟨hl,h⟩:=h;have hsub:=PySem.sub_enumerate
  have hL:Heap.IsTuple (Shared.heap ⟨hp,g,d,tk,os⟩) t items:=⟨_,hl,rfl,n,rfl⟩
  wp_walk using wpAny_loadPart' hl
  refine wpAny_stack_any fun st=>wpAny_pure ?_
  split
  ·rename_i c _ _ _ _ _
   cases(c == Value.type "enumerate")
   ·wp_walk using wpAny_loadPart' hl,wpAny_pyIter_tuple hL
    exact⟨_,rfl,h⟩
   ·wp_walk using wpAny_loadPart' hl,wpAny_pyIter_tuple hL
    exact⟨_,rfl,h⟩
  ·wp_walk using wpAny_loadPart' hl,wpAny_pyIter_tuple hL
   exact⟨_,rfl,h⟩
theorem call_enum {prog:Program}{w:World}{A:Around}{E:Value->Shared->Prop}{s:Shared}{t:Addr}{items:Array Value}{Q:Value->Shared->Prop}(hL:s.heap.IsTuple t items)
 (h:∀h',IsEnum h' (s.heap.objs.size+1) s.heap.objs.size 0 .none->h'.IsTupleIter s.heap.objs.size t 0->h'.objs.size=s.heap.objs.size+2->
  (∀b o,s.heap.get? b=some o->h'.get? b=some o)->Q (.ref (s.heap.objs.size+1)) {s with heap:=h'}) :
 wpAny (model prog w) A (call (.type "enumerate") [.ref t]) Q E s:=by
 obtain⟨⟨c,dct,dt,sl⟩,hl,hc,n,hd⟩:=hL;obtain rfl:c=.type "tuple":=hc;obtain rfl:dt=.seq items n:=hd;refine callType_new F.called_enumerate (by decide) (F.typeCall_enumerate_1 _) (F.newCall_enumerate_1 _) (fun obj=>F.args_object_init_2 obj _) F.entry_enumerate_new (ziz t items n dct sl) ⟨hl,?_⟩;have hz:(s.heap.push {cls:=.type "tuple_iterator",data:=.fields #[.ref t,.int 0 0]}).objs.size=s.heap.objs.size+1:=Heap.size_push ..
 have q:=Heap.get?_push_size (s.heap.push {cls:=.type "tuple_iterator",data:=.fields #[.ref t,.int 0 0]}) (o:={cls:=.type "enumerate",data:=.fields #[.none,.bool false,.ref s.heap.objs.size,rawInt 0,.none,.none]}) rfl
 show _/\_
 rw[hz] at q⊢;exact⟨⟨_,q,rfl⟩,h _ q ⟨_,Heap.get?_push_of_some _ (Heap.get?_push_size _ rfl),rfl,rfl⟩ (by rw[Heap.size_push,hz]) fun b o x=>Heap.get?_push_of_some _ (Heap.get?_push_of_some _ x)⟩
end En
namespace L2
open PySem PySem.Spec PyProof PyProof.Rows
theorem Inv.laidF {X:Cx}{pins:List (Addr×Obj)}{σ:St}{H:Hp}{s:Shared}{h':Heap}{t':Nat}{fp:List Addr}{D:Addr}{o:HO}(I:Inv X pins σ H s)(hf:∀b∈fp,FpOk X pins H b)(k:∀b o,b∉fp->s.heap.get? b=some o->h'.get? b=some o)
 (hth:∀b∈fp,∃o,h'.get? b=some o) (hD:s.heap.get? D=none) (new:ObjOk X.prog X.w (upd H D o) h' D o):H D=none/\Inv X pins σ (upd H D o) {s with heap:=h',toks:=t'}:=by
 have hHD:H D=none:=by
  cases e:H D with
  | none=>rfl
  | some u=>
    obtain⟨ob,q⟩:=(I.hok D u e).there;rw[hD] at q;cases q
 refine⟨hHD,?_⟩;have nit:∀b u,H b=some u->b∉fp:=fun b u e z=>by rw[(hf b z).1] at e;cases e
 have nD:∀b u,H b=some u->b≠D:=fun b u e z=>by rw[z,hHD] at e;cases e
 have nD':∀b ob,s.heap.get? b=some ob->b≠D:=fun b u e z=>by rw[z,hD] at e;cases e
 refine I.step (g':=s.gens) (d':=s.drawn) (t':=t') (ch:=fp) (fun b hb=>?_) (fun b o _ _ hc e _=>k b o hc e) (fun b o _ _ hc e _=>⟨o.slots,k b o hc e⟩) (fun b ob _ e n=>by rw[zah (nD' b ob e)];exact n)
  (fun b o hc e=>⟨o,k b o hc e⟩) (fun b _ e=>by rw[zah (nD b _ e)];exact e) (fun b _ _ e=>by rw[zah (nD b _ e)];exact e) (fun b ps e=>⟨#[],by rw[zah (nD b _ e),e];simp⟩) (fun m hm=>?_) (fun b u e=>?_) I.bare
 ·obtain⟨f0,f1,f2,f3,f4,f5⟩:=hf b hb;exact⟨f3,f1,f4,f5⟩
 ·obtain⟨o,es,ep,ho,r⟩:=hm;exact⟨o,es,ep,k _ o (fun z=>(hf _ z).2.1 rfl) ho,r⟩
 ·by_cases z:b=D
  ·subst z;rw[zai] at e;cases e;exact new
  ·rw[zah z] at e;refine(I.hok b u e).stay (fun c v hc q=>k c v ?_ q) (fun c q=>by rw[zah (nD c _ q)];exact q) fun c _ _ q=>by rw[zah (nD c _ q)];exact q
   rcases hc with z | z
   ·rw[z];exact nit b u e
   ·exact nit c _ z
def Ite (K:W.Frag)(a:Addr):It:=
 ⟨fun i H=>∃xs x,SqT K H a xs/\xs[i]?=some x,fun i H x H'=>∃p,H p=none/\x=.ref p/\∀xs,SqT K H a xs->∃y,xs[i]?=some y/\H'=upd H p (.tup [.int (i:Nat),y]),fun i H=>∃xs,SqT K H a xs/\xs.length<=i⟩
theorem ziA {P:Program}{w:World}{K:W.Frag}{elts:List Expr}{x1}{tpos:Pos}(a e it:Addr)(hei:e≠it)(hae:a≠e)(hai:a≠it) :
 Turn P w K (.Tuple elts x1 tpos) (Ite K a) [e,it] e (fun i h=>(∃old,IsEnum h e it (i:Nat) old)/\h.IsTupleIter it a i) where
 mem:=by simp
 obj:=fun i h st b hb=>by
  obtain⟨⟨old,e1⟩,o,e2,c,d⟩:=st;rcases List.mem_cons.mp hb with z | z
  ·subst z;exact⟨_,e1,fun v z=>by cases z⟩
  ·have z:=List.mem_singleton.mp z
   subst z;exact⟨o,e2,fun v z=>by rw[d] at z;cases z⟩
 keep:=fun i h h' st k=>by
  obtain⟨⟨old,e1⟩,o,e2,c,d⟩:=st;exact⟨⟨old,k e (by simp) _ e1⟩,o,k it (by simp) _ e2,c,d⟩
 item:=by
  intro X hP hw hK hc i pins s σ H E I hf st hg;subst hP hw hK;obtain⟨⟨old,en⟩,ti⟩:=st;obtain⟨xs,x,hq,hx⟩:=hg;obtain⟨its,rv,p,hz⟩:=I.tuple hq;obtain⟨u,hu,ru⟩:=rv.get hx;have hl:=rv.length
  have hlt:i<its.toArray.size:=by
   rw[List.size_toArray,<-hl];exact(List.getElem?_eq_some_iff.mp hx).1
  have hh:X.A.in1.handled=none:=I.ok.hd hc
  refine wpAny_pyNext_enum_itemD (En.draws_tuple (A:=X.A.in1) hh it a hai its.toArray) en ⟨ti,p⟩ hlt hei (by simp[hei,Ne.symm hae]) fun y h' tk hy en' st' tup sz k=>?_
  have ey:y=u:=by
   have hy':its[i]?=some y:=by simpa using hy
   rw[hu] at hy';exact(Option.some.inj hy').symm
  subst ey;refine⟨_,rfl,wpAny_letOwnedTupleGo_enum en' fun h2 en2 sb2=>?_⟩;have frS:s.heap.get? s.heap.objs.size=none:=by
   cases q:s.heap.get? s.heap.objs.size with
   | none=>rfl
   | some o=>exact absurd (Heap.lt_size q) (Nat.lt_irrefl _)
  have neS:∀b∈[e,it],b≠s.heap.objs.size:=fun b hb z=>by
   rcases List.mem_cons.mp hb with q | q
   ·have en1:=(show s.heap.get? e=some _ from en)
    rw[<-z,q,en1] at frS;cases frS
   ·obtain⟨o,e2,_⟩:=ti;rw[<-z,List.mem_singleton.mp q,e2] at frS;cases frS
  obtain⟨hn,I1⟩:=I.laidF (h':=h2) (t':=tk+1) (fp:=[e,it]) (D:=s.heap.objs.size) (o:=.tup [.int (i:Nat),x]) hf (fun b o hb q=>sb2.extBut b o (fun z=>hb (by simp[z])) (k b o (fun z=>hb (by simp[z])) (fun z=>hb (by simp[z])) q))
   (fun b hb=>by
    rcases List.mem_cons.mp hb with q | q
    ·subst q;exact⟨_,en2⟩
    ·have q:=List.mem_singleton.mp q
     subst q;obtain⟨o,e2,_⟩:=st'.1;exact⟨o,sb2.extBut _ o (Ne.symm hei) e2⟩) frS
   ⟨by show 2<=sizeLine;decide,[.int (i:Nat) tk,y],.cons ⟨_,rfl⟩ (.cons ru .nil),⟨_,sb2.extBut _ _ (neS e (by simp)).symm tup,rfl,_,rfl⟩⟩
  refine⟨.ref s.heap.objs.size,_,I1,rfl,⟨_,hn,rfl,fun ys hy=>⟨x,by rw[I.tuple_inj hy hq];exact hx,rfl⟩⟩,⟨⟨_,en2⟩,?_⟩,fun b hb=>?_⟩
  ·obtain⟨o,e2,c,d⟩:=st'.1;exact⟨o,sb2.extBut _ o (Ne.symm hei) e2,c,d⟩
  ·rw[zah (neS b hb)];exact(hf b hb).1
 done:=by
  intro X hP hw hK hc i pins s σ H E I hf st hg;subst hP hw hK;obtain⟨⟨old,en⟩,ti⟩:=st;obtain⟨xs,hq,hx⟩:=hg;obtain⟨its,rv,p,hz⟩:=I.tuple hq;obtain⟨f0,f1,f2,f3,f4,f5⟩:=hf it (by simp);have hl:=rv.length
  have hh:X.A.in1.handled=none:=I.ok.hd hc
  refine wpAny_pyNext_enum_endD (En.draws_end (A:=X.A.in1) hh it a i its.toArray (by simp;omega)) en ⟨rfl,ti,p⟩ fun h' eb=>⟨rfl,I.turned (t':=s.toks) (fun b o hb e=>eb b o hb e) f0 f1 f3 f4 f5⟩
 self:=fun _ _ _ _ _ st h=>by
  obtain⟨⟨old,en⟩,_⟩:=st;exact wpAny_pyIter_enum en h
def zpk (K:W.Frag)(ta:TA):TI:=fun σ H R=>ta σ H fun vs H1=>∃a,vs = [.ref a]/\(∃xs,SqT K H1 a xs)/\R (Ite K a) H1
theorem zlY {X:Cx}{elts:List Expr}{x1}{tpos:Pos}{l:Expr}{ta:TA}{p pos:Pos}(hg:Gl X "enumerate")(hm:X.mg "enumerate"=none)(ha:PA X [l] ta)(hs:starEach [l] X.env = [(false,eval l X.env)]:=by rfl) :
 PI X (.Tuple elts x1 tpos) (.Call (.Name "enumerate" p) [l] [] pos) (zpk X.K ta):=by
 intro pins s σ H R I h;refine wpAny_Call_Name_kw (zc4 I hg hm boot_enumerate ?_ (by decide) (by decide));refine PyProof.Rows.callWith_type1 (thn (ha pos pins s σ H _ I h) fun us s1 ⟨vs,H1,I1,rv,q1⟩ =>?_) hs rfl;obtain⟨a,e,⟨xs,hq⟩,q⟩:=q1;subst e;obtain⟨u,rfl,r1⟩:=zfI rv;obtain rfl:u=Value.ref a:=r1;obtain⟨its,rv,pt,hz⟩:=I1.tuple hq;refine En.call_enum pt fun h' en ti sz k=>?_
 have alt:a<s1.heap.objs.size:=pt.lt
 refine wpAny_pyIter_enum en ⟨s1.heap.objs.size+1,[s1.heap.objs.size+1,s1.heap.objs.size],_,_,H1,rfl,I1.kept (t':=s1.toks) k,ziA a _ _ (Nat.succ_ne_self _) (Nat.ne_of_lt (Nat.lt_succ_of_lt alt)) (Nat.ne_of_lt alt),⟨⟨_,en⟩,ti⟩,fun b hb=>?_,q⟩;rcases List.mem_cons.mp hb with z | z
 ·subst z;exact I1.fpOk (Nat.le_succ _) (I1.hok.fresh (Nat.le_succ _))
 ·have z:=List.mem_singleton.mp z
  subst z;exact I1.fpOk (Nat.le_refl _) (I1.hok.fresh (Nat.le_refl _))
section
variable {X:Cx}
theorem zlZ:OpR X (binaryOp .Add) (fun x y H Q=>∃a b ys,x=.ref a/\y=.ref b/\SqT X.K H a []/\SqT X.K H b ys/\Q (.ref b) H):=by
 intro pins s σ H x y v u Q I rx ry h;obtain⟨a,b,ys,rfl,rfl,ha,hb,q⟩:=h;cases rx;cases ry;obtain⟨its,r1,p1,_⟩:=I.tuple ha;obtain⟨its2,r2,p2,_⟩:=I.tuple hb;have e1:its = []:=r1.nil_iff.mpr rfl
 subst e1;obtain⟨⟨c1,d1,dt1,s1⟩,g1,g2,n1,g3⟩:=p1;obtain⟨⟨c2,d2,dt2,s2⟩,k1,k2,n2,k3⟩:=p2;obtain rfl:c1=.type "tuple":=g2;obtain rfl:c2=.type "tuple":=k2;obtain rfl:dt1=.seq _ n1:=g3;obtain rfl:dt2=.seq _ n2:=k3;exact concat_meets ⟨_,g1,rfl⟩ ⟨_,k1,rfl⟩ noFill_tuple_add seq_tuple_add PySem.F.slot_tuple_add PySem.F.entry_tuple_add (PySem.F.args_tuple_add_2 _ _) (tuple_addW0 a b _ _ n1 n2 d1 d2 s1 s2 rfl) ⟨g1,k1,⟨.ref b,H,I,rfl,q⟩⟩
def znX (K:W.Frag):R2:=fun x y H Q=>∃a b xs ys,x=.ref a/\y=.ref b/\SqT K H a xs/\SqT K H b ys/\ys≠[]/\xs.length+ys.length<=sizeLine/\
 (xs = []->Q (.ref b) H)/\(xs≠[]->∀p,H p=none->Q (.ref p) (upd H p (.tup (xs++ys))))
theorem zl0:OpR X (binaryOp .Add) (znX X.K):=by
 intro pins s σ H x y v u Q I rx ry h;obtain⟨a,b,xs,ys,rfl,rfl,ha,hb,hy,hz,q1,q2⟩:=h;by_cases hx:xs = []
 ·subst hx;exact zlZ pins s σ H _ _ v u Q I rx ry ⟨a,b,ys,rfl,rfl,ha,hb,q1 rfl⟩
 ·exact zlQ pins s σ H _ _ v u Q I rx ry ⟨a,b,xs,ys,rfl,rfl,ha,hb,hx,hz,fun z=>absurd z hy,fun _=>q2 hx⟩
end
theorem zg4 {H:Hp}{p:Addr}(h:H p=none)(o:HO):Same H (upd H p o):=fun b u q=>by rw[zah (zaH q h)];exact q
end L2
namespace Sh
open PySem L2
inductive Tr where
 | mk (a b:Addr) (name:Str) (box word rank head:V) (parts:List Tr)
namespace Tr
end Tr
end Sh
namespace SO
open PySem PySem.W PyProof.Rows
def lx (k:Nat->Int)(a b:Nat):Prop:=k a<k b\/(k a=k b/\a<b)
theorem lx.tr {k:Nat->Int}{a b c:Nat}(h:lx k a b)(g:lx k b c):lx k a c:=by
 unfold lx at *;omega
def cmpO (n:Nat)(k:Nat->Int)(i j:Nat)(C:Bool->Shared->Prop)(s:Shared):Prop:=i<n/\j<n/\C (decide (k i<k j)) s
theorem kw_mono {α:Type}{n:Nat}{k:Nat->Int}{Q Q':α->Shared->Prop}(hq:∀a s,Q a s->Q' a s):∀(t:KasT α) (s:Shared),t.kasWp (cmpO n k) Q s->t.kasWp (cmpO n k) Q' s
 | .ret a,s,h=>hq a s h
 | .ask i j c,s,h=>⟨h.1,h.2.1,kw_mono hq _ s h.2.2⟩
theorem kw_of {α:Type}{n:Nat}{k:Nat->Int}{cmp:Nat->Nat->(Bool->Shared->Prop)->Shared->Prop}{S:Shared->Prop}{Q:α->Shared->Prop}(hc:∀i j C s,i<n->j<n->S s->(C (decide (k i<k j)) s)->cmp i j C s) :
 ∀(t:KasT α) (s:Shared),S s->t.kasWp (cmpO n k) Q s->t.kasWp cmp Q s
 | .ret a,s,_,h=>h
 | .ask i j c,s,hs,h=>hc i j _ s h.1 h.2.1 hs (kw_of hc _ s hs h.2.2)
theorem gD {p:Array Nat}{i:Nat}:p.getD i 0=(p[i]?).getD 0:=by simp[Array.getD_eq_getD_getElem?]
theorem zcq {p:Array Nat}{i j:Nat}(hj:j<=p.size)(t:Nat):(kas_rev p i j).getD t 0=if i<=t/\t<j then p.getD (i+j - 1 - t) 0 else p.getD t 0:=by
 rw[gD,gD,gD];unfold kas_rev;rw[getElem?_mirror_all hj];split <;> rfl
theorem znY {p:Array Nat}{src d:Nat}(hs:src<p.size)(hd:d<=src)(t:Nat):(bubble p src d).getD t 0=if t=src - d then p.getD src 0 else if src - d<t/\t<=src then p.getD (t - 1) 0 else p.getD t 0:=by
 rw[gD,gD,gD,gD,getElem?_bubble hs d hd];split
 ·rfl
 ·split <;> rfl
section
variable {k:Nat->Int}{N:Nat}
structure Pre (N:Nat)(p:Array Nat)(m:Nat):Prop where
 sz:p.size=N
 lo:∀i,i<m->p.getD i 0<m
 id:∀i,m<=i->i<N->p.getD i 0=i
 pm:p.Perm (List.toArray (List.range N))
structure Asc (k:Nat->Int)(N:Nat)(p:Array Nat)(m:Nat):Prop extends Pre N p m where
 up:∀i j,i<j->j<m->lx k (p.getD i 0) (p.getD j 0)
structure Dsc (k:Nat->Int)(N:Nat)(p:Array Nat)(m:Nat):Prop extends Pre N p m where
 dn:∀i j,i<j->j<m->lx k (p.getD j 0) (p.getD i 0)
theorem Pre.lt {p:Array Nat}{m:Nat}(P:Pre N p m){i:Nat}(h:i<N)(hm:m<=N):p.getD i 0<N:=by
 by_cases q:i<m
 ·have:=P.lo i q;omega
 ·rw[P.id i (by omega) h];exact h
theorem Pre.succ {p:Array Nat}{m:Nat}(P:Pre N p m)(h:m<N):Pre N p (m+1):=⟨P.sz,fun i hi=>by
 by_cases q:i<m
 ·have:=P.lo i q;omega
 ·rw[P.id i (by omega) (by omega)];omega,fun i hi=>P.id i (by omega),P.pm⟩
theorem rev_perm {p:Array Nat}{i j:Nat}:(kas_rev p i j).Perm p:=mirror_perm _ _ _ _
theorem Pre.rev {p:Array Nat}{m i:Nat}(P:Pre N p m)(hi:i<=m)(hm:m<=N):Pre N (kas_rev p i m) m:=by
 refine⟨by rw[kas_rev_size];exact P.sz,fun t ht=>?_,fun t h1 h2=>?_,rev_perm.trans P.pm⟩
 ·rw[zcq (by rw[P.sz];exact hm)];split
  ·exact P.lo _ (by omega)
  ·exact P.lo _ ht
 ·rw[zcq (by rw[P.sz];exact hm),if_neg (by omega)];exact P.id t h1 h2
theorem ziB {s:Shared}{p:Array Nat}:∀(f m:Nat),1<=m->m+f=N->Asc k N p m->(kas_asc p f m).kasWp (cmpO N k) (fun r _=>1<=r/\r<=N/\m<=r/\Asc k N p r/\(r=N\/k (p.getD r 0)<k (p.getD (r - 1) 0))) s
 | 0,m,h1,hf,A=>⟨h1,by omega,Nat.le_refl _,A,.inl (by omega)⟩
 | f+1,m,h1,hf,A=>by
   refine⟨A.lt (by omega) (by omega),A.lt (by omega) (by omega),?_⟩;by_cases h:k (p.getD m 0)<k (p.getD (m - 1) 0)
   ·rw[decide_eq_true h];dsimp only[];rw[if_pos rfl];exact⟨h1,by omega,Nat.le_refl _,A,.inr h⟩
   ·rw[decide_eq_false h];dsimp only[];rw[if_neg (by decide)];have em:=A.id m (Nat.le_refl _) (by omega)
    refine kw_mono (fun r s h=>⟨h.1,h.2.1,by have:=h.2.2.1;omega,h.2.2.2⟩) _ _ (ziB f (m+1) (by omega) (by omega) ⟨A.toPre.succ (by omega),fun i j hij hj=>?_⟩);by_cases q:j<m
    ·exact A.up i j hij q
    ·obtain rfl:j=m:=by omega
     have l1:lx k (p.getD (j - 1) 0) (p.getD j 0):=by
      have:=A.lo (j - 1) (by omega)
      rw[em] at h⊢;unfold lx;omega
     by_cases qi:i=j - 1
     ·rw[qi];exact l1
     ·exact(A.up i (j - 1) (by omega) (by omega)).tr l1
structure Run (k:Nat->Int)(N:Nat)(p:Array Nat)(n q:Nat):Prop where
 le:n<=N
 ql:q+1<=n
 ds:Dsc k N p (n - (q+1))
 gt:∀i j,i<n - (q+1)->n - (q+1)<=j->j<n->k (p.getD j 0)<k (p.getD i 0)
 eq:∀j,n - (q+1)<=j->j<n->k (p.getD j 0)=k (p.getD (n - 1) 0)
theorem Run.turn {p:Array Nat}{n q:Nat}(R:Run k N p n q):Dsc k N (if q>0 then kas_rev p (n - (q+1)) n else p) n:=by
 have ql:=R.ql
 have le:=R.le
 have pre:Pre N p n:=by
  refine⟨R.ds.sz,fun i hi=>?_,fun i h=>R.ds.id i (by omega),R.ds.pm⟩;by_cases z:i<n - (q+1)
  ·have:=R.ds.lo i z;omega
  ·rw[R.ds.id i (by omega) (by omega)];exact hi
 have base:∀i j,i<j->j<n - (q+1)->lx k (p.getD j 0) (p.getD i 0):=R.ds.dn
 by_cases hq:q>0
 ·rw[if_pos hq];refine⟨pre.rev (by omega) le,fun i j hij hj=>?_⟩;rw[zcq (by rw[R.ds.sz];exact le),zcq (by rw[R.ds.sz];exact le)];by_cases zj:n - (q+1)<=j
  ·rw[if_pos ⟨zj,hj⟩];by_cases zi:n - (q+1)<=i
   ·rw[if_pos ⟨zi,by omega⟩];have e1:=R.eq (n - (q+1)+n - 1 - j) (by omega) (by omega)
    have e2:=R.eq (n - (q+1)+n - 1 - i) (by omega) (by omega)
    refine .inr ⟨by rw[e1,e2],?_⟩;rw[R.ds.id _ (by omega) (by omega),R.ds.id _ (by omega) (by omega)];omega
   ·rw[if_neg (by omega)];exact .inl (R.gt i _ (by omega) (by omega) (by omega))
  ·rw[if_neg (by omega),if_neg (by omega)];exact base i j hij (by omega)
 ·rw[if_neg hq];obtain rfl:q=0:=by omega
  refine⟨pre,fun i j hij hj=>?_⟩;by_cases zj:j<n - 1
  ·exact base i j hij (by omega)
  ·exact .inl (R.gt i j (by omega) (by omega) hj)
theorem zfl {s:Shared}:∀(f:Nat) (p:Array Nat) (n q:Nat),n+f=N->Run k N p n q->(kas_desc f p n q).kasWp (cmpO N k) (fun r _=>Run k N r.1 r.2.1 r.2.2) s
 | 0,p,n,q,_,R=>R
 | f+1,p,n,q,hf,R=>by
   have ql:=R.ql
   have en:p.getD n 0=n:=R.ds.id n (by omega) (by omega)
   have en1:p.getD (n - 1) 0=n - 1:=R.ds.id _ (by omega) (by omega)
   refine⟨by omega,by omega,?_⟩;by_cases h:k (p.getD n 0)<k (p.getD (n - 1) 0)
   ·rw[decide_eq_true h];dsimp only[];rw[if_pos rfl];have T:=R.turn
    have next:∀p',p'=(if q>0 then kas_rev p (n - (q+1)) n else p)->Run k N p' (n+1) 0:=fun p' e=>by
     subst e;refine⟨by omega,by omega,T,fun i j hi h1 h2=>?_,fun j h1 h2=>by rw[show j=n+1 - 1 by omega]⟩;obtain rfl:j=n:=by omega
     have hi:i<j:=by omega
     rw[T.id j (Nat.le_refl _) (by omega)];rw[en] at h;have key:∀t,t<j->k j<k (p.getD t 0):=fun t ht=>by
      by_cases z:t<j - (q+1)
      ·have:=R.gt t (j - 1) z (by omega) (by omega);omega
      ·rw[R.eq t (by omega) ht];exact h
     by_cases hq:q>0
     ·rw[if_pos hq,zcq (by rw[R.ds.sz];omega)];split
      ·exact key _ (by omega)
      ·exact key _ hi
     ·rw[if_neg hq];exact key _ hi
    by_cases hq:q>0
    ·rw[if_pos hq];exact zfl f _ _ _ (by omega) (next _ (if_pos hq).symm)
    ·rw[if_neg hq];exact zfl f _ _ _ (by omega) (next _ (if_neg hq).symm)
   ·rw[decide_eq_false h];dsimp only[];rw[if_neg (by decide)];refine⟨by omega,by omega,?_⟩;by_cases h2:k (p.getD (n - 1) 0)<k (p.getD n 0)
    ·rw[decide_eq_true h2];dsimp only[];rw[if_pos rfl];exact R
    ·rw[decide_eq_false h2];dsimp only[];rw[if_neg (by decide)];have e:n+1 - (q+1+1)=n - (q+1):=by omega
     refine zfl f _ _ _ (by omega) ⟨by omega,by omega,by rw[e];exact R.ds,fun i j hi h3 h4=>?_,fun j h3 h4=>?_⟩
     ·rw[e] at hi h3;by_cases z:j<n
      ·exact R.gt i j hi h3 z
      ·obtain rfl:j=n:=by omega
       have:=R.gt i (j - 1) hi (by omega) (by omega)
       omega
     ·rw[e] at h3;by_cases z:j<n
      ·rw[R.eq j h3 z];show k (p.getD (n - 1) 0)=k (p.getD n 0);omega
      ·rw[show j=n+1 - 1 by omega]
theorem Dsc.flip {p:Array Nat}{n:Nat}(D:Dsc k N p n)(h:n<=N):Asc k N (kas_rev p 0 n) n:=by
 refine⟨D.toPre.rev (Nat.zero_le _) h,fun i j hij hj=>?_⟩;rw[zcq (by rw[D.sz];exact h),zcq (by rw[D.sz];exact h),if_pos (by omega),if_pos (by omega)];exact D.dn _ _ (by omega) (by omega)
theorem ziC {s:Shared}{p:Array Nat}{n:Nat}(h1:1<=n)(hn:n<=N)(D:Dsc k N p n):(kas_tail3 n N p).kasWp (cmpO N k) (fun r _=>1<=r.1/\r.1<=N/\Asc k N r.2 r.1) s:=by
 unfold kas_tail3;rw[KasT.kasWp_bind];exact kw_mono (fun r s h=>⟨h.1,h.2.1,h.2.2.2.1⟩) _ _ (ziB (N - n) n h1 (by omega) (D.flip hn))
theorem ziD {s:Shared}{p:Array Nat}{n:Nat}(h1:1<=n)(hn:n+1<=N)(R:Run k N p (n+1) 0):(kas_descPart n N p).kasWp (cmpO N k) (fun r _=>1<=r.1/\r.1<=N/\Asc k N r.2 r.1) s:=by
 unfold kas_descPart;rw[KasT.kasWp_bind];refine kw_mono (fun r s R'=>?_) _ _ (zfl (N - (n+1)) p (n+1) 0 (by omega) R);have T:=R'.turn
 have ql:=R'.ql
 by_cases hq:r.2.2>0
 ·rw[if_pos hq] at T⊢;exact ziC (by omega) R'.le T
 ·rw[if_neg hq] at T⊢;exact ziC (by omega) R'.le T
theorem zj6 {s:Shared}{p:Array Nat}(h1:1<=N)(A:Asc k N p 1):(kas_count N p).kasWp (cmpO N k) (fun r _=>1<=r.1/\r.1<=N/\Asc k N r.2 r.1) s:=by
 unfold kas_count;rw[KasT.kasWp_bind];refine kw_mono (fun n s h=>?_) _ _ (ziB (N - 1) 1 (Nat.le_refl _) (by omega) A);obtain⟨n1,n2,_,An,hx⟩:=h;by_cases e:(n == N)=true
 ·rw[if_pos e];exact⟨n1,n2,An⟩
 ·rw[if_neg e];have hlt:n<N:=by
   have:n≠N:=fun z=>e (by rw[z];simp)
   omega
  have hx:k (p.getD n 0)<k (p.getD (n - 1) 0):=hx.resolve_left (by omega)
  by_cases h2:n>1
  ·rw[if_pos h2];refine⟨An.lt (by omega) n2,An.lt (by omega) n2,?_⟩;by_cases h3:k (p.getD 0 0)<k (p.getD (n - 1) 0)
   ·rw[decide_eq_true h3];dsimp only[];rw[if_pos rfl];exact⟨n1,n2,An⟩
   ·rw[decide_eq_false h3];dsimp only[];rw[if_neg (by decide)];have alike:∀i,i<n->k (p.getD i 0)=k (p.getD (n - 1) 0):=fun i hi=>by
     have u1:k (p.getD 0 0)<=k (p.getD i 0):=by
      by_cases z:i=0
      ·rw[z];exact Int.le_refl _
      ·have:=An.up 0 i (by omega) hi;unfold lx at this;omega
     have u2:k (p.getD i 0)<=k (p.getD (n - 1) 0):=by
      by_cases z:i=n - 1
      ·rw[z];exact Int.le_refl _
      ·have:=An.up i (n - 1) (by omega) (by omega);unfold lx at this;omega
     omega
    have hz:n<=p.size:=by rw[An.sz];exact n2
    refine ziD n1 hlt ⟨by omega,by omega,⟨An.toPre.rev (Nat.zero_le _) n2,fun i j hij hj=>?_⟩,fun i j hi hj1 hj2=>?_,fun j h3 h4=>by rw[show j=n+1 - 1 by omega]⟩
    ·rw[zcq hz,zcq hz,if_pos (by omega),if_pos (by omega)];exact An.up (0+n - 1 - j) (0+n - 1 - i) (by omega) (by omega)
    ·obtain rfl:j=n:=by omega
     rw[zcq hz j,zcq hz i,if_neg (fun z=>Nat.lt_irrefl _ z.2),if_pos ⟨Nat.zero_le _,(by omega:i<j)⟩,alike (0+j - 1 - i) (by omega)];exact hx
  ·rw[if_neg h2];obtain rfl:n=1:=by omega
   refine ziD n1 hlt ⟨by omega,by omega,⟨An.toPre,fun i j hij hj=>by omega⟩,fun i j hi hj1 hj2=>?_,fun j h3 h4=>by rw[show j=1+1 - 1 by omega]⟩;obtain rfl:j=1:=by omega
   obtain rfl:i=0:=by omega
   exact hx
theorem zcB {s:Shared}{p:Array Nat}{m:Nat}(A:Asc k N p m)(hm:m<N):∀(f l r:Nat),r - l<=f->l<=r->r<=m->(∀i,i<l->¬k (p.getD m 0)<k (p.getD i 0))->(∀i,r<=i->i<m->k (p.getD m 0)<k (p.getD i 0))->
 (kas_place p m f l r).kasWp (cmpO N k) (fun x _=>x<=m/\(∀i,i<x->¬k (p.getD m 0)<k (p.getD i 0))/\∀i,x<=i->i<m->k (p.getD m 0)<k (p.getD i 0)) s
 | 0,l,r,hf,hl,hr,h1,h2=>⟨by omega,h1,fun i hi=>h2 i (by omega)⟩
 | f+1,l,r,hf,hl,hr,h1,h2=>by
   unfold kas_place;by_cases e:l≥r
   ·rw[if_pos e];exact⟨by omega,h1,fun i hi=>h2 i (by omega)⟩
   ·rw[if_neg e];refine⟨A.lt (by omega) (by omega),A.lt (by omega) (by omega),?_⟩;by_cases h:k (p.getD m 0)<k (p.getD ((l+r) / 2) 0)
    ·rw[decide_eq_true h];dsimp only[];rw[if_pos rfl];refine zcB A hm f _ _ (by omega) (by omega) (by omega) h1 fun i hi him=>?_
     by_cases z:i=(l+r) / 2
     ·rw[z];exact h
     ·have:=A.up ((l+r) / 2) i (by omega) him
      unfold lx at this;omega
    ·rw[decide_eq_false h];dsimp only[];rw[if_neg (by decide)];refine zcB A hm f _ _ (by omega) (by omega) (by omega) (fun i hi=>?_) h2;by_cases z:i=(l+r) / 2
     ·rw[z];exact h
     ·have:=A.up i ((l+r) / 2) (by omega) (by omega)
      unfold lx at this;omega
theorem zk6 {s:Shared}:∀(f:Nat) (p:Array Nat) (m:Nat),m+f=N->Asc k N p m->(kas_bin f p m).kasWp (cmpO N k) (fun r _=>Asc k N r N) s
 | 0,p,m,hf,A=>by rw[show N=m by omega] at *;exact A
 | f+1,p,m,hf,A=>by
   show((kas_place p m m 0 m).bind fun l=>kas_bin f (bubble p m (m - l)) (m+1)).kasWp _ _ _
   rw[KasT.kasWp_bind];refine kw_mono (fun l s h=>?_) _ _ (zcB A (by omega) m 0 m (by omega) (by omega) (by omega) (fun i hi=>by omega) (fun i h1 h2=>by omega));obtain⟨hl,h1,h2⟩:=h;have hs:m<p.size:=by rw[A.sz];omega
   have em:=A.id m (Nat.le_refl _) (by omega)
   have at_:=znY (d:=m - l) hs (by omega)
   rw[show m - (m - l)=l by omega] at at_;have e1:∀t,t<l->(bubble p m (m - l)).getD t 0=p.getD t 0:=fun t ht=>by rw[at_,if_neg (by omega),if_neg (by omega)]
   have e2:(bubble p m (m - l)).getD l 0=m:=by rw[at_,if_pos rfl,em]
   have e3:∀t,l<t->t<=m->(bubble p m (m - l)).getD t 0=p.getD (t - 1) 0:=fun t h3 h4=>by rw[at_,if_neg (by omega),if_pos ⟨h3,h4⟩]
   have lo:∀t,t<l->lx k (p.getD t 0) m:=fun t ht=>by
    have a1:=h1 t ht
    have a2:=A.lo t (by omega)
    rw[em] at a1;unfold lx;omega
   have hi:∀t,l<=t->t<m->lx k m (p.getD t 0):=fun t h3 h4=>by
    have a1:=h2 t h3 h4
    rw[em] at a1;exact .inl a1
   refine zk6 f _ (m+1) (by omega) ⟨⟨by rw[bubble_size];exact A.sz,fun i hi'=>?_,fun i h3 h4=>?_,(bubble_perm _ _ _).trans A.pm⟩,fun i j hij hj=>?_⟩
   ·by_cases z1:i<l
    ·rw[e1 i z1];have:=A.lo i (by omega);omega
    ·by_cases z2:i=l
     ·rw[z2,e2];omega
     ·rw[e3 i (by omega) (by omega)];have:=A.lo (i - 1) (by omega);omega
   ·rw[at_,if_neg (by omega),if_neg (by omega)];exact A.id i (by omega) h4
   ·by_cases z1:j<l
    ·rw[e1 i (by omega),e1 j z1];exact A.up i j hij (by omega)
    ·by_cases z2:j=l
     ·rw[z2,e2,e1 i (by omega)];exact lo i (by omega)
     ·rw[e3 j (by omega) (by omega)];by_cases z3:i<l
      ·rw[e1 i z3];exact(lo i z3).tr (hi (j - 1) (by omega) (by omega))
      ·by_cases z4:i=l
       ·rw[z4,e2];exact hi (j - 1) (by omega) (by omega)
       ·rw[e3 i (by omega) (by omega)];exact A.up _ _ (by omega) (by omega)
theorem zl1 {s:Shared}(h:1<=N):(kas_sort N).kasWp (cmpO N k) (fun p _=>Asc k N p N) s:=by
 unfold kas_sort;rw[KasT.kasWp_bind];have pre:Pre N (List.toArray (List.range N)) 1:=by
  have e:∀i,i<N->(List.toArray (List.range N)).getD i 0=i:=fun i hi=>by simp[gD,hi]
  refine⟨by simp,fun i hi=>?_,fun i _ h2=>e i h2,Array.Perm.refl _⟩;rw[e i (by omega)];exact hi
 refine kw_mono (fun r s h=>?_) _ _ (zj6 h ⟨pre,fun i j hij hj=>by omega⟩);obtain⟨r1,r2,A⟩:=h;by_cases e:r.1<N
 ·rw[if_pos e,show max r.1 1=r.1 by omega];exact zk6 (N - r.1) r.2 r.1 (by omega) A
 ·rw[if_neg e];have z:r.1=N:=by omega
  rw[z] at A;exact A
end
theorem ziE {α:Type}{n:Nat}{k:Nat->Int}{Q:α->Shared->Prop}:∀(t:KasT α) (s:Shared),t.kasWp (cmpO n k) Q s->t.kasWp (cmpO n k) (fun a s'=>Q a s'/\s'=s) s
 | .ret a,s,h=>⟨h,rfl⟩
 | .ask i j c,s,h=>⟨h.1,h.2.1,ziE _ s h.2.2⟩
theorem sort_ok2 {k:Nat->Int}{N:Nat}{s:Shared}(h:1<=N):(kas_sort N).kasWp (cmpO N k) (fun p s'=>Asc k N p N/\s'=s) s:=ziE _ s (zl1 h)
structure Stb {α:Type}(key:α->Int)(l l':List α):Prop where
 up:l'.Pairwise fun a b=>key a<=key b
 fl:∀v:Int,l'.filter (fun a=>decide (key a=v))=l.filter fun a=>decide (key a=v)
theorem Stb.nil {α:Type}{key:α->Int}{l:List α}(s:Stb key l []):l = []:=by
 cases l with
 | nil=>rfl
 | cons x xs=>
   have:=s.fl (key x)
   simp at this
theorem Stb.eq {α:Type}{key:α->Int}:∀{a b:List α}{l:List α},Stb key l a->Stb key l b->a=b
 | [],b,l,s,t=>by
   have h:=s.nil
   subst h;cases b with
   | nil=>rfl
   | cons y ys=>have:=t.fl (key y);simp at this
 | x::xs,[],l,s,t=>by
   have h:=t.nil
   subst h;have:=s.fl (key x);simp at this
 | x::xs,y::ys,l,s,t=>by
   have e:∀v,(x::xs).filter (fun a=>decide (key a=v))=(y::ys).filter fun a=>decide (key a=v):=fun v=>(s.fl v).trans (t.fl v).symm
   have h1:=List.pairwise_cons.mp s.up
   have h2:=List.pairwise_cons.mp t.up
   have le1:key x<=key y:=by
    have m:y∈(x::xs).filter fun a=>decide (key a=key y):=by rw[e];simp
    have m:=(List.mem_filter.mp m).1
    rcases List.mem_cons.mp m with z | z
    ·rw[z];exact Int.le_refl _
    ·exact h1.1 y z
   have le2:key y<=key x:=by
    have m:x∈(y::ys).filter fun a=>decide (key a=key x):=by rw[<-e];simp
    have m:=(List.mem_filter.mp m).1
    rcases List.mem_cons.mp m with z | z
    ·rw[z];exact Int.le_refl _
    ·exact h2.1 x z
   have ek:key x=key y:=Int.le_antisymm le1 le2
   have exy:x=y:=by
    have:=e (key x)
    simp[ek] at this;exact this.1
   subst exy;have tail:∀v,xs.filter (fun a=>decide (key a=v))=ys.filter fun a=>decide (key a=v):=fun v=>by
    have:=e v
    by_cases q:key x=v
    ·simp[q] at this;exact this
    ·simp[q] at this;exact this
   rw[Stb.eq (l:=xs) ⟨h1.2,fun _=>rfl⟩ ⟨h2.2,fun v=>(tail v).symm⟩]
theorem ziF {α:Type}{lt:α->α->Prop}(irr:∀a,¬lt a a)(tr:∀a b c,lt a b->lt b c->lt a c):∀{a b:List α},a.Pairwise lt->b.Pairwise lt->(∀x,x∈a↔x∈b)->a=b
 | [],[],_,_,_=>rfl
 | [],y::ys,_,_,h=>by have:=(h y).mpr (by simp);simp at this
 | x::xs,[],_,_,h=>by have:=(h x).mp (by simp);simp at this
 | x::xs,y::ys,p,q,h=>by
   have p:=List.pairwise_cons.mp p
   have q:=List.pairwise_cons.mp q
   have e:x=y:=by
    rcases List.mem_cons.mp ((h x).mp (by simp)) with z | z
    ·exact z
    ·rcases List.mem_cons.mp ((h y).mpr (by simp)) with z2 | z2
     ·exact z2.symm
     ·exact absurd (tr _ _ _ (p.1 y z2) (q.1 x z)) (irr _)
   subst e;rw[ziF irr tr p.2 q.2 fun t=>⟨fun ht=>?_,fun ht=>?_⟩]
   ·rcases List.mem_cons.mp ((h t).mp (by simp[ht])) with z | z
    ·rw[z] at ht;exact absurd (p.1 x ht) (irr _)
    ·exact z
   ·rcases List.mem_cons.mp ((h t).mpr (by simp[ht])) with z | z
    ·rw[z] at ht;exact absurd (q.1 x ht) (irr _)
    ·exact z
theorem stb_of {α:Type}{key:α->Int}{l:List α}{dflt:α}{p:Array Nat}(A:Asc (fun i=>key (l.getD i dflt)) l.length p l.length):Stb key l (p.toList.map fun i=>l.getD i dflt):=by
 have pw:p.toList.Pairwise (lx fun i=>key (l.getD i dflt)):=by
  rw[List.pairwise_iff_getElem];intro i j hi hj hij;have hi':i<p.size:=by simpa using hi
  have hj':j<p.size:=by simpa using hj
  have:=A.up i j hij (by rw[<-A.sz];exact hj')
  simpa[gD,hi',hj'] using this
 have pm:p.toList.Perm (List.range l.length):=by
  have:=A.pm
  simpa using Array.perm_iff_toList_perm.mp this
 refine⟨?_,fun v=>?_⟩
 ·rw[List.pairwise_map];exact pw.imp fun {a b} h=>by unfold lx at h;dsimp only[] at h;omega
 ·have e1:(List.range l.length).map (fun i=>l.getD i dflt)=l:=by
   apply List.ext_getElem
   ·simp
   ·intro i h1 h2;simp[h2]
  have e2:(p.toList.filter fun i=>decide (key (l.getD i dflt)=v))=(List.range l.length).filter fun i=>decide (key (l.getD i dflt)=v):=by
   refine ziF (lt:=fun a b=>a<b) (fun a=>Nat.lt_irrefl a) (fun a b c=>Nat.lt_trans) ?_ ?_ fun x=>?_
   ·refine(pw.filter _).imp_of_mem fun {a b} ha hb h=>?_
    have ha:=of_decide_eq_true (List.mem_filter.mp ha).2
    have hb:=of_decide_eq_true (List.mem_filter.mp hb).2
    unfold lx at h;dsimp only[] at h;omega
   ·exact(List.pairwise_lt_range).filter _
   ·rw[List.mem_filter,List.mem_filter,pm.mem_iff]
  have e3:=congrArg (List.map fun i=>l.getD i dflt) e2
  have e4:∀m:List Nat,(m.map fun i=>l.getD i dflt).filter (fun a=>decide (key a=v))=(m.filter fun i=>decide (key (l.getD i dflt)=v)).map fun i=>l.getD i dflt:=fun m=>by
   rw[List.filter_map];rfl
  rw[e4,e3,<-e4,e1]
end SO
namespace L2
open PySem PySem.Spec PyProof PyProof.Rows PySem.W
section
variable {X:Cx}{pins:List (Addr×Obj)}{σ:St}{H:Hp}{s:Shared}
structure Own (X:Cx)(pins:List (Addr×Obj))(H:Hp)(a:Addr):Prop where
 hn:H a=none
 hL:a≠X.env.locals
 h1:X.s₀.heap.objs.size<=a
 h2:∀x c,X.env.cells.lookup x=some c->c≠a
 h3:∀p∈X.pn++pins,p.1≠a
 fs:a∉X.fs
theorem Inv.ownAt (I:Inv X pins σ H s){a:Addr}(h:s.heap.objs.size<=a):Own X pins H a where
 hn:=I.hok.fresh h
 hL:=Nat.ne_of_gt (Nat.lt_of_lt_of_le I.lt h)
 h1:=Nat.le_trans I.sz h
 h2:=fun x c e z=>by
  obtain⟨v,o,q,_⟩:=I.cell x c e;exact absurd (z▸Heap.lt_size q) (Nat.not_lt.mpr h)
 h3:=fun p hp z=>absurd (z▸Heap.lt_size (I.pin p hp).1) (Nat.not_lt.mpr h)
 fs:=I.nofs h
theorem Inv.own (I:Inv X pins σ H s):Own X pins H s.heap.objs.size:=I.ownAt (Nat.le_refl _)
theorem Inv.at_own {a:Addr}{h':Heap}{t':Nat}(I:Inv X pins σ H s)(w:Own X pins H a)(k:∀b o,b≠a->s.heap.get? b=some o->h'.get? b=some o):Inv X pins σ H {s with heap:=h',toks:=t'}:=
 I.turned k w.hn w.hL (.inr w.h1) w.h2 w.h3
theorem Inv.track {D:Addr}{o:HO}(I:Inv X pins σ H s)(w:Own X pins H D)(new:ObjOk X.prog X.w (upd H D o) s.heap D o):Inv X pins σ (upd H D o) s:=by
 have nD:∀b u,H b=some u->b≠D:=fun b u e z=>by rw[z,w.hn] at e;cases e
 refine⟨I.ok,I.os,I.bare,⟨I.base.keep,I.base.slot,fun b ob e n hx=>?_,I.base.there,fun b xs e=>?_,fun b o u e=>?_,fun b ps e=>?_⟩,I.loc,I.cell,by rw[zah (Ne.symm w.hL)];exact I.free,fun x c e=>by rw[zah (w.h2 x c e)];exact I.freeC x c e,fun p hp=>?_,fun b u e=>?_,I.len⟩
 ·rw[zah (fun(z:b=D)=>by have e2:=Heap.lt_size e;rw[z] at e2;exact Nat.lt_irrefl _ (Nat.lt_of_lt_of_le e2 w.h1))];exact I.base.free b ob e n hx
 ·have:=I.base.tups b xs e
  rw[zah (nD b _ this)];exact this
 ·have:=I.base.frzs b o u e
  rw[zah (nD b _ this)];exact this
 ·obtain⟨more,this⟩:=I.base.tbls b ps e;exact⟨more,by rw[zah (nD b _ this)];exact this⟩
 ·obtain⟨a1,a2,a3⟩:=I.pin p hp;exact⟨a1,by rw[zah (w.h3 p hp)];exact a2,a3⟩
 ·by_cases z:b=D
  ·subst z;rw[zai] at e;cases e;exact new
  ·rw[zah z] at e;exact(I.hok b u e).stay (fun c v _ q=>q) (fun c q=>by rw[zah (nD c _ q)];exact q) fun c _ _ q=>by rw[zah (nD c _ q)];exact q
theorem Own.pinned {a:Addr}{o:Obj}(w:Own X pins H a)(I:Inv X pins σ H s)(h:s.heap.get? a=some o)(hc:∀v,o.data≠.cell v):Inv X ((a,o)::pins) σ H s:=by
 refine I.pins_of fun p hp=>?_
 rcases List.mem_cons.mp hp with rfl | hp
 ·exact⟨h,w.hn,w.hL,w.fs,hc⟩
 ·exact I.pin p (List.mem_append_right _ hp)
theorem Own.more {a b:Addr}{o:Obj}(w:Own X pins H a)(h:b≠a):Own X ((b,o)::pins) H a:=⟨w.hn,w.hL,w.h1,w.h2,fun p hp=>by
 rcases List.mem_append.mp hp with hp | hp
 ·exact w.h3 p (List.mem_append_left _ hp)
 ·rcases List.mem_cons.mp hp with rfl | hp
  ·exact h
  ·exact w.h3 p (List.mem_append_right _ hp),w.fs⟩
theorem Inv.unpin {p:Addr×Obj}(I:Inv X (p::pins) σ H s):Inv X pins σ H s:=I.pins_of fun q hq=>I.pin q (by
 rcases List.mem_append.mp (List.mem_append_right X.pn hq) with z | z
 ·exact List.mem_append_left _ z
 ·exact List.mem_append_right _ (List.mem_cons_of_mem _ z))
structure Ky (X:Cx)(pins:List (Addr×Obj))(σ:St)(H:Hp)(kS D:Addr)(e1:Nat)(ks:List Value)(c:Nat)(s:Shared):Prop where
 inv:Inv X pins σ H s
 ky:s.heap.get? kS=some (seqObj "list" ks.toArray c)
 ds:s.heap.get? D=some (seqObj "list" #[] e1)
def IsI (z:Int)(u:Value):Prop:=∃t,u=Value.int z t
theorem Paired.snoc {α β:Type}{F:α->β->Prop}{a:α}{b:β}(h:F a b):∀{xs:List α}{ys:List β},Paired F xs ys->Paired F (xs++[a]) (ys++[b])
 | _,_,.nil=>.cons h .nil
 | _,_,.cons r t=>.cons r (Paired.snoc h t)
theorem zj7 {M:Model}{A:Around}{E:Value->Shared->Prop}{kS D:Addr}{e1:Nat}{body:Value->PUnit->Sem (ForInStep PUnit)}{vs:List Value}{zs:List Int}
 (hb:∀(i:Nat) (x:Value) (z:Int) (ks:List Value) (c:Nat) (s:Shared),vs[i]?=some x->zs[i]?=some z->ks.length=i->Ky X pins σ H kS D e1 ks c s->wpAny M A (body x ⟨⟩) (fun r s'=>r=.yield ⟨⟩ /\∃u c',IsI z u/\Ky X pins σ H kS D e1 (ks++[u]) c' s') E s) :
 ∀(r:List Value) (zr pz:List Int) (pre ks:List Value) (c:Nat) (s:Shared),vs=pre++r->zs=pz++zr->zr.length=r.length->Paired IsI pz ks->pre.length=ks.length->Ky X pins σ H kS D e1 ks c s->
  wpAny M A (forIn r PUnit.unit body) (fun _ s'=>∃ks c,Paired IsI zs ks/\ks.length=vs.length/\Ky X pins σ H kS D e1 ks c s') E s
 | [],zr,pz,pre,ks,c,s,h1,h2,hl,hp,hk,K=>by
   rw[List.forIn_nil];have:zr = []:=List.length_eq_zero_iff.mp hl
   subst this;rw[List.append_nil] at h1 h2;exact wpAny_pure ⟨ks,c,by rw[h2];exact hp,by rw[h1];exact hk.symm,K⟩
 | x::r,[],pz,pre,ks,c,s,h1,h2,hl,hp,hk,K=>by simp at hl
 | x::r,z::zr,pz,pre,ks,c,s,h1,h2,hl,hp,hk,K=>by
   rw[List.forIn_cons];have hpz:pz.length=ks.length:=Paired.length hp
   refine wpAny_bind (wpAny_mono (hb ks.length x z ks c s (by rw[h1,<-hk];simp) (by rw[h2,<-hpz];simp) rfl K) (fun q s' hq=>?_) fun _ _ e=>e);obtain⟨rfl,u,c',iu,K'⟩:=hq;refine zj7 hb r zr (pz++[z]) (pre++[x]) (ks++[u]) c' s' (by rw[h1];simp) (by rw[h2];simp) (by simpa using hl) ?_ (by simp[hk]) K';exact Paired.snoc iu hp
theorem ziG {zs:List Int}{ks:List Value}(h:Paired IsI zs ks){i:Nat}(hi:i<ks.length):∃t,ks.getD i Value.none=Value.int (zs.getD i 0) t:=by
 induction h generalizing i with
 | nil=>simp at hi
 | cons r t ih=>
   cases i with
   | zero=>obtain⟨t,e⟩:=r;exact⟨t,by simpa using e⟩
   | succ i=>simpa using ih (by simpa using hi)
theorem zl2 {zs:List Int}{ks:List Value}(h:Paired IsI zs ks):∀v∈ks,∃z t,v=Value.int z t:=by
 induction h with
 | nil=>simp
 | cons r t ih=>
   intro v hv;rcases List.mem_cons.mp hv with rfl | hv
   ·obtain⟨t,e⟩:=r;exact⟨_,t,e⟩
   ·exact ih v hv
theorem zhN {l f:Addr}{vs:List Value}{zs:List Int}{Q:Value->Shared->Prop}{E:Value->Shared->Prop}(I:Inv X pins σ H s)(hl:s.heap.IsList l vs.toArray)(hlen:zs.length=vs.length)(h64:vs.length<64)
 (turn:∀(i:Nat) (v:Value) (z:Int) (pins':List (Addr×Obj)) (s':Shared),vs[i]?=some v->zs[i]?=some z->Inv X pins' σ H s'->(∀p∈pins,p∈pins')->wpAny (model X.prog X.w) X.A.in1.in1 (call (.ref f) [v]) (fun u s2=>IsI z u/\Inv X pins' σ H s2) (fun _ _=>False) s')
 (fin:∀(D:Addr) (p:Array Nat) (c:Nat) (s':Shared),SO.Asc (fun i=>zs.getD i 0) vs.length p vs.length->Inv X pins σ H s'->Own X pins H D->s'.heap.get? D=some (seqObj "list" (p.toList.map fun i=>vs.getD i Value.none).toArray c)->Q (.ref D) s') :
 wpAny (model X.prog X.w) X.A (call (.builtin "sorted") [.ref l] [(Str.ofString "key",.ref f)]) Q E s:=by
 have small:vs.length<=sizeLine:=by rw[sizeLine_eq];omega
 refine call_function_entry_kw kind_sorted plain_sorted entry_sorted (ksk_s1 _ _) ?_;unfold Builtin.«sorted»;refine wpAny_bind (m:=checkCount "sorted" 1 1 _) (wpAny_pure (wpAny_bind (collect_list hl ?_ small)));have I1:Inv X pins σ H {s with heap:=(s.heap.push (seqObj "list" #[] 0)).update s.heap.objs.size (Obj.mapSeq (·++vs.toArray))}:=I.at_own (t':=s.toks) I.own fun b o hb e=>by
  rw[Heap.get?_update_ne _ _ _ _ hb];exact Heap.get?_push_of_some _ e
 generalize ((s.heap.push (seqObj "list" #[] 0)).update s.heap.objs.size (Obj.mapSeq (·++vs.toArray)))=h1 at I1⊢;refine wpAny_bind (wpAny_newList ?_ small);have w2:=I1.own
 generalize hD:({s with heap:=h1}:Shared).heap.objs.size=D at w2⊢;have hD':h1.objs.size=D:=hD
 have o2:(h1.push (seqObj "list" vs.toArray 0)).get? D=some (seqObj "list" vs.toArray 0):=by rw[<-hD'];exact Heap.get?_push_size _ rfl
 have I2:Inv X pins σ H {s with heap:=h1.push (seqObj "list" vs.toArray 0)}:=I1.kept (t':=s.toks) fun b o e=>Heap.get?_push_of_some _ e
 have e2:({s with heap:=h1.push {cls:=.type "list",data:=.seq vs.toArray}}:Shared) = {s with heap:=h1.push (seqObj "list" vs.toArray 0)}:=rfl
 rw[show({({s with heap:=h1}:Shared) with heap:=({s with heap:=h1}:Shared).heap.push {cls:=.type "list",data:=.seq vs.toArray}}:Shared) = {s with heap:=h1.push (seqObj "list" vs.toArray 0)} from rfl];generalize h1.push (seqObj "list" vs.toArray 0)=h2 at I2 o2⊢;refine wpAny_bind (wpAny_holding (wpAny_call_entry_kw slot_list_sort ⟨_,o2,rfl⟩ entry_list_sort ?_ (ksk_l1 _ _)));show wpAny (model X.prog X.w) X.A.in1.in1 (Builtin.«list.sort» ⟨[.ref D],[(Str.ofString "key",.ref f)]⟩) _ _ _
 rw[ksk_t1];unfold ksk_tree;refine wpAny_bind (listItems_at o2 rfl (wpAny_bind (listUpdate_at o2 rfl ?_ (by simpa using small) (Nat.zero_le _))));obtain⟨e1,o3⟩:∃e1,(h2.update D (Obj.mapSeq fun _=>(#[]:Array Value))).get? D=some (seqObj "list" #[] e1):=⟨_,get?_update_seq o2 fun _=>#[]⟩
 have I3:Inv X pins σ H {s with heap:=h2.update D (Obj.mapSeq fun _=>(#[]:Array Value))}:=I2.at_own (t':=s.toks) w2 fun b o hb e=>by rw[Heap.get?_update_ne _ _ _ _ hb];exact e
 show wpAny _ _ _ _ _ {s with heap:=h2.update D (Obj.mapSeq fun _=>(#[]:Array Value))}
 generalize h2.update D (Obj.mapSeq fun _=>(#[]:Array Value))=h3 at I3 o3⊢;refine wpAny_bind (seqEpoch_at o3 rfl (wpAny_bind (wpAny_newTuple ?_ (by simpa using small))));have I4:Inv X pins σ H {s with heap:=h3.push (seqObj "tuple" vs.toArray 0)}:=I3.kept (t':=s.toks) fun b o e=>Heap.get?_push_of_some _ e
 have o4:(h3.push (seqObj "tuple" vs.toArray 0)).get? D=some (seqObj "list" #[] e1):=Heap.get?_push_of_some _ o3
 show wpAny _ _ _ _ _ {s with heap:=h3.push (seqObj "tuple" vs.toArray 0)}
 generalize h3.push (seqObj "tuple" vs.toArray 0)=h4 at I4 o4⊢;refine wpAny_bind (wpAny_newList ?_ (Nat.zero_le _));have w5:=I4.own
 generalize hS:({s with heap:=h4}:Shared).heap.objs.size=kS at w5⊢;have hS':h4.objs.size=kS:=hS
 have I5:Inv X pins σ H {s with heap:=h4.push (seqObj "list" #[] 0)}:=I4.kept (t':=s.toks) fun b o e=>Heap.get?_push_of_some _ e
 have o5:(h4.push (seqObj "list" #[] 0)).get? D=some (seqObj "list" #[] e1):=Heap.get?_push_of_some _ o4
 have k5:(h4.push (seqObj "list" #[] 0)).get? kS=some (seqObj "list" #[] 0):=by rw[<-hS'];exact Heap.get?_push_size _ rfl
 have ne:D≠kS:=fun z=>by
  have:=Heap.lt_size o4
  rw[z,<-hS'] at this;exact Nat.lt_irrefl _ this
 show wpAny _ _ _ _ _ {s with heap:=h4.push (seqObj "list" #[] 0)}
 generalize h4.push (seqObj "list" #[] 0)=h5 at I5 o5 k5⊢;refine wpAny_holding ?_;unfold ksk_rest;refine wpAny_bind (wpAny_rule ?_);first
  | rw[List.forIn_toArray]
  | (rw[<-Array.forIn_toList];simp only[List.toList_toArray])
 refine wpAny_bind (wpAny_mono (zj7 (kS:=kS) (D:=D) (e1:=e1) (vs:=vs) (zs:=zs) (fun i x z ks c s' hx hz hi K=>?_) vs zs [] [] [] 0 _ rfl rfl hlen .nil rfl ⟨I5,k5,o5⟩) (fun _ s' hd=>?_) fun _ _ e=>e)
 ·have wD:Own X ((kS,seqObj "list" ks.toArray c)::pins) H D:=w2.more (Ne.symm ne)
  have J:=(wD.pinned (w5.pinned K.inv K.ky (by intro v z;cases z)) K.ds (by intro v z;cases z))
  have hi64:i<64:=by
   have:=(List.getElem?_eq_some_iff.mp hx).1
   omega
  refine wpAny_bind (wpAny_attempt (wpAny_mono (turn i x z _ s' hx hz J fun p hp=>List.mem_cons_of_mem _ (List.mem_cons_of_mem _ hp)) (fun u s2 h=>?_) fun _ _ e=>e.elim));obtain⟨iu,J2⟩:=h;have kD:=(J2.pin (D,seqObj "list" #[] e1) (List.mem_append_right _ List.mem_cons_self)).1
  have kK:=(J2.pin (kS,seqObj "list" ks.toArray c) (List.mem_append_right _ (List.mem_cons_of_mem _ List.mem_cons_self))).1
  have J3:Inv X pins σ H s2:=J2.unpin.unpin
  try dsimp only
  have ea:ks.toArray.push u=(ks++[u]).toArray:=by simp
  obtain⟨c2,hc2⟩:∃c2,(s2.heap.update kS (Obj.mapSeq (·.push u))).get? kS=some (seqObj "list" (ks++[u]).toArray c2):=⟨_,by rw[<-ea];exact get?_update_seq kK (·.push u)⟩
  refine wpAny_bind (listUpdate_at kK rfl ?_ (by rw[List.size_toArray,sizeLine_eq];omega) (by rw[Array.size_push,List.size_toArray,sizeLine_eq];omega));refine wpAny_pure ⟨rfl,u,c2,iu,J3.at_own (t':=s2.toks) w5 (fun b o hb e=>by rw[Heap.get?_update_ne _ _ _ _ hb];exact e),hc2,?_⟩;show(s2.heap.update kS (Obj.mapSeq (·.push u))).get? D=_
  rw[Heap.get?_update_ne _ _ _ _ ne];exact kD
 ·obtain⟨ks,c,hp,hkl,K⟩:=hd;have zl:zs.length=ks.length:=Paired.length hp
  try dsimp only
  refine wpAny_bind (listItems_at K.ky rfl ?_);unfold ksk_end;try dsimp only
  simp only[Bool.false_eq_true,if_false];have last:∀(st:SortSt) (p:Array Nat) (s2:Shared),p.size=vs.length->(arrOf st).map (·.2)=(p.toList.map fun i=>vs.getD i Value.none).toArray->failedOf st=none->SO.Asc (fun i=>zs.getD i 0) vs.length p vs.length->Ky X pins σ H kS D e1 ks c s2->
   wpAny (model X.prog X.w) X.A.in1.in1 (ksk_tail D false e1 (.ref kS) st) (fun fin s'=>∃v,fin=.done (.ret v)/\wpAny (model X.prog X.w) X.A.in1 (do ret (.ref D)) (fun fin s'=>∃v,fin=.done (.ret v)/\Q v s') E s') E s2:=fun st p s2 hps hout hf A K2=>by
   unfold ksk_tail;try dsimp only
   rw[hout];obtain⟨ck,hck⟩:∃ck,(s2.heap.update kS (Obj.mapSeq fun _=>(#[]:Array Value))).get? kS=some (seqObj "list" #[] ck):=⟨_,get?_update_seq K2.ky fun _=>#[]⟩
   have kD:(s2.heap.update kS (Obj.mapSeq fun _=>(#[]:Array Value))).get? D=some (seqObj "list" #[] e1):=by rw[Heap.get?_update_ne _ _ _ _ ne];exact K2.ds
   have J1:Inv X pins σ H {s2 with heap:=s2.heap.update kS (Obj.mapSeq fun _=>(#[]:Array Value))}:=K2.inv.at_own (t':=s2.toks) w5 fun b o hb e=>by rw[Heap.get?_update_ne _ _ _ _ hb];exact e
   refine wpAny_bind (listUpdate_at K2.ky rfl ?_ (by rw[List.size_toArray,sizeLine_eq];omega) (Nat.zero_le _));refine wpAny_bind (wpAny_letGo (wpAny_bind (seqEpoch_at kD rfl ?_)));simp only[Bool.false_eq_true,if_false];obtain⟨c2,hc2⟩:∃c2,((s2.heap.update kS (Obj.mapSeq fun _=>(#[]:Array Value))).update D (Obj.mapSeq fun _=>(p.toList.map fun i=>vs.getD i Value.none).toArray)).get? D=some (seqObj "list" (p.toList.map fun i=>vs.getD i Value.none).toArray c2):=⟨_,get?_update_seq kD fun _=>_⟩
   refine wpAny_bind (listUpdate_at kD rfl ?_ (Nat.zero_le _) (by rw[List.size_toArray,List.length_map,Array.length_toList,hps,sizeLine_eq];omega));rw[hf];simp only[bne_self_eq_false,Bool.false_eq_true,if_false];refine wpAny_pure ⟨_,rfl,wpAny_pure ⟨_,rfl,fin D p c2 _ A ?_ w2 hc2⟩⟩;exact J1.at_own (t':=s2.toks) w2 fun b o hb e=>by rw[Heap.get?_update_ne _ _ _ _ hb];exact e
  by_cases h2:vs.toArray.size<2
  ·rw[if_pos h2,if_pos h2];refine wpAny_bind (wpAny_pure ?_);rw[StateT.run_pure];refine wpAny_bind (wpAny_pure ?_);try dsimp only
   have h2':vs.length<2:=by simpa using h2
   refine last _ (List.toArray (List.range vs.length)) s' (by simp) ?_ rfl ⟨⟨by simp,fun i hi=>by simpa[SO.gD,hi] using hi,fun i h1 h2=>by omega,Array.Perm.refl _⟩,fun i j hij hj=>by omega⟩ K;show((ks.toArray.zip vs.toArray).map (·.2))=_
   apply Array.toList_inj.mp;rw[Array.toList_map,Array.toList_zip];show(ks.zip vs).map (·.2)=(List.range vs.length).map _
   rw[List.map_snd_zip (by omega)];apply List.ext_getElem
   ·simp
   ·intro i h1 h3;simp[h1]
  ·rw[if_neg h2,if_neg h2];have h2':2<=vs.length:=by
    have:¬vs.length<2:=by simpa using h2
    omega
   refine wpAny_bind (kas_kind (T:=.type "int") (by omega) (fun v hv=>?_) rfl rfl ?_)
   ·obtain⟨z,t,rfl⟩:=zl2 hp v hv;exact Looks.of_pure rfl
   ·refine wpAny_bind (wpAny_mono (kat_run (Q:=fun st' s2=>∃p:Array Nat,p.size=vs.length/\arrOf st'=p.map (kas_item (ks.toArray.zip vs.toArray))/\failedOf st'=none/\SO.Asc (fun i=>zs.getD i 0) vs.length p vs.length/\s2=s') hkl h2' h64 (fun p' st' s2 a1 a2 a3 a4=>⟨p',a1,a2,a3,a4.1,a4.2⟩) (SO.kw_of (n:=vs.length) (k:=fun i=>zs.getD i 0) (S:=fun s2=>s2=s') (fun i j C s2 hi hj hs hc=>?_) _ s' rfl (SO.kw_mono (fun p s2 h=>h) _ _ (SO.sort_ok2 (by omega))))) ?_ fun _ _ e=>e)
    ·obtain⟨t1,e1'⟩:=ziG hp (show i<ks.length by omega);obtain⟨t2,e2'⟩:=ziG hp (show j<ks.length by omega);unfold kas_ask;rw[e1',e2'];exact kat_lt_int hc
    ·rintro⟨⟨⟩,st'⟩ s2 ⟨p,a1,a2,a3,a4,rfl⟩;try dsimp only
     exact last st' p s2 a1 (kat_snds hkl a2) a3 a4 K
end
theorem zhO {pos:Pos}{a b:Int}{c cv:Value}(l:List Value)(h:TriplesOk l):codeAmong pos (l++[rawInt a,rawInt b,c])=some cv->codeAmong pos l=some cv\/cv=c:=by
 fun_induction TriplesOk l with
 | case1=>
   intro q;simp only[List.nil_append,codeAmong,rawInt] at q;split at q
   ·cases q;exact .inr rfl
   ·simp[codeAmong] at q
 | case2 x t y u z rest ih=>
   intro q;simp only[List.cons_append,codeAmong] at q⊢;split at q
   ·rename_i hc;rw[if_pos hc];exact .inl q
   ·rename_i hc;rw[if_neg hc];exact ih h q
 | case3 l h1 h2=>exact h.elim
section
variable {X:Cx}{pins:List (Addr×Obj)}{σ:St}{H:Hp}{s:Shared}
theorem CodeK.hd {K:W.Frag}{c P:Addr}{h:Heap}(hC:CodeK K c P)(x:K.In h):CodeHd h c P:=by
 obtain⟨o,vs,file,tf,flags,tg,inF,text,tt,l,e⟩:=hC.ex;exact⟨o,vs,file,tf,flags,tg,inF,text,tt,x _ _ l,e⟩
theorem Inv.grownC {P c':Addr}{ps qs:Array Value}{h':Heap}{t':Nat}{oc:Obj}{vs:Array Value}{t:Tok}{q:Str}{a b:Int}(I:Inv X pins σ H s)(hH:H P=some (.tbl ps))(hps:ps[0]?=some (Value.str q 0))(ht:TabC H ps qs)(k:∀b o,b≠P->s.heap.get? b=some o->h'.get? b=some o)
 (e:h'.get? P=some (tabO (qs++#[rawInt a,rawInt b,.ref c']))) (hc:s.heap.objs.size<=c') (ho:h'.get? c'=some oc) (hd:oc.data=.fields vs) (hv:vs[1]?=some (.str q t)) :
 Inv X pins σ (upd H c' (.frz oc (.ext fun _=>True))) {s with heap:=h',toks:=t'}:=by
 have hn:H c'=none:=I.hok.fresh hc
 have nP:∀b u,H b=some u->b≠c':=fun b u q z=>by rw[z,hn] at q;cases q
 refine I.un ⟨fun b o q n _ _=>k b o (Inv.ne_tbl hH n) q,fun b o q n _ _=>⟨o.slots,k b o (Inv.ne_tbl hH n) q⟩,fun b o q n _=>?_,fun b o q _=>?_,fun b xs q=>?_,fun b o u q=>?_,fun b qs q=>⟨#[],?_⟩⟩ fun b u q=>?_
 ·rw[zah (fun(z:b=c')=>by have e2:=Heap.lt_size q;rw[z] at e2;exact Nat.lt_irrefl _ (Nat.lt_of_lt_of_le e2 hc))];exact n
 ·by_cases z:b=P
  ·subst z;exact⟨_,e⟩
  ·exact⟨o,k b o z q⟩
 ·rw[zah (nP b _ q)];exact q
 ·rw[zah (nP b _ q)];exact q
 ·rw[zah (nP b _ q),q];simp
 ·by_cases z0:b=c'
  ·subst z0;rw[zai] at q;cases q;exact⟨ho,trivial,⟨_,ho⟩,fun _ _ _ _=>trivial⟩
  ·rw[zah z0] at q;by_cases z:b=P
   ·subst z;rw[hH] at q;cases q;refine⟨_,e,?_,fun pos cv z=>?_⟩
    ·simpa using TriplesOk_snoc a _ (.ref c') _ ht.1
    ·rcases zhO (a:=a) (b:=_) (c:=.ref c') qs.toList ht.1 (by simpa using z) with z | z
     ·obtain⟨c2,o,u,vs,t,q',e1,e2,e3⟩:=ht.2 pos cv z;exact⟨c2,o,u,vs,t,q',e1,by rw[zah (nP _ _ e2)];exact e2,e3⟩
     ·exact⟨c',oc,_,vs,t,q,z,zai,hd,hv,hps⟩
   ·refine(I.hok b u q).stay (fun c v hc q'=>k c v ?_ q') (fun c q'=>by rw[zah (nP _ _ q')];exact q') fun c xs _ q'=>by rw[zah (nP _ _ q')];exact q'
    rcases hc with r | r
    ·rw[r];exact z
    ·intro r';subst r';rw[hH] at r;cases r
theorem zj8 {tp:Array Value}{params:Arguments}{body:Expr}{scope:Scope}{pos:Pos}{c P bm:Addr}{ob:Obj}{q:Str}{Q:Value->Shared->Prop}{A:Around}{E:Value->Shared->Prop}(I:Inv X pins σ H s)(hcd:X.env.code=.ref c)(hC:CodeK X.K c P)(hB:BMod X.base mainGlobals X.mg bm ob)
 (hH:H P=some (.tbl tp)) (hps:tp[0]?=some (Value.str q 0)) (hq:X.env.qual++"<lambda>"=q) (hcl:closureFor scope X.env=pure []) (hdef:defaultsOf params X.env=([],[]))
 (h:∀(f c':Addr) (oc:Obj) (u:HO) (vs:Array Value) (t:Tok) (pm ctv:Value) (H1:Hp) (s':Shared),(∀b o,H b=some o->H1 b=some o)->(∀b,H1 b=none->H b=none)->H1 c'=some (.frz oc u)->oc.data=.fields vs->vs[1]?=some (.str q t)->
  Own X pins H1 f->s'.heap.get? f=some (kla_obj "<lambda>" q params body scope [] pm c' ctv)->Inv X pins σ H1 s'->Q (.ref f) s') :
 wpAny (model X.prog X.w) A (eval (.Lambda params body scope pos) X.env) Q E s:=by
 obtain⟨ps,hP,ht⟩:=I.tblAt hH;have hg:=I.mod.glob.keeps I.bk
 have nP:∀b o,X.base.get? b=some o->b≠P:=fun b o e z=>by
  have:=(I.bs b o e).2
  rw[z,hH] at this;cases this
 have hgP:mainGlobals≠P:=by
  obtain⟨o,es,ep,e,_⟩:=I.mod.glob;exact nP _ _ e
 have hbG:bm≠mainGlobals:=fun z=>by
  obtain⟨o,es,ep,e,hd,_⟩:=I.mod.glob;have:=hB.obj
  rw[z,e] at this;cases this;have:=hB.data
  rw[hd] at this;cases this
 have hb:s.heap.BuiltinsAt X.mg P:=⟨bm,ob,hB.name,hB.ne,hbG,nP _ _ hB.obj,I.bk _ _ hB.obj,hB.cls,hB.dict,hB.data⟩
 refine kla_eval hdef ?_;rw[hq];cases e:codeAmong pos ps.toList with
 | none=>
   refine kla_makeFunction (mg:=X.mg) hcl I.ok.glob hg hcd (hC.hd I.kIn) hP ht.1 e hgP hb fun c' ctv h' tk hx hge hlt hrec htb=>?_
   obtain⟨c2,oc,vs,t,e2,hoc,hd,hv⟩:=hrec;cases e2;have J:=I.grownC (t':=tk) hH hps ht (fun b o hb e=>hx b o hb e) htb hge hoc hd hv
   have hn:H c'=none:=I.hok.fresh hge
   refine h h'.objs.size c' oc _ vs t _ ctv _ _ (fun b o q=>by rw[zah (fun z=>by rw[z,hn] at q;cases q)];exact q) (fun b q=>?_) zai hd hv J.own (Heap.get?_push_size _ rfl) (J.kept (t':=tk) fun b o e=>Heap.get?_push_of_some _ e);by_cases z:b=c'
   ·rw[z];exact hn
   ·rw[zah z] at q;exact q
 | some cv=>
   obtain⟨c',oc,u,vs,t,q',rfl,hc,hd,hv,eq⟩:=ht.2 pos cv e;have eq:q=q':=by
    rw[hps] at eq;cases eq;rfl
   subst eq;refine kla_makeFunctionHit (mg:=X.mg) hcl I.ok.glob hg hcd (hC.hd I.kIn) hP ht.1 e hb fun ctv h' tk hk hsz=>?_
   have J:Inv X pins σ H {s with heap:=h',toks:=tk}:=I.kept (t':=tk) hk
   exact h h'.objs.size c' oc u vs t _ ctv H _ (fun _ _ q=>q) (fun _ q=>q) hc hd hv J.own (Heap.get?_push_size _ rfl) (J.kept (t':=tk) fun b o e=>Heap.get?_push_of_some _ e)
end
theorem zl3 {P:Program}{w:World}{K:W.Frag}{mg:Str->Option Value}{base:Heap}{k:Nat}{f c':Addr}{name qual:Str}{params:Arguments}{body:Expr}{scope:Scope}{pm ctv:Value}{N ps:List Str}{A:Around}{outer:List Env}{s:Shared}{H:Hp}{us:List Value}{vs:List V}{Q:VK}{E:XK}{t:TE}
 (hr:Room (k+1) A) (e0:Env0 P w K mg base A outer s H) (hf:s.heap.get? f=some (kla_obj name qual params body scope [] pm c' ctv)) (hc:s.heap.CodeRec (.ref c') qual) (S:FnScope N ps scope) (hl:vs.length=ps.length) (r:Vals vs us)
 (hb:bindArgs (kla_fn name qual params body scope [] pm (.ref c') ctv) ⟨us,[]⟩=pure (ps.zip us)) (ht:PE (cxOf CX0 P w K mg base N qual scope f (.ref c') A outer s H E) body t) (hq:t (start N vs) H Q) :
 codeAny (model P w) A (.call (.ref f) ⟨us,[]⟩) (CR CX0 outer P w H s Q E) s:=by
 have lim:s.heap.NoLimit:=e0.mod.nolimit.keeps fun b o e=>(e0.bs b o e).1
 have hkind:∀y∈ps.zip us,scope.names.lookup y.1=some .local\/(scope.names.lookup y.1=some .cell/\((cellsFrom (s.heap.objs.size+1) scope.names []).lookup y.1).isSome=true):=fun⟨n,v⟩ hy=>by
  rcases S.par n (List.of_mem_zip hy).1 with q | q
  ·exact .inl q
  ·exact .inr ⟨q,PySem.W.cellsFrom_some _ _ _ (.inl q)⟩
 refine kla_callFunE hr.depth hf rfl S.co S.gen rfl hc ?_;rw[hb];refine wpAny_pure (wpAny_newFunctionEnv_cells S.kind hkind fun env he s1 x=>?_);subst he;refine⟨lim.keeps x.toInCall.keep,kla_codeExpr ?_⟩;have I:Inv (cxOf CX0 P w K mg base N qual scope f (.ref c') A outer s H E) [] (start N vs) H s1:=zfP S hr.hd e0 hl r x
 exact wpAny_mono (ht [] s1 (start N vs) H _ I hq) (fun u s' ⟨v,H',J,rv,q⟩ =>⟨v,H',J.os,J.bare,J.base,J.hok,rv,q⟩) fun e s' hs=>hs
end L2
namespace L2
open PySem PySem.Spec PyProof.Rows
section
variable {κ:Type}[DecidableEq κ]
def valV (kvs:List (κ×V))(k:κ):Option V:=(kvs.find? fun kv=>decide (kv.1=k)).map (·.2)
theorem zg5 {p:κ×V}{r:List (κ×V)}{k:κ}(e:p.1=k):valV (p::r) k=some p.2:=by simp[valV,List.find?_cons,e]
theorem zg6 {p:κ×V}{r:List (κ×V)}{k:κ}(e:¬p.1=k):valV (p::r) k=valV r k:=by simp[valV,List.find?_cons,e]
theorem RelO.isSome_eq {o:Option V}{u:Option Value}(r:RelO o u):o.isSome=u.isSome:=by
 cases o with
 | none=>cases u with
   | none=>rfl
   | some _=>exact(show False from r).elim
 | some _=>cases u with
   | none=>exact(show False from r).elim
   | some _=>rfl
theorem KV.val {kvs:List (κ×V)}{vs:List (κ×Value)}(r:KV kvs vs)(k:κ):RelO (valV kvs k) (valueAt vs k):=by
 unfold KV at r;induction r with
 | nil=>exact True.intro
 | @cons p q ps qs h t ih=>
   obtain⟨h1,h2⟩:=h;by_cases e:p.1=k
   ·have e':q.1=k:=h1.symm.trans e
    have b:valueAt (q::qs) k=some q.2:=by simp[valueAt,List.find?_cons,e']
    rw[zg5 e,b];exact h2
   ·have e':¬q.1=k:=fun z=>e (h1.trans z)
    have b:valueAt (q::qs) k=valueAt qs k:=by simp[valueAt,List.find?_cons,e']
    rw[zg6 e,b];exact ih
end
theorem zl4 {P:Program}{w:World}{k:Key}{u:Value}(r:RelV (kV k) u):(zbF P w).is k u=true:=by
 cases k with
 | inl i=>obtain⟨t,e⟩:=(show ∃t,u=Value.int i t from r);subst e;exact zgn P w i t
 | inr x=>obtain⟨t,e⟩:=(show ∃t,u=Value.str x t from r);subst e;exact zgo P w x t
theorem zfW {P:Program}{w:World}:∀{ks:List Key}{us:List Value},Vals (ks.map kV) us->ItemsAre (zbF P w) ks us
 | [],_,r=>by rw[List.map_nil] at r;cases r;exact .nil
 | k::ks,_,r=>by
   rw[List.map_cons] at r;cases r with
   | cons h t=>exact .cons (zl4 h) (zfW t)
abbrev KT (H:Hp):List (List Key×V)->List (List Key×Addr×Value)->Prop:=Paired fun p q=>p.1=q.1/\H q.2.1=some (.tup (p.1.map kV))/\RelV p.2 q.2.2
theorem KT.val {H:Hp}{kvs:List (List Key×V)}{xs:List (List Key×Addr×Value)}(r:KT H kvs xs)(k:List Key):RelO (valV kvs k) ((atKey xs k).map (·.2)):=by
 induction r with
 | nil=>exact True.intro
 | @cons p q ps qs h t ih=>
   obtain⟨h1,_,h2⟩:=h;by_cases e:p.1=k
   ·have e':q.1=k:=h1.symm.trans e
    have b:atKey (q::qs) k=some q.2:=by simp[atKey,List.find?_cons,e']
    rw[zg5 e,b];exact h2
   ·have e':¬q.1=k:=fun z=>e (h1.trans z)
    have b:atKey (q::qs) k=atKey qs k:=by simp[atKey,List.find?_cons,e']
    rw[zg6 e,b];exact ih
section
variable {P:Program}{w:World}{H:Hp}{h:Heap}{a:Addr}
theorem znZ {u:HO}(ok:HOk P w H h)(e:Rd H a u):ObjOk P w H h a u:=e.ok ok
theorem zn0 {kvs:List (Key×V)}(ok:HOk P w H h)(e:Rd H a (.dK kvs)):kvs.length<=sizeLine/\(a == sysModules)=false/\∃vs,KV kvs vs/\h.DictOf (zbF P w) a vs:=
 show ObjOk P w H h a (.dK kvs) from znZ ok e
theorem ziH {ks:List Key}(ok:HOk P w H h)(e:H a=some (.tup (ks.map kV))):(tupleKind (zbF P w)).is h ks a:=by
 obtain⟨_,its,r,o,h1,h2,n,h3⟩:=(show ObjOk P w H h a (.tup (ks.map kV)) from ok a _ e)
 exact⟨o,its.toArray,n,h1,h2,h3,by simpa using zfW r⟩
theorem zn1 {kvs:List (List Key×V)}(ok:HOk P w H h)(e:Rd H a (.dT kvs)):kvs.length<=sizeLine/\(a == sysModules)=false/\
 ∃xs,KT H kvs xs/\h.DictOfH (tupleKind (zbF P w)) a xs:=by
 obtain⟨z,y,xs,r,o,es,ep,h1,h2,h3,h4,h5⟩:=(show ObjOk P w H h a (.dT kvs) from znZ ok e)
 refine⟨z,y,xs,r,o,es,ep,h1,h2,h3,h4,fun x hx=>?_,h5⟩;have all:∀{l:List (List Key×V)}{m:List (List Key×Addr×Value)},KT H l m->∀x∈m,(tupleKind (zbF P w)).is h x.1 x.2.1:=by
  intro l m q;induction q with
  | nil=>intro x hx;exact nomatch hx
  | @cons p q ps qs hq t ih=>
    intro x hx;rcases List.mem_cons.mp hx with e | hx
    ·subst e;exact ziH ok (by rw[<-hq.1];exact hq.2.1)
    ·exact ih x hx
 exact all r x hx
end
def DGet (H:Hp)(a:Addr)(y:V)(r:Option V):Prop:=
 (∃kvs k,Rd H a (.dK kvs)/\y=kV k/\r=valV kvs k)\/∃kvs k b,Rd H a (.dT kvs)/\y=.ref b/\H b=some (.tup (k.map kV))/\r=valV kvs k
theorem DGet.k {H:Hp}{a:Addr}{kvs:List (Key×V)}{k:Key}(e:H a=some (.dK kvs)):DGet H a (kV k) (valV kvs k):=.inl ⟨kvs,k,.inl e,rfl,rfl⟩
section
variable {X:Cx}{pins:List (Addr×Obj)}{σ:St}{H:Hp}{s:Shared}{a:Addr}{y v:V}{u r:Value}{o:Option V}{A:Around}{E:Value->Shared->Prop}
theorem d_in {Q:Value->Shared->Prop}(hu:A.units+1<cLine)(I:Inv X pins σ H s)(g:DGet H a y o)(ry:RelV y u)(h:∀s',Inv X pins σ H s'->Q (.bool o.isSome) s') :
 wpAny (model X.prog X.w) A (compareOp .In u (.ref a)) Q E s:=by
 rcases g with⟨kvs,k,e,ey,l⟩ | ⟨kvs,k,b,e,ey,eb,l⟩
 ·subst ey;obtain⟨z,hd,vs,rel,dd⟩:=zn0 I.hok e;refine wpAny_in_of (zl4 ry) hd dd.mapOf ?_;rw[<-(rel.val k).isSome_eq,<-l];exact h _ (I.tok _)
 ·subst ey;cases(show u=Value.ref b from ry);obtain⟨z,hd,xs,rel,dd⟩:=zn1 I.hok e;refine wpAny_in_heap (tupleKind_room_in1 hu) (ziH I.hok eb) hd dd ?_;have q:=(rel.val k).isSome_eq
  rw[Option.isSome_map] at q;rw[<-q,<-l];exact h _ (I.tok _)
theorem zl5 {Q:Value->Shared->Prop}(hu:A.units+1<cLine)(I:Inv X pins σ H s)(g:DGet H a y o)(ry:RelV y u)(h:∀s',Inv X pins σ H s'->Q (.bool (!o.isSome)) s') :
 wpAny (model X.prog X.w) A (compareOp .NotIn u (.ref a)) Q E s:=by
 rcases g with⟨kvs,k,e,ey,l⟩ | ⟨kvs,k,b,e,ey,eb,l⟩
 ·subst ey;obtain⟨z,hd,vs,rel,dd⟩:=zn0 I.hok e;refine wpAny_notIn_of (zl4 ry) hd dd.mapOf ?_;rw[<-(rel.val k).isSome_eq,<-l];exact h _ (I.tok _)
 ·subst ey;cases(show u=Value.ref b from ry);obtain⟨z,hd,xs,rel,dd⟩:=zn1 I.hok e;refine wpAny_notIn_heap (tupleKind_room_in1 hu) (ziH I.hok eb) hd dd ?_;have q:=(rel.val k).isSome_eq
  rw[Option.isSome_map] at q;rw[<-q,<-l];exact h _ (I.tok _)
end
section
variable {X:Cx}{pins:List (Addr×Obj)}{σ:St}{H:Hp}{s:Shared}{a:Addr}{kvs:List (Key×V)}{k:Key}{u:Value}{A:Around}{E:Value->Shared->Prop}
end
section
variable {X:Cx}{o i e value:Expr}{pos pos' tpos:Pos}{td ty tv:TE}
end
section
variable {X:Cx}{pos:Pos}
end
section
variable {X:Cx}{pins:List (Addr×Obj)}{σ:St}{H:Hp}{s:Shared}{a:Addr}{y d:V}{u r:Value}{o:Option V}{A:Around}{E:Value->Shared->Prop}
end
section
variable {X:Cx}{o e f:Expr}{apos cpos:Pos}{td ty tx:TE}
end
section
variable {X:Cx}{pins:List (Addr×Obj)}{σ:St}{H:Hp}{s:Shared}{a:Addr}{kvs:List (Key×V)}{A:Around}{E:Value->Shared->Prop}
end
section
variable {X:Cx}{pins:List (Addr×Obj)}{σ:St}{H:Hp}{s:Shared}{a:Addr}{y:V}{u:Value}{A:Around}{E:Value->Shared->Prop}
end
end L2
namespace L2
open PySem PySem.Spec PyProof PyProof.Rows
section
variable {X:Cx}
theorem zhP (bs:List Bool):((List.range bs.length).any fun i=>(bs[i]?).getD false)=bs.any id:=by
 rw[Bool.eq_iff_iff,List.any_eq_true,List.any_eq_true];constructor
 ·rintro⟨j,hj,h⟩;have hj':=List.mem_range.mp hj
  rw[List.getElem?_eq_getElem hj'] at h;exact⟨_,List.getElem_mem hj',h⟩
 ·rintro⟨b,hb,h⟩;obtain⟨j,hj,rfl⟩:=List.getElem_of_mem hb;exact⟨j,List.mem_range.mpr hj,by rw[List.getElem?_eq_getElem hj];exact h⟩
theorem zeJ (hh:X.A.handled=none):zb7 X (.builtin "any") (fun xs H Q=>∃(p:Addr) (bs:List Bool),xs = [.ref p]/\SqL X.K H p (bs.map V.bl)/\Q (.bl (bs.any id)) H):=by
 intro pins s σ H xs us Q I r h;obtain⟨p,bs,rfl,hs,q⟩:=h;obtain⟨u,rfl,r1⟩:=zfI r;obtain rfl:u=Value.ref p:=r1;obtain⟨its,rv,pl,hz⟩:=I.list hs;have hl:=pl.isList
 have hlt:p<s.heap.objs.size:=by obtain⟨_,e,_⟩:=hl;exact Heap.lt_size e
 refine call_any_walk (wpAny_pyIter_list hl ?_);refine⟨s.heap.objs.size,[s.heap.objs.size,p],[s.heap.objs.size],its.toArray.size,_,_,fun i=>(bs[i]?).getD false,rfl,Walks.list (A:=X.A.in1) hh _ p (Nat.ne_of_lt hlt) its.toArray,
  ⟨⟨_,Heap.get?_push_size _ rfl,rfl,rfl⟩,hl.push _⟩,fun i v s' Q' E' hP hQ=>?_,fun h' tk hk=>?_⟩
 ·have e:its[i]?=some v:=by simpa using hP
  cases eb:(bs.map V.bl)[i]? with
  | none=>have:=rv.none_of eb;rw[e] at this;cases this
  | some y=>
    obtain⟨u,e',ry⟩:=rv.get eb;rw[e] at e';cases e';rw[List.getElem?_map] at eb;cases eb':bs[i]? with
    | none=>rw[eb'] at eb;cases eb
    | some k=>
      rw[eb'] at eb;cases eb;obtain rfl:v=Value.bool k:=ry;simp only[eb',Option.getD_some] at hQ;exact wpAny_truthy_bool hQ
 ·have e:((List.range its.toArray.size).any fun i=>(bs[i]?).getD false)=bs.any id:=by
   rw[List.size_toArray,<-rv.length,List.length_map];exact zhP bs
  rw[e];exact⟨.bl _,H,I.kept (t':=tk) (fun b o e=>hk b o (fun hm=>by rw[List.mem_singleton.mp hm] at e;exact Nat.lt_irrefl _ (Heap.lt_size e)) (Heap.get?_push_of_some _ e)),rfl,q⟩
def tRev (K:W.Frag)(te:TE):TE:=fun σ H Q=>te σ H fun x H1=>∃a xs,x=.ref a/\SqL K H1 a xs/\∀p,H1 p=none->Q (.ref p) (upd H1 p (.lst xs.reverse))
theorem zn2 {e:Expr}{te:TE}{p2 p3 p4 pos:Pos}{j:Nat}(he:PE X e te):PE X (.Subscript e (.Slice none none (some (.UnaryOp .USub (.Constant (.int 1) j p3) p4)) p2) pos) (tRev X.K te):=by
 intro pins s σ H Q I h;refine Subscript_ (thn (he pins s σ H _ I h) fun v s1 ⟨x,H1,I1,r1,q1⟩ =>?_);obtain⟨a,xs,rfl,hx,q⟩:=q1;cases r1;refine wpAny_Slice ?_;rw[evalPart_none];refine wpAny_pure ?_;refine wpAny_pure ?_;rw[evalPart_some];refine UnaryOp_ (wpAny_Constant_int ?_);refine PyProof.Rows.neg_int ?_;obtain⟨its,r,ht,hz⟩:=I1.list hx;have hlen:=r.length
 have I4:Inv X pins σ H1 {s1 with heap:=s1.heap.push {cls:=.type "slice",data:=.fields #[.none,.none,.int (-1) (s1.toks+1)]},toks:=s1.toks+1+1}:=I1.kept (t':=s1.toks+1+1) fun b ob q=>Heap.get?_push_of_some _ q
 obtain⟨its4,r4,ht4,hz4⟩:=I4.list hx;have hlen4:=r4.length
 refine tail_any (ops:=[.ref a,.ref s1.heap.objs.size]) ht4.isList.typeIs slot_list_getitem.lookup ?_ (by with_unfolding_all rfl);refine wpAny_getItem_list_slice ht4.isList (Heap.IsSliceOf.new s1.heap .none .none (.int (-1) (s1.toks+1))) .none .none (.int (-1) _) (by simp) ?_ (by rw[List.size_toArray] <;> omega);rw[PySem.W.krv_pick];refine⟨.ref _,_,I4.laid (t':=s1.toks+1+1) (o:=.lst xs.reverse) (fun b ob q=>Heap.get?_push_of_some _ q) (Nat.le_refl _) ?_,rfl,q _ (I4.hok.fresh (Nat.le_refl _))⟩;exact⟨by rw[List.length_reverse];exact hz,its4.reverse,0,r4.reverse,Heap.get?_push_size (s1.heap.push {cls:=.type "slice",data:=.fields #[.none,.none,.int (-1) (s1.toks+1)]}) (o:={cls:=.type "list",data:=.seq its4.reverse.toArray}) rfl⟩
end
structure Cal (P:Program)(w:World)(K:W.Frag)(mg:Str->Option Value)(base:Heap)(k:Nat)(x:Str)(ps:List Str)(sp:Sp):Prop where
 ex:∃(f:Addr) (fd:FuncData),FnOk P w K mg base CX0 k f fd ps sp/\Binds K fd ps []/\W.keepIn K (.ref f)=true/\mg x=some (.ref f)
section
variable {X:Cx}{k:Nat}{x:Str}{ps:List Str}{sp:Sp}{t:TA}{p pos:Pos}{e:Expr}{es:List Expr}
theorem pc {k':Nat}(C:Cal X.prog X.w X.K X.mg X.base k x ps sp)(hr:Room k' X.A)(ha:PA X (e::es) t)(hk:k<=k':=by decide)(hg:Gl X x:=by rfl)(hdb:(x == ("__debug__" : Str))=false:=by decide)
 (he:starEach (e::es) X.env=(false,eval e X.env)::starEach es X.env:=by rfl) (hpl:(backTo pos (starEach es X.env)).any (·.1)=false:=by rfl):PE X (.Call (.Name x p) (e::es) [] pos) (zim sp [] E0 t):=by
 obtain⟨f,fd,a,b,c,d⟩:=C.ex;exact zlM (a.mono hk) hr hg d c b .nil znV ha hdb he hpl
end
def zbO:List Str:=["len","range","min","max","int","str","bool","list","tuple","isinstance","any","all","enumerate","abs","sorted","dict","ord","chr","reversed"]
def Blt (mg:Str->Option Value):Prop:=∀x∈zbO,mg x=none
theorem Blt.get {mg:Str->Option Value}(B:Blt mg)(x:Str)(h:x∈zbO:=by decide +kernel):mg x=none:=B x h
theorem zaz {P:Program}{w:World}{K:W.Frag}{mg:Str->Option Value}{base:Heap}{k:Nat}{x:Str}{ps:List Str}{sp:Sp}{f:Addr}{fd:FuncData}(h:FnOk P w K mg base CX0 k f fd ps sp)(b:Binds K fd ps [])(c:W.keepIn K (.ref f)=true)(d:mg x=some (.ref f)) :
 Cal P w K mg base k x ps sp:=⟨f,fd,h,b,c,d⟩
section
variable {X:Cx}{r:List V->Hp->VK->Prop}{t:TA}{p pos:Pos}{e:Expr}{es:List Expr}{id T:String}{x:Str}
theorem pb (hc:zb7 X (.builtin id) r)(B:Blt X.mg)(hv:bootBuiltins x=some (.builtin id))(ha:PA X (e::es) t)(hB:x∈zbO:=by decide +kernel)(hg:Gl X x:=by rfl)(hn:x≠"__name__":=by decide)(hdb:(x == ("__debug__" : Str))=false:=by decide)
 (he:starEach (e::es) X.env=(false,eval e X.env)::starEach es X.env:=by rfl) (hpl:(backTo pos (starEach es X.env)).any (·.1)=false:=by rfl):PE X (.Call (.Name x p) (e::es) [] pos) (tCB r t):=
 zj1 hc hg (B x hB) hv ha hn hdb he hpl
theorem pty (hc:zb7 X (.type T) r)(B:Blt X.mg)(hv:bootBuiltins x=some (.type T))(ha:PA X (e::es) t)(hB:x∈zbO:=by decide +kernel)(hg:Gl X x:=by rfl)(hn:x≠"__name__":=by decide)(hdb:(x == ("__debug__" : Str))=false:=by decide)
 (he:starEach (e::es) X.env=(false,eval e X.env)::starEach es X.env:=by rfl) (hpl:(backTo pos (starEach es X.env)).any (·.1)=false:=by rfl):PE X (.Call (.Name x p) (e::es) [] pos) (tCB r t):=
 zio hc hg (B x hB) hv ha hn hdb he hpl
theorem ptn {v:V}{u:Value}(B:Blt X.mg)(hv:bootBuiltins x=some u)(rl:RelV v u)(hB:x∈zbO:=by decide +kernel)(hg:Gl X x:=by rfl)(hn:x≠"__name__":=by decide)(hdb:(x == ("__debug__" : Str))=false:=by decide):PE X (.Name x pos) (tC v):=
 zlC hg (B x hB) hv rl hn hdb
theorem papp {o:Expr}{to:TE}{apos cpos:Pos}(ho:PE X o to)(ha:PA X [e] t)
 (hbase:attributeBase o "append" X.env (eval o X.env)=eval o X.env:=by rfl)
 (hfew:((backTo cpos (starEach [e] X.env)).all (fun x=>!x.1)&&(backToKw cpos (keywordEach [] X.env)).all (fun x=>x.1.isSome)
  && decide ([e].length+([]:List Keyword).length+(if([]:List Keyword).isEmpty then 0 else 1)<30))=true:=by rfl)
 (hline:(apos.endLine == cpos.line)=true:=by rfl) (hs:starEach [e] X.env = [(false,eval e X.env)]:=by rfl) :
 PE X (.Call (.Attribute o "append" apos) [e] [] cpos) (tBM X.K "list" zfk to t):=
 zlR PySem.F.plainAttrs_list PySem.F.slot_list_append PySem.F.type_list_append zeg ho ha hbase hfew hline hs rfl
end
def zn3 (K:W.Frag):List V->Hp->VK->Prop:=fun xs H Q=>∃x n t k,xs = [x,.ty n]/\TyOf K H x t/\PySem.W.kitOne K t (.type n)=some k/\Q (.bl k) H
theorem zl6 {X:Cx}:zb7 X (.builtin "isinstance") (zn3 X.K):=zgs
end L2
namespace Rv
open PySem PySem.Spec PyProof PyProof.Rows
open Sem (wp)
theorem zc7:Slot "reversed" "__init__" "object.__init__":=
 .of (owner:="object") (n:="__init__") (by rw[typeLookup_type,builtinLookup_eq_fast];kernel_rfl) (by decide +kernel) (by decide +kernel) (by decide +kernel)
  (by first | exact .inl (by decide +kernel) | exact .inr (by decide +kernel)) (by rw[isSubtype_type];kernel_rfl)
theorem zdQ:mroOf (.type "reversed")=pure [.type "reversed",.type "object"]:=by rw[mroOf_type];kernel_rfl
theorem zcQ:typeLookup (.type "reversed") "__new__"=pure (some (.builtin "reversed.__new__")):=by rw[typeLookup_type,builtinLookup_eq_fast];kernel_rfl
theorem called_reversed:TypeCalled "reversed" "reversed.__new__" "object.__init__":=
 ⟨by decide +kernel,by decide +kernel,⟨_,_,zdQ⟩,madeBy_type zdQ zcQ (by decide +kernel),by decide +kernel,by rw[isSubtype_type];kernel_rfl,zc7⟩
theorem typeCall_reversed_1 (a:Value):checkTypeCall "reversed" ⟨[a],[]⟩=pure ():=by kernel_rfl
theorem newCall_reversed_1 (a:Value):checkBuiltinCall "reversed.__new__" ⟨[.type "reversed",a],[]⟩=pure ():=by kernel_rfl
theorem entry_reversed_new:entryFor table "reversed.__new__"=some Builtin.«reversed.__new__»:=entryFor_of_tree (by kernel_rfl)
theorem sub_ri:isSubtype (.type "range_iterator") (.type "reversed")=pure false:=by rw[isSubtype_type];kernel_rfl
section
variable {prog:Program}{w:World}{A:Around}{E:Value->Shared->Prop}{s:Shared}
theorem callType_else {T T' newId initId:String}{Bn:Builtin}{args:List Value}{S:PySem.Spec}{Q Q₁:Value->Shared->Prop}(ft:TypeCalled T newId initId)
 (hct:checkTypeCall T ⟨args,[]⟩=pure ()) (hcn:checkBuiltinCall newId ⟨.type T::args,[]⟩=pure ())
 (entryN:entryFor table newId=some Bn) (g:Meets (Bn ⟨.type T::args,[]⟩) S) (hsub':isSubtype (.type T') (.type T)=pure false)
 (h:S A.in1 (wants Q₁ E) s) (hnext:∀obj s₁,Q₁ obj s₁->s₁.TypeIs obj T'/\Q obj s₁) :
 wpAny (model prog w) A (call (.type T) args) Q E s:=by
 obtain⟨c,tl,hmro⟩:=ft.mro;have hmade:=ft.made
 have hsub:=ft.sub
 refine wpAny_call (codeAny_of_tree ?_);show wpAny _ _ (callAny (.type T) _) _ _ _
 refine wpAny_pure ⟨Code.quiet_builtin _ (by decide +kernel),codeAny_builtin F.entry_type_call ?_⟩;rw[Around.under_plain (weight_type_call_type T args []) (units_type_call_type T args [])];have h1:=ft.notType
 have h2:=ft.canCreate
 repeat (any_goals (first | assumption | wp_step))
 refine codeAny_mono (codeAny_call_builtin ft.plain entryN (wpAny_of_eq hcn (g prog w A.in1 _ s h))) fun r s₁ hr=>?_
 cases r with
 | error e=>exact hr
 | ok fl=>
   cases fl with
   | ret obj=>
     obtain⟨hT,hq⟩:=hnext _ _ hr;repeat (any_goals (first | assumption | wp_step))
   | _=>exact hr.elim
end
theorem zj9 (r:Addr)(lo hi:Int)(t u v:Tok)(hs:(Builtin.Range.rangeFitsLong lo&&Builtin.Range.rangeFitsLong hi&&Builtin.Range.rangeFitsLong 1&&Builtin.Range.rangeFitsLong (-1)&&Builtin.Range.rangeFitsLong (lo - 1)&&Builtin.Range.rangeFitsLong (Builtin.Range.rangeSize lo hi 1))=true) :
 Meets (Builtin.«range.__reversed__» ⟨[.ref r],[]⟩) (fun _ R s=>s.heap.get? r=some {cls:=.type "range",data:=.fields #[.int lo t,.int hi u,.int 1 v]}/\
  R (.ok (.ret (.ref s.heap.objs.size))) {s with heap:=s.heap.push {cls:=.type "range_iterator",data:=.fields #[rawInt (lo+(Builtin.Range.rangeSize lo hi 1 - 1)*1),rawInt (Builtin.Range.rangeSize lo hi 1),rawInt (-1)]}}):=
 .of_wp fun prog w A R s h=>by
  obtain⟨hp,g,d,tk,os⟩:=s;obtain⟨hl,h⟩:=h;wp_walk using wpAny_loadPart' hl
  rw[hs,if_pos rfl];exact⟨_,rfl,h⟩
theorem meets_new_range (r:Addr)(lo hi:Int)(t u v:Tok)(hs:(Builtin.Range.rangeFitsLong lo&&Builtin.Range.rangeFitsLong hi&&Builtin.Range.rangeFitsLong 1&&Builtin.Range.rangeFitsLong (-1)&&Builtin.Range.rangeFitsLong (lo - 1)&&Builtin.Range.rangeFitsLong (Builtin.Range.rangeSize lo hi 1))=true) :
 Meets (Builtin.«reversed.__new__» ⟨[.type "reversed",.ref r],[]⟩) (fun _ R s=>s.heap.get? r=some {cls:=.type "range",data:=.fields #[.int lo t,.int hi u,.int 1 v]}/\
  R (.ok (.ret (.ref s.heap.objs.size))) {s with heap:=s.heap.push {cls:=.type "range_iterator",data:=.fields #[rawInt (lo+(Builtin.Range.rangeSize lo hi 1 - 1)*1),rawInt (Builtin.Range.rangeSize lo hi 1),rawInt (-1)]}}):=
 .of_wp fun prog w A R s h=>by
  obtain⟨hp,g,d,tk,os⟩:=s;obtain⟨hl,h⟩:=h;have hsub:=called_reversed.sub
  have hT:Shared.TypeIs ⟨hp,g,d,tk,os⟩ (.ref r) "range":=⟨_,hl,rfl⟩
  wp_walk using wpAny_loadPart' hl
  rw[F.slot_range_reversed.lookup];refine wpAny_pure ?_;show wpAny _ _ (bindSpecial (.builtin "range.__reversed__") (Value.ref r) >>= _) _ _ _
  rw[F.slot_range_reversed.bind];refine wpAny_bind (wpAny_pure ?_);refine wpAny_bind (wpAny_rule ?_);refine wpAny_bind (m:=call (.builtin "range.__reversed__") [Value.ref r]) (call_meets F.slot_range_reversed hT F.entry_range_reversed (F.args_range_reversed_1 _) (zj9 r lo hi t u v hs) ⟨hl,?_⟩);exact wpAny_pure ⟨_,rfl,h⟩
end Rv
namespace L2
open PySem PySem.Spec PyProof PyProof.Rows
def Itd (hi:Int)(n:Nat):It:=⟨fun i _=>i<n,fun i H x H'=>H'=H/\x=.int (hi - i),fun i _=>n<=i⟩
theorem ziI {P:Program}{w:World}{K:W.Frag}{tg:Expr}(it:Addr)(lo:Int)(n:Nat):Turn P w K tg (Itd lo n) [it] it (fun i h=>IsRangeIter h it (lo+(i:Nat)*(-1)) ((n:Int) - (i:Nat)) (-1)) where
 mem:=by simp
 obj:=fun i h st b hb=>by
  have e:b=it:=by simpa using hb
  subst e;exact⟨_,st,fun v z=>by
   have z':Data.fields _=Data.cell v:=z
   cases z'⟩
 keep:=fun i h h' st k=>k it (by simp) _ st
 item:=by
  intro X hP hw hK hc i pins s σ H E I hf st hg;subst hP hw hK;obtain⟨f0,f1,f2,f3,f4,f5⟩:=hf it (by simp);have W:=Walks.range (prog:=X.prog) (w:=X.w) (I.ok.hd hc) it lo (-1) n
  refine W.item i s _ _ hg st fun v h' tk hv st' kk=>?_
  obtain⟨t,rfl⟩:=hv;have I1:Inv X pins σ H {s with heap:=h',toks:=tk}:=I.turned (fun b o hb e=>kk b o (by simpa using hb) e) f0 f1 f3 f4 f5
  refine⟨_,rfl,zig (s:={s with heap:=h',toks:=tk}) (n:="range_iterator") st' rfl rfl (by decide) ⟨.int (lo - i),H,I1,⟨t,?_⟩,⟨rfl,rfl⟩,st',fun b hb=>(hf b hb).1⟩⟩;rw[Int.mul_neg,Int.mul_one] <;> rfl
 done:=by
  intro X hP hw hK hc i pins s σ H E I hf st hg;subst hP hw hK;obtain⟨f0,f1,f2,f3,f4,f5⟩:=hf it (by simp);exact wpAny_pyNext_range_end (I.ok.hd hc) st (by have:n<=i:=hg;omega) fun h' eb=>⟨rfl,I.turned (t':=s.toks) (fun b o hb e=>eb b o hb e) f0 f1 f3 f4 f5⟩
 self:=fun _ _ _ _ _ st h=>wpAny_pyIter_rangeiter st h
section
variable {X:Cx}{tg:Expr}
theorem zeK {prog:Program}{w:World}{A:Around}{E:Value->Shared->Prop}{s:Shared}{r:Addr}{lo hi:Int}{t u v:Tok}{Q:Value->Shared->Prop}(hr:s.heap.get? r=some {cls:=.type "range",data:=.fields #[.int lo t,.int hi u,.int 1 v]})
 (h1:-(2 ^ 62)<=lo) (h2:lo<2 ^ 62) (h3:-(2 ^ 62)<=hi) (h4:hi<2 ^ 62)
 (q:Q (.ref s.heap.objs.size) {s with heap:=s.heap.push {cls:=.type "range_iterator",data:=.fields #[rawInt (lo+(Builtin.Range.rangeSize lo hi 1 - 1)*1),rawInt (Builtin.Range.rangeSize lo hi 1),rawInt (-1)]}}) :
 wpAny (model prog w) A (call (.type "reversed") [.ref r]) Q E s:=by
 refine Rv.callType_else (T':="range_iterator") (Q₁:=fun v s1=>v=.ref s.heap.objs.size/\s1 = {s with heap:=s.heap.push {cls:=.type "range_iterator",data:=.fields #[rawInt (lo+(Builtin.Range.rangeSize lo hi 1 - 1)*1),rawInt (Builtin.Range.rangeSize lo hi 1),rawInt (-1)]}}) Rv.called_reversed (Rv.typeCall_reversed_1 _) (Rv.newCall_reversed_1 _) Rv.entry_reversed_new (Rv.meets_new_range r lo hi t u v ?_) Rv.sub_ri ⟨hr,rfl,rfl⟩ ?_
 ·have e2:Builtin.Range.rangeSize lo hi 1=(((hi - lo).toNat:Nat):Int):=by rw[rangeSize_one];split <;> omega
  rw[e2];have f:∀k:Int,-(2 ^ 63)<=k->k<2 ^ 63->Builtin.Range.rangeFitsLong k=true:=fun k a b=>by unfold Builtin.Range.rangeFitsLong;simp only[Bool.and_eq_true,decide_eq_true_eq];omega
  rw[f lo (by omega) (by omega),f hi (by omega) (by omega),f 1 (by decide) (by decide),f (-1) (by decide) (by decide),f (lo - 1) (by omega) (by omega),f _ (by omega) (by omega)];rfl
 ·rintro obj s1 ⟨rfl,rfl⟩;exact⟨⟨_,Heap.get?_push_size _ rfl,rfl⟩,q⟩
def zpl (ta:TA):TI:=fun σ H R=>ta σ H fun vs H1=>∃j:Int,vs = [.int j]/\0<=j/\j<2 ^ 62/\R (Itd (j - 1) j.toNat) H1
theorem zl7 {a:Expr}{ta:TA}{p p2 pos pos2:Pos}(hg:Gl X "range")(hm:X.mg "range"=none)(hg2:Gl X "reversed")(hm2:X.mg "reversed"=none)(ha:PA X [a] ta)(hs:starEach [a] X.env = [(false,eval a X.env)]:=by rfl)
 (hs2:starEach [.Call (.Name "range" p) [a] [] pos] X.env = [(false,eval (.Call (.Name "range" p) [a] [] pos) X.env)]:=by rfl):PI X tg (.Call (.Name "reversed" p2) [.Call (.Name "range" p) [a] [] pos] [] pos2) (zpl ta):=by
 intro pins s σ H R I h;refine wpAny_Call_Name_kw (zc4 I hg2 hm2 boot_reversed ?_ (by decide) (by decide));refine PyProof.Rows.callWith_type1 ?_ hs2 rfl;rw[hs2];refine Calls.spliced_cons ?_;refine Call_ (zc4 I hg hm boot_range (PyProof.Rows.callWith_type1 (thn (ha pos pins s σ H _ I h) fun us s1 ⟨vs,H1,I1,r1,q1⟩ =>?_) hs rfl));obtain⟨j,e,q1,q2,q⟩:=q1;subst e;cases r1 with
 | cons r rr=>
   cases rr;obtain⟨t,rfl⟩:=r;refine call_range_1 ?_;refine Calls.spliced_nil ?_;have I2:Inv X pins σ H1 {s1 with heap:=s1.heap.push {cls:=.type "range",data:=.fields #[.int 0 s1.toks,.int j t,.int 1 (s1.toks+1)]},toks:=s1.toks+1+1}:=I1.kept (t':=s1.toks+1+1) fun b o e=>Heap.get?_push_of_some _ e
   refine zeK (Heap.get?_push_size _ rfl) (by decide) (by decide) (by omega) q2 ?_;have e2:Builtin.Range.rangeSize 0 j 1=((j.toNat:Nat):Int):=by rw[rangeSize_one];split <;> omega
   rw[e2];generalize hg9:s1.heap.push {cls:=.type "range",data:=.fields #[.int 0 s1.toks,.int j t,.int 1 (s1.toks+1)]}=g9 at I2
   ·rw[show(0:Int)+((j.toNat:Nat) - 1)*1=(j - 1)+((0:Nat):Int)*(-1) by omega,show((j.toNat:Nat):Int)=((j.toNat:Nat):Int) - ((0:Nat):Int) by omega];refine wpAny_pyIter_rangeiter (it:=g9.objs.size) (Heap.get?_push_size _ rfl) ?_;refine⟨g9.objs.size,[g9.objs.size],_,_,H1,rfl,I2.kept (t':=s1.toks+1+1) fun b o e=>Heap.get?_push_of_some _ e,ziI _ (j - 1) j.toNat,?_,fun b hb=>?_,q⟩
    ·exact Heap.get?_push_size _ rfl
    ·have e:b=g9.objs.size:=by simpa using hb
     subst e;exact I2.fpOk (Nat.le_refl _) (I2.hok.fresh (Nat.le_refl _))
end
section
variable {X:Cx}
end
def clo (cells:List (Str×Addr)):List (Str×NameKind)->List (Str×Addr)->List (Str×Addr)
 | [],acc=>acc
 | (n,k)::r,acc=>clo cells r (if(k == NameKind.free)=true then(n,(cells.lookup n).getD 0)::acc else acc)
theorem ziJ {env:Env}:∀(names:List (Str×NameKind)) (acc:List (Str×Addr)),(∀y∈names,y.2=.free->∃c,env.cells.lookup y.1=some c)->
 (forIn names acc fun(x:Str×NameKind) (cs:List (Str×Addr))=>match x with | (name,kind)=>if(kind == NameKind.free)=true then(do let c <-cellOf env name;pure (ForInStep.yield ((name,c)::cs))) else(pure (ForInStep.yield cs):Sem _))=pure (clo env.cells names acc)
 | [],acc,_=>rfl
 | (n,k)::r,acc,h=>by
   rw[List.forIn_cons];have ih:=ziJ (env:=env) r
   by_cases hk:(k == NameKind.free)=true
   ·obtain⟨c,hc⟩:=h (n,k) (List.mem_cons_self ..) (by cases k <;> first | rfl | cases hk);have e1:cellOf env n=pure c:=by unfold cellOf;rw[hc]
    show(if(k == NameKind.free)=true then _ else _) >>= _=_
    rw[if_pos hk,e1];show(forIn r ((n,c)::acc) _:Sem _)=pure (clo env.cells r (if(k == NameKind.free)=true then _ else _))
    rw[if_pos hk,hc];exact ih _ fun y hy=>h y (List.mem_cons_of_mem _ hy)
   ·show(if(k == NameKind.free)=true then _ else _) >>= _=_
    rw[if_neg hk];show(forIn r acc _:Sem _)=pure (clo env.cells r (if(k == NameKind.free)=true then _ else _))
    rw[if_neg hk];exact ih _ fun y hy=>h y (List.mem_cons_of_mem _ hy)
theorem zk7 {env:Env}{scope:Scope}(h:∀y∈scope.names,y.2=.free->∃c,env.cells.lookup y.1=some c):closureFor scope env=pure (clo env.cells scope.names []):=by
 have e:=ziJ (env:=env) scope.names [] h
 unfold closureFor;show(forIn scope.names ([]:List (Str×Addr)) _ >>= fun cs=>pure cs)=_
 have e2:(forIn scope.names ([]:List (Str×Addr)) (fun(x:Str×NameKind) (cs:List (Str×Addr))=>match x with | (name,kind)=>if(kind == NameKind.free)=true then(do let c <-cellOf env name;pure (ForInStep.yield ((name,c)::cs))) else(pure (ForInStep.yield cs):Sem _)) >>= fun cs=>pure cs)=pure (clo env.cells scope.names []):=by
  rw[e];rfl
 exact e2
theorem zgu (cells:List (Str×Addr)):∀(names:List (Str×NameKind)) (acc:List (Str×Addr)),(∀x c,acc.lookup x=some c->cells.lookup x=some c)->(∀y∈names,y.2=.free->∃c,cells.lookup y.1=some c)->
 ∀x c,(clo cells names acc).lookup x=some c->cells.lookup x=some c
 | [],acc,h,_,x,c,e=>h x c e
 | (n,k)::r,acc,h,hf,x,c,e=>by
   refine zgu cells r _ (fun y d e'=>?_) (fun y hy=>hf y (List.mem_cons_of_mem _ hy)) x c e;by_cases hk:(k == NameKind.free)=true
   ·rw[if_pos hk,List.lookup_cons] at e';obtain⟨c',hc⟩:=hf (n,k) (List.mem_cons_self ..) (by cases k <;> first | rfl | cases hk);cases hy:y == n with
    | true=>
      rw[hy] at e';have:y=n:=by simpa using hy
      rw[this,hc];rw[hc] at e';exact e'
    | false=>rw[hy] at e';exact h y d e'
   ·rw[if_neg hk] at e';exact h y d e'
theorem zgv (cells:List (Str×Addr)):∀(names:List (Str×NameKind)) (acc:List (Str×Addr)) (x:Str),((∃c,acc.lookup x=some c)\/(x,NameKind.free)∈names)->∃c,(clo cells names acc).lookup x=some c
 | [],acc,x,h=>by
   rcases h with h | h
   ·exact h
   ·cases h
 | (n,k)::r,acc,x,h=>by
   refine zgv cells r _ x ?_;rcases h with⟨c,h⟩ | h
   ·left
    by_cases hk:(k == NameKind.free)=true
    ·rw[if_pos hk,List.lookup_cons];cases hy:x == n with
     | true=>exact⟨_,rfl⟩
     | false=>exact⟨c,h⟩
    ·rw[if_neg hk];exact⟨c,h⟩
   ·rcases List.mem_cons.mp h with h | h
    ·left
     cases h;rw[if_pos (by rfl),List.lookup_cons,beq_self_eq_true];exact⟨_,rfl⟩
    ·exact .inr h
theorem zdx {κ β:Type}[BEq κ][LawfulBEq κ]:∀{l:List (κ×β)}{x:κ}{k:β},l.lookup x=some k->(x,k)∈l
 | [],x,k,h=>by cases h
 | (n,k')::r,x,k,h=>by
   rw[List.lookup_cons] at h;cases hx:x == n with
   | true=>
     rw[hx] at h;cases h;have:x=n:=by simpa using hx
     rw[this];exact List.mem_cons_self ..
   | false=>rw[hx] at h;exact List.mem_cons_of_mem _ (zdx h)
theorem zbG {env:Env}:∀(l:List (Str×NameKind)),(∀y∈l,y.2≠.cell)->∀x k,(l.map fun(n,k)=>if(k == NameKind.free&&env.scope.kind == .function&&env.kindOf n == some .cell) then(n,NameKind.cell) else(n,k)).lookup x=some k->(k=.cell\/k=.free)->l.lookup x=some .free
 | [],_,x,k,e,_=>by cases e
 | (n,k0)::r,h,x,k,e,hk=>by
   rw[List.map_cons] at e;have h0:k0≠.cell:=h _ (List.mem_cons_self ..)
   rw[List.lookup_cons];cases hx:x == n with
   | true=>
     cases k0 with
     | free=>rfl
     | cell=>exact absurd rfl h0
     | _=>
       exfalso
       obtain rfl:x=n:=by simpa using hx
       rw[List.lookup_cons] at e;rcases hk with rfl | rfl <;> (revert e;simp)
   | false=>
     refine zbG (env:=env) r (fun y hy=>h y (List.mem_cons_of_mem _ hy)) x k ?_ hk;rw[List.lookup_cons] at e;have:(x == (if(k0 == NameKind.free&&env.scope.kind == .function&&env.kindOf n == some .cell)=true then(n,NameKind.cell) else(n,k0)).1)=false:=by split <;> exact hx
     rw[this] at e;exact e
theorem zbP {env:Env}(hf:env.scope.kind=.function):∀(l:List (Str×NameKind)) (x:Str),l.lookup x=some .free->env.kindOf x=some .cell->(l.map fun(n,k)=>if(k == NameKind.free&&env.scope.kind == .function&&env.kindOf n == some .cell) then(n,NameKind.cell) else(n,k)).lookup x=some .cell
 | [],x,e,_=>by cases e
 | (n,k0)::r,x,e,hk=>by
   rw[List.map_cons];rw[List.lookup_cons] at e⊢;cases hx:x == n with
   | true=>
     rw[hx] at e;cases e;have hn:x=n:=by simpa using hx
     have hk':(env.kindOf n == some NameKind.cell)=true:=by rw[<-hn,hk];rfl
     have hcond:(NameKind.free == NameKind.free&&env.scope.kind == .function&&env.kindOf n == some .cell)=true:=by
      rw[hf,hk'];rfl
     simp only[hcond,if_true,hx]
   | false=>
     rw[hx] at e;have:(x == (if(k0 == NameKind.free&&env.scope.kind == .function&&env.kindOf n == some .cell)=true then(n,NameKind.cell) else(n,k0)).1)=false:=by split <;> exact hx
     simp only[this];exact zbP hf r x e hk
def zeL (N:List Str)(sc:List (Str×NameKind))(names:List (Str×NameKind))(NC:List Str)(fr:List (Option Nat)):Bool:=
 (NC.zip fr).all fun p=>match p.2 with | none=>true | some j=>(N[j]? == some p.1)&&(sc.lookup p.1 == some .cell)&&(names.lookup p.1 == some .free)
theorem ziK (N:List Str)(st:Stmt){X:Cx}{elt iter tg:Expr}{ifs:List Expr}{scope:Scope}{pos:Pos}{NC:List Str}(fr:List (Option Nat)){wi:TI}{g:TG}{tt:TT}{te:TE}{RR:Hp->Prop}(hRR:∀pins σ H s,Inv X pins σ H s->RR H)(hcalm:X.calm=true)(hi:PI X tg iter wi)
 (hcells:∀x,X.env.scope.names.lookup x=some .cell->∃c,X.env.cells.lookup x=some c) (hfk:X.env.scope.kind=.function) (hN:X.N=N) (hsc:X.env.scope.names=(zad st).names)
 (hfree':∀y∈scope.names,y.2=.free->(zad st).names.lookup y.1=some .cell) (hcell:∀y∈scope.names,y.2≠.cell) (hkind:scope.kind=.function) (hnames:∀y∈scope.names,y.2=.local->scope.names.lookup y.1=some .local)
 (hfr':zeL N (zad st).names scope.names NC fr=true) (hlen:fr.length=NC.length)
 (hg:∀cl C s0 H0 ex pn,PG (cxC X scope cl NC C s0 H0 ex pn) tg g) (ht:∀cl C s0 H0 ex pn,PTs (cxC X scope cl NC C s0 H0 ex pn) ifs tt) (he:∀cl C s0 H0 ex pn,RR H0->PE (cxC X scope cl NC C s0 H0 ex pn) elt te)
 (hs:∀x,foldedSetIterable iter X.env x=pure x:=by intro _;rfl):PE X (.ListComp elt [⟨tg,iter,ifs,0⟩] scope pos) (zgt fr wi g tt te):=by
 have hfree:∀y∈scope.names,y.2=.free->X.env.scope.names.lookup y.1=some .cell:=by rw[hsc];exact hfree'
 have hfr:zeL X.N X.env.scope.names scope.names NC fr=true:=by rw[hsc,hN];exact hfr'
 have hc:∀y∈scope.names,y.2=.free->∃c,X.env.cells.lookup y.1=some c:=fun y hy h=>hcells _ (hfree y hy h)
 refine zj5 (cl:=clo X.env.cells scope.names []) hRR hcalm hi (zk7 hc) hcell hkind hnames (fun x c e=>zgu _ _ _ (fun _ _ z=>by cases z) hc x c e) (fun x hx=>?_) (fun i x j h1 h2=>?_) hlen (hg _) (ht _) (he _) hs
 ·refine zgv _ _ _ x (.inr (zdx ?_));rcases hx with e | e
  ·exact zbG scope.names hcell x _ e (.inl rfl)
  ·exact zbG scope.names hcell x _ e (.inr rfl)
 ·have hm:(x,some j)∈NC.zip fr:=by
   have hi1:=(List.getElem?_eq_some_iff.mp h1).1
   have:(NC.zip fr)[i]?=some (x,some j):=by rw[List.getElem?_zip_eq_some];exact⟨h1,h2⟩
   exact List.mem_of_getElem? this
  have q:=List.all_eq_true.mp hfr _ hm
  have q':((X.N[j]? == some x)&&(X.env.scope.names.lookup x == some .cell)&&(scope.names.lookup x == some .free))=true:=q
  simp only[Bool.and_eq_true,beq_iff_eq] at q';obtain⟨⟨q1,q2⟩,q3⟩:=q';refine⟨q1,.inr (.inl q2),?_,.inl (zbP hfk scope.names x q3 q2)⟩;intro z;have z':X.env.scope.names.lookup x=some .local:=z
  rw[q2] at z';cases z'
theorem pvC (i:Nat){X:Cx}{scope:Scope}{cl:List (Str×Addr)}{NC:List Str}{C:Addr}{s0:Shared}{H0:Hp}{ex:List Addr}{pn:List (Addr×Obj)}{x:Str}{pos:Pos}(hi:NC[i]?=some x)(hfk:X.env.scope.kind=.function)
 (h1:scope.names.lookup x=some .free) (h2:X.env.scope.names.lookup x=some .cell) (hd:(x == ("__debug__" : Str))=false:=by decide) (hcd:(x == ("__classdict__" : Str))=false:=by decide):PE (cxC X scope cl NC C s0 H0 ex pn) (.Name x pos) (tVar i):=
 zb0 (X:=cxC X scope cl NC C s0 H0 ex pn) hi (.inr (.inl (zbP hfk scope.names x h1 h2))) hd hcd
section
variable {X:Cx}{scope:Scope}{cl:List (Str×Addr)}{NC:List Str}{C:Addr}{s0:Shared}{H0:Hp}{ex:List Addr}{pn:List (Addr×Obj)}
end
theorem zka {X:Cx}{use:Option (Value->Sem Unit)}{R:Value->Shared->Prop}{pins:List (Addr×Obj)}{s:Shared}{σ:St}{H:Hp}{Q:VK}{cpos:Pos}{elt iter tg:Expr}{ifs:List Expr}{scope:Scope}{pos:Pos}{cl:List (Str×Addr)}{NC:List Str}{fr:List (Option Nat)}{wi:TI}{g:TG}{tt:TT}{te:TE}{RR:Hp->Prop}(hRR:∀pins σ H s,Inv X pins σ H s->RR H)(hcalm:X.calm=true)(hi:PI X tg iter wi)
 (hclos:closureFor scope X.env=pure cl) (hcell:∀y∈scope.names,y.2≠.cell) (hkind:scope.kind=.function) (hnames:∀y∈scope.names,y.2=.local->scope.names.lookup y.1=some .local)
 (hcl:∀x c,cl.lookup x=some c->X.env.cells.lookup x=some c)
 (hhas:∀x,((compEnvC scope cl 0 X.env).kindOf x=some .cell\/(compEnvC scope cl 0 X.env).kindOf x=some .free)->∃c,cl.lookup x=some c)
 (hfr:∀(i:Nat) (x:Str) (j:Nat),NC[i]?=some x->fr[i]?=some (some j)->X.N[j]?=some x/\Vis X.env.scope x/\X.env.kindOf x≠some .local/\((compEnvC scope cl 0 X.env).kindOf x=some .cell\/(compEnvC scope cl 0 X.env).kindOf x=some .free))
 (hlen:fr.length=NC.length)
 (hg:∀C s0 H0 ex pn,PG (cxC X scope cl NC C s0 H0 ex pn) tg g) (ht:∀C s0 H0 ex pn,PTs (cxC X scope cl NC C s0 H0 ex pn) ifs tt) (he:∀C s0 H0 ex pn,RR H0->PE (cxC X scope cl NC C s0 H0 ex pn) elt te)
 (hs:∀x,foldedSetIterable iter X.env x=pure x) (I:Inv X pins σ H s) (h:zgt fr wi g tt te σ H Q)
 (hfin:∀(C D:Addr) (H':Hp) (s':Shared) (m:Str->Option Value),Inv X pins σ H' s'->s'.heap.Ns C m->FpOk X pins H' C->Q (.ref D) H'->compPost (model X.prog X.w) X.A X.xe use R (.ref D) C (.ok .next) s') :
 wpAny (model X.prog X.w) X.A (comprehension (.ListComp elt [⟨tg,iter,ifs,0⟩] scope pos) scope X.env cpos (newList []) false (eval iter X.env) use) R X.xe s:=by
 refine wpAny_comprehension_free (use:=use) (g:=⟨tg,iter,ifs,0⟩) (gs:=[]) rfl hs hclos hkind hnames (thn (hi pins s σ H _ I h) fun v s1 h1=>thn h1 fun itv s2 h2=>?_);obtain⟨it,fp,tn,J,H1,e,I2,T,st2,f2,hW⟩:=h2;subst e;refine wpAny_newObj_type (wpAny_newFunctionEnv hcell (by intro y hy;simp at hy) (fun h4 hn4 hs4=>?_) hkind);have hD0:H1 s2.heap.objs.size=none:=I2.hok.fresh (Nat.le_refl _)
 obtain⟨W,⟨m0,w0⟩,turn⟩:=hW s2.heap.objs.size hD0;generalize hDe:s2.heap.objs.size=D at hD0 w0 turn;generalize h3e:s2.heap.push {cls:=.type "list",dict:=none,data:=.seq ([]:List Value).toArray}=h3 at hn4 hs4;have sz3:h3.objs.size=D+1:=by rw[<-h3e,Heap.size_push,hDe]
 have k3:∀b o,s2.heap.get? b=some o->h3.get? b=some o:=fun b o e=>by rw[<-h3e];exact Heap.get?_push_of_some _ e
 have ltD:∀{b:Addr}{o:Obj},s2.heap.get? b=some o->b<D:=fun e=>by rw[<-hDe];exact Heap.lt_size e
 have d3:h3.get? D=some {cls:=.type "list",data:=.seq ([]:List Value).toArray}:=by rw[<-h3e,<-hDe];exact Heap.get?_push_size _ rfl
 have I3:Inv X pins σ (upd H1 D (.lst [])) {s2 with heap:=h3}:=I2.laid (h':=h3) (t':=s2.toks) k3 (Nat.le_of_eq hDe) ⟨Nat.zero_le _,[],0,.nil,d3⟩
 have rH:=hRR _ _ _ _ I3
 generalize hCe:h3.objs.size=C at hn4 hs4;have k4:∀b o,h3.get? b=some o->h4.get? b=some o:=fun b o e=>hs4.extBut b o (fun z=>by rw[z,<-hCe] at e;exact absurd (Heap.lt_size e) (Nat.lt_irrefl _)) (Heap.get?_push_of_some _ e)
 have ltC:∀{b:Addr}{o:Obj},h3.get? b=some o->b<C:=fun e=>by rw[<-hCe];exact Heap.lt_size e
 have hne:∀(c:Env->Addr),True:=fun _=>trivial
 have okC:(cxC X scope cl NC C {s2 with heap:=h3} (upd H1 D (.lst [])) fp (X.pn++pins)).Ok:=by
  refine⟨I.ok.mod,?_,I.ok.glob,I.ok.blt,Nat.le_of_eq hCe,fun x y c h1 h2=>I.ok.inj x y c (hcl x c h1) (hcl y c h2),fun x hx=>hhas x hx,fun x c hf _=>(by cases hf),fun _=>I.ok.hd hcalm,I.ok.frames,.inl rfl,fun b hb=>⟨?_,fun x c e=>?_⟩,fun b o e=>I3.bs b o e,?_,fun b o e hb=>?_,fun b hb hf=>?_,?_,fun b hb=>I3.stkFree b hb⟩
  ·show(relabel scope X.env).kind=.function
   exact hkind
  ·obtain⟨o,eo,_⟩:=T.obj _ _ st2 b hb;exact Nat.ne_of_lt (ltC (k3 b o eo))
  ·exact(f2 b hb).2.2.2.2.1 x c (hcl x c e)
  ·exact Nat.le_trans I.ok.bsz I3.sz
  ·obtain⟨e1,_⟩:=I.ok.bs b o e;have f:=f2 b hb
   rcases f.2.2.2.1 with z | z
   ·exact I.ok.noex b o e z
   ·exact absurd (Nat.lt_of_lt_of_le (Heap.lt_size e1) z) (Nat.lt_irrefl _)
  ·rcases List.mem_cons.mp (I2.stkSub b hf) with z | z
   ·exact(f2 b hb).2.1 z
   ·exact(f2 b hb).2.2.1 z
  ·exact I3.stack
 have IC:Inv (cxC X scope cl NC C {s2 with heap:=h3} (upd H1 D (.lst [])) fp (X.pn++pins)) [] (pick σ fr) (upd H1 D (.lst [])) {s2 with heap:=h4,toks:=s2.toks+([]:List (Str×Value)).length}:=by
  refine⟨okC,rfl,I2.bare,Un.kept k4,⟨_,hn4,fun i x v hN hv hvis=>?_⟩,fun x c e=>?_,?_,fun x c e=>I3.freeC x c (hcl x c e),fun p hp=>?_,I3.hok.kept k4,?_⟩
  ·have hfi:∃j,fr[i]?=some (some j)/\σ[j]?=some (some v):=by
    unfold pick at hv;rw[List.getElem?_map] at hv;cases e1:fr[i]? with
    | none=>rw[e1] at hv;cases hv
    | some o=>
      rw[e1] at hv;cases o with
      | none=>cases hv
      | some j=>
        refine⟨j,rfl,?_⟩;have hv':(σ[j]?).join=some v:=Option.some.inj hv
        cases e2:σ[j]? with
        | none=>rw[e2] at hv';cases hv'
        | some w'=>rw[e2] at hv';exact congrArg some hv'
   obtain⟨j,hj,hσ⟩:=hfi;obtain⟨q1,q2,q3,q4⟩:=hfr i x j hN hj;obtain⟨m,hm,hl⟩:=I3.loc;obtain⟨u,ru,lk⟩:=hl j x v q1 hσ q2;refine⟨u,ru,?_⟩;rcases lk with⟨z,_⟩ | ⟨_,c,ec,ic⟩
   ·exact absurd z q3
   ·obtain⟨c',ec'⟩:=hhas x q4;have:c'=c:=by rw[hcl x c' ec'] at ec;exact Option.some.inj ec
    subst this;obtain⟨oc,h1,h2⟩:=ic;exact .inr ⟨q4,c',ec',oc,k4 _ _ h1,h2⟩
  ·obtain⟨v,oc,h1,h2⟩:=I3.cell x c (hcl x c e);exact⟨v,oc,k4 _ _ h1,h2⟩
  ·show upd H1 D (.lst []) C=none
   exact I3.hok.fresh (Nat.le_of_eq hCe)
  ·have hp':p∈X.pn++pins:=by simpa[cxC] using hp
   obtain⟨e1,e2,e3,e4,e5⟩:=I3.pin p hp';refine⟨k4 _ _ e1,e2,Nat.ne_of_lt (ltC e1),fun z=>?_,e5⟩;rcases List.mem_cons.mp (I2.stkSub p.1 z) with z' | z'
   ·exact e3 z'
   ·exact e4 z'
  ·unfold pick;rw[List.length_map];exact hlen
 have fC:∀b∈fp,FpOk (cxC X scope cl NC C {s2 with heap:=h3} (upd H1 D (.lst [])) fp (X.pn++pins)) [] H1 b:=fun b hb=>by
  obtain⟨q1,q2,q3,q4,q5,q6⟩:=f2 b hb;obtain⟨o,eo,_⟩:=T.obj _ _ st2 b hb;refine⟨q1,Nat.ne_of_lt (ltC (k3 b o eo)),fun z=>?_,.inl hb,fun x c e=>q5 x c (hcl x c e),fun p hp=>q6 p (by simpa[cxC] using hp)⟩;rcases List.mem_cons.mp (I2.stkSub b z) with z' | z'
  ·exact q2 z'
  ·exact q3 z'
 have stat:∀{H':Hp},(∀b∈fp,H' b=none)->∀b∈fp,FpOk (cxC X scope cl NC C {s2 with heap:=h3} (upd H1 D (.lst [])) fp (X.pn++pins)) [] H' b:=fun hn b hb=>⟨hn b hb,(fC b hb).2⟩
 have fD:∀b∈fp,b≠D:=fun b hb z=>by
  obtain⟨o,eo,_⟩:=T.obj _ _ st2 b hb;have:=ltD eo
  rw[z] at this;exact absurd this (Nat.lt_irrefl _)
 have st4:tn 0 h4:=T.keep _ _ _ st2 fun b hb o e=>k4 b o (k3 b o e)
 have fin:∀{σ':St}{H':Hp}{s':Shared},Inv (cxC X scope cl NC C {s2 with heap:=h3} (upd H1 D (.lst [])) fp (X.pn++pins)) [] σ' H' s'->Q (.ref D) H'->compPost (model X.prog X.w) X.A X.xe use R (.ref D) C (.ok .next) s':=fun {σ' H' s'} I' q'=>by
  obtain⟨m,hm,_⟩:=I'.loc;have hfp:FpOk X pins H' C:=⟨I'.free,(I3.fpOk (Nat.le_of_eq hCe) (I3.hok.fresh (Nat.le_of_eq hCe))).2⟩
  refine hfin C D H' s' m ?_ hm hfp q';have nC:∀{b:Addr}{o:Obj},s2.heap.get? b=some o->b≠C:=fun e=>Nat.ne_of_lt (ltC (k3 _ _ e))
  have nD:∀{b:Addr}{o:Obj},s2.heap.get? b=some o->b≠D:=fun e=>Nat.ne_of_lt (ltD e)
  refine I2.call' (s':=s') (ch:=fp) ?_ ⟨fun b o e n hf hx=>?_,fun b o e n hf hx=>?_,fun b o e n hx=>?_,fun b o e hx=>?_,fun b xs e=>?_,fun b o u e=>?_,fun b ps e=>?_⟩ (fun b u e=>?_) I'.bare fun b hb=>?_
  ·exact I'.os
  ·exact(I'.base.keep b o (k3 b o e) (by show upd H1 D _ b=none;rw[zah (nD e)];exact n) hf hx)
  ·obtain⟨sl,z⟩:=I'.base.slot b o (k3 b o e) (by show upd H1 D _ b=none;rw[zah (nD e)];exact n) hf hx;exact⟨sl,z⟩
  ·exact I'.base.free b o (k3 b o e) (by show upd H1 D _ b=none;rw[zah (nD e)];exact n) hx
  ·obtain⟨o',z⟩:=I'.base.there b o (k3 b o e) hx;exact⟨o',z⟩
  ·exact I'.base.tups b xs (by show upd H1 D _ b=_;rw[zah (zaH e hD0)];exact e)
  ·exact I'.base.frzs b o u (by show upd H1 D _ b=_;rw[zah (zaH e hD0)];exact e)
  ·exact I'.base.tbls b ps (by show upd H1 D _ b=_;rw[zah (zaH e hD0)];exact e)
  ·exact I'.hok b u e
  ·obtain⟨q1,q2,q3,q4,q5,q6⟩:=f2 b hb;exact⟨q4,q2,q5,q6⟩
 have loop:codeAny (model X.prog X.w) X.A (.compLoop (.ListComp elt [⟨tg,iter,ifs,0⟩] scope pos) 0 (.ref it) (.ref D) (compEnvC scope cl C X.env)) (compPost (model X.prog X.w) X.A X.xe use R (.ref D) C) {s2 with heap:=h4,toks:=s2.toks+([]:List (Str×Value)).length}:=by
  refine zfV (fun n s'=>∃i ys σ' H',Inv (cxC X scope cl NC C {s2 with heap:=h3} (upd H1 D (.lst [])) fp (X.pn++pins)) [] σ' H' s'/\tn i s'.heap/\(∀b∈fp,H' b=none)/\H' D=some (.lst ys)/\W i n ys σ' H') ?_ m0 ⟨0,[],_,_,IC,st4,fun b hb=>by rw[zah (fD b hb)];exact(f2 b hb).1,zai,w0⟩;rintro n s3 ⟨i,ys,σ3,H3,J3,st3,fr3,hD3,w3⟩;rcases turn i n ys σ3 H3 w3 hD3 with⟨stop,qn⟩ | ⟨go,N,hN,step⟩
  ·refine thn (T.done (cxC X scope cl NC C {s2 with heap:=h3} (upd H1 D (.lst [])) fp (X.pn++pins)) rfl rfl rfl rfl i [] s3 σ3 H3 _ J3 (stat fr3) st3 stop) fun r s4 ⟨hr,J4⟩ =>⟨fun _=>fin J4 qn,fun v z=>?_⟩
   rw[hr] at z;cases z
  ·refine thn (T.item (cxC X scope cl NC C {s2 with heap:=h3} (upd H1 D (.lst [])) fp (X.pn++pins)) rfl rfl rfl rfl i [] s3 σ3 H3 _ J3 (stat fr3) st3 go) fun r s4 ⟨u,hr,h4'⟩ =>⟨fun z=>?_,fun v z=>?_⟩
   ·rw[hr] at z;cases z
   rw[hr] at z;cases z;refine thn h4' fun _ s5 ⟨x,H5,J5,r5,y5,st5,fr5⟩ =>?_
   have J5':=J5.pinned (stat fr5) (T.obj _ _ st5)
   refine thn (hg C _ _ fp _ _ s5 σ3 H5 x _ _ J5' r5 (step x H5 y5)) fun _ s6 ⟨σ6,H6,J6,q6⟩ =>?_
   have back:∀{σ7:St}{H7:Hp}{s7:Shared},Inv (cxC X scope cl NC C {s2 with heap:=h3} (upd H1 D (.lst [])) fp (X.pn++pins)) ([]++zeV fp s5.heap) σ7 H7 s7->tn (i+1) s7.heap/\∀b∈fp,H7 b=none:=fun {σ7 H7 s7} J7=>
    ⟨T.keep _ _ _ st5 fun b hb o e=>(J7.pin (b,o) (List.mem_append_right _ (List.mem_append_right _ (zbD hb e)))).1,fun b hb=>by
     obtain⟨o,e,d⟩:=T.obj _ _ st5 b hb;exact(J7.pin (b,o) (List.mem_append_right _ (List.mem_append_right _ (zbD hb e)))).2.1⟩
   refine thn (ht C _ _ fp _ _ s6 σ6 H6 _ J6 q6) fun ok s7 ⟨H7,J7,q7⟩ =>⟨fun hok=>?_,fun hok=>?_⟩
   ·refine thn (he C _ _ fp _ rH _ s7 σ6 H7 _ J7 (q7.1 hok)) fun xv s8 ⟨v,H8,J8,r8,hD8,hz,n8⟩ =>?_
    obtain⟨m',hm,w8⟩:=hN _ _ _ n8;refine thn (zeg (X:=cxC X scope cl NC C {s2 with heap:=h3} (upd H1 D (.lst [])) fp (X.pn++pins)) _ s8 σ6 H8 (.ref D) [v] (.ref D) [xv] (fun _ H9=>H9=upd H8 D (.lst (ys++[v]))) J8 rfl (.cons r8 .nil) ⟨D,ys,v,rfl,rfl,hD8,hz,rfl⟩) fun _ s9 ⟨_,H9,J9,_,e9⟩ =>?_
    subst e9;obtain⟨b1,b2⟩:=back J9;exact⟨m',hm,i+1,_,_,_,J9.unpinned,b1,b2,zai,w8⟩
   ·obtain⟨hD7,n7⟩:=q7.2 hok;obtain⟨m',hm,w7⟩:=hN _ _ _ n7;obtain⟨b1,b2⟩:=back J7;exact⟨m',hm,i+1,_,_,_,J7.unpinned,b1,b2,hD7,w7⟩
 refine codeAny_compStart_list (rest:=[]) loop (T.self X.A 0 _ _ _ st4 loop)
theorem zg7 (N:List Str)(st:Stmt){X:Cx}{i:Nat}{x:Str}{elt iter tg:Expr}{ifs:List Expr}{scope:Scope}{pos pos' cp:Pos}{NC:List Str}(fr:List (Option Nat)){wi:TI}{g:TG}{tt:TT}{te:TE}(hND:X.N.Nodup)(hix:X.N[i]?=some x)(hx:Loc X.env.scope x)
 {RR:Hp->Prop}(hRR:∀pins σ H s,Inv X pins σ H s->RR H) (hcalm:X.calm=true) (hi:PI X tg iter wi)
 (hcells:∀x,X.env.scope.names.lookup x=some .cell->∃c,X.env.cells.lookup x=some c) (hfk:X.env.scope.kind=.function) (hN:X.N=N) (hsc:X.env.scope.names=(zad st).names)
 (hfree':∀y∈scope.names,y.2=.free->(zad st).names.lookup y.1=some .cell) (hcell:∀y∈scope.names,y.2≠.cell) (hkind:scope.kind=.function) (hnames:∀y∈scope.names,y.2=.local->scope.names.lookup y.1=some .local)
 (hfr':zeL N (zad st).names scope.names NC fr=true) (hlen:fr.length=NC.length)
 (hg:∀cl C s0 H0 ex pn,PG (cxC X scope cl NC C s0 H0 ex pn) tg g) (ht:∀cl C s0 H0 ex pn,PTs (cxC X scope cl NC C s0 H0 ex pn) ifs tt) (he:∀cl C s0 H0 ex pn,RR H0->PE (cxC X scope cl NC C s0 H0 ex pn) elt te)
 (hs:∀x,foldedSetIterable iter X.env x=pure x:=by intro _;rfl) (hsw:swapsWith (.ListComp elt [⟨tg,iter,ifs,0⟩] scope cp) (some (.Name x pos')) pos.line X.env=pure true:=by rfl)
 (hf:X.fn x=true\/X.env.scope.names.lookup x=some .local:=by first | exact .inl rfl | exact .inr rfl | assumption) :
 PS X (.Assign [.Name x pos'] (.ListComp elt [⟨tg,iter,ifs,0⟩] scope cp) pos) (tAsg (zgt fr wi g tt te) (zeH i)):=by
 intro pins s σ H D I h;rw[exec_Assign_Name_used _ _ _ _ hsw];refine wpAny_bind (wpAny_standAt ?_);rw[arm_evalThenUse_ListComp];have hfree:∀y∈scope.names,y.2=.free->X.env.scope.names.lookup y.1=some .cell:=by rw[hsc];exact hfree'
 have hfr:zeL X.N X.env.scope.names scope.names NC fr=true:=by rw[hsc,hN];exact hfr'
 have hc:∀y∈scope.names,y.2=.free->∃c,X.env.cells.lookup y.1=some c:=fun y hy h=>hcells _ (hfree y hy h)
 refine wpAny_bind (wpAny_bind (zka (cl:=clo X.env.cells scope.names []) (Q:=fun x H1=>zeH i x σ H1 D.nx) (R:=fun _ s'=>wpAny (model X.prog X.w) X.A (pure ()) (fun _ s₁=>wpAny (model X.prog X.w) X.A (pure Flow.next) (SP X pins D) X.xe s₁) X.xe s') hRR hcalm hi (zk7 hc) hcell hkind hnames (fun x c e=>zgu _ _ _ (fun _ _ z=>by cases z) hc x c e) (fun x hx=>?_) (fun i x j h1 h2=>?_) hlen (hg _) (ht _) (he _) hs I h ?_))
 ·refine zgv _ _ _ x (.inr (zdx ?_));rcases hx with e | e
  ·exact zbG scope.names hcell x _ e (.inl rfl)
  ·exact zbG scope.names hcell x _ e (.inr rfl)
 ·have hm:(x,some j)∈NC.zip fr:=by
   have:(NC.zip fr)[i]?=some (x,some j):=by rw[List.getElem?_zip_eq_some];exact⟨h1,h2⟩
   exact List.mem_of_getElem? this
  have q:=List.all_eq_true.mp hfr _ hm
  have q':((X.N[j]? == some x)&&(X.env.scope.names.lookup x == some .cell)&&(scope.names.lookup x == some .free))=true:=q
  simp only[Bool.and_eq_true,beq_iff_eq] at q';obtain⟨⟨q1,q2⟩,q3⟩:=q';refine⟨q1,.inr (.inl q2),?_,.inl (zbP hfk scope.names x q3 q2)⟩;intro z;have z':X.env.scope.names.lookup x=some .local:=z
  rw[q2] at z';cases z'
 ·intro C Da H' s' m I' hns hfp q;show wpAny _ _ (assign (.Name x pos') X.env (.ref Da)) _ _ _
  refine wpAny_assign_Name (zfG I' hND hix hx (show RelV (.ref Da) (.ref Da) from rfl) (fun s2 I2 hsb=>?_) hf);obtain⟨f0,f1,f2,f3,f4,f5⟩:=hfp;obtain⟨a,hsb,ha⟩:=hsb;have hCa:C≠a:=by
   rcases ha with rfl | ha
   ·exact f1
   ·exact fun z=>f4 x a ha z.symm
  obtain⟨o,es,ep,ho,r⟩:=hns;refine⟨m,⟨o,es,ep,hsb.extBut C o hCa ho,r⟩,fun h' hs'=>?_⟩;refine wpAny_pure (wpAny_pure ⟨_,H',?_,q⟩);exact I2.turned (t':=s2.toks) (fun b o hb e=>hs'.extBut b o hb e) f0 f1 f3 f4 f5
theorem zl8 (N:List Str)(st:Stmt){X:Cx}{i:Nat}{x:Str}{elt iter tg:Expr}{ifs:List Expr}{scope:Scope}{pos pos' cp:Pos}{NC:List Str}(fr:List (Option Nat)){wi:TI}{g:TG}{tt:TT}{te:TE}(hND:X.N.Nodup)(hix:X.N[i]?=some x)(hx:Loc X.env.scope x)
 (hcalm:X.calm=true) (hi:PI X tg iter wi)
 (hcells:∀x,X.env.scope.names.lookup x=some .cell->∃c,X.env.cells.lookup x=some c) (hfk:X.env.scope.kind=.function) (hN:X.N=N) (hsc:X.env.scope.names=(zad st).names)
 (hfree':∀y∈scope.names,y.2=.free->(zad st).names.lookup y.1=some .cell) (hcell:∀y∈scope.names,y.2≠.cell) (hkind:scope.kind=.function) (hnames:∀y∈scope.names,y.2=.local->scope.names.lookup y.1=some .local)
 (hfr':zeL N (zad st).names scope.names NC fr=true) (hlen:fr.length=NC.length)
 (hg:∀cl C s0 H0 ex pn,PG (cxC X scope cl NC C s0 H0 ex pn) tg g) (ht:∀cl C s0 H0 ex pn,PTs (cxC X scope cl NC C s0 H0 ex pn) ifs tt) (he:∀cl C s0 H0 ex pn,PE (cxC X scope cl NC C s0 H0 ex pn) elt te)
 (hs:∀x,foldedSetIterable iter X.env x=pure x:=by intro _;rfl) (hsw:swapsWith (.ListComp elt [⟨tg,iter,ifs,0⟩] scope cp) (some (.Name x pos')) pos.line X.env=pure true:=by rfl)
 (hf:X.fn x=true\/X.env.scope.names.lookup x=some .local:=by first | exact .inl rfl | exact .inr rfl | assumption) :
 PS X (.Assign [.Name x pos'] (.ListComp elt [⟨tg,iter,ifs,0⟩] scope cp) pos) (tAsg (zgt fr wi g tt te) (zeH i)):=
 zg7 (RR:=fun _=>True) N st fr hND hix hx (fun _ _ _ _ _=>trivial) hcalm hi hcells hfk hN hsc hfree' hcell hkind hnames hfr' hlen hg ht (fun cl C s0 H0 ex pn _=>he cl C s0 H0 ex pn) hs hsw hf
end L2
namespace Mn
open PySem PySem.Spec PyProof PyProof.Rows
open Sem (wp)
def zn4 (prog:Program)(w:World)(A:Around)(P:Nat->Value->Prop)(bt:Nat->Nat->Bool)(Kp:Heap->Prop):Prop:=
 ∀i j vi vj (s:Shared) (Q:Value->Shared->Prop) (E:Value->Shared->Prop),Kp s.heap->P i vi->P j vj->Q (.bool (bt i j)) s->wpAny (model prog w) A (richCompare .Lt vi vj) Q E s
section
variable {prog:Program}{w:World}{A:Around}{R:Result->Shared->Prop}{I:Addr}{fp wr:List Addr}{n:Nat}{P:Nat->Value->Prop}{St:Nat->Heap->Prop}
theorem loop (W:Walks prog w A.in1 I fp wr n P St)(bt:Nat->Nat->Bool){Kp:Heap->Prop}(hcmp:zn4 prog w A.in1 P bt Kp)(S:Addr)(hSf:S∉fp)(d:Value)
 (hkp:∀h h',(∀b o,b∉wr->b≠S->h.get? b=some o->h'.get? b=some o)->Kp h->Kp h') :
 ∀(k j:Nat) (s:Shared) (vb:Value) (c:Nat),n - (j+1)=k->j+1<=n->Kp s.heap->St (j+1) s.heap->P (argBest bt j) vb->
 s.heap.get? S=some {cls:=.type "list",dict:=none,data:=.seq #[vb,vb] c,slots:=#[]}->
 (∀v h' tk,P (argBest bt (n - 1)) v->(∀b o,b∉wr->b≠S->s.heap.get? b=some o->h'.get? b=some o)->R (.ok (.ret v)) {s with heap:=h',toks:=tk})->
 codeAny (model prog w) A (.builtin "min.loop" ⟨[.ref I,.none,.ref S],[("default",d)]⟩) R s:=by
 have hSw:S∉wr:=fun h=>hSf (W.sub _ h)
 have hname:(toString "min"++toString ".loop" : String) = "min.loop":=by decide
 intro k;induction k with
 | zero=>
   intro j s vb c hk hj hK hst hPb hS hR;have hin:j+1=n:=by omega
   refine codeAny_builtin F.entry_min_loop ?_;rw[Around.under_plainId F.plain_min_loop _];show wpAny _ A.in1 (seqItems? (.ref S) >>= _) _ _ s
   refine wpAny_bind (wpAny_seqItems hS rfl ?_);show wpAny _ A.in1 (tryCatch (pyNext (.ref I)) _ >>= _) _ _ s
   refine wpAny_bind (wpAny_tryCatch (W.done s _ _ (hin▸hst) fun h' tk hk'=>?_));have hS':=hk' S _ hSw hS
   show wpAny _ A.in1 (updateSeq S (fun _=>#[]) >>= _) _ _ _
   refine wpAny_bind ?_;refine wpAny_updateSeq hS' rfl (wpAny_bind (wpAny_letGo (wpAny_pure ?_)));refine hR vb _ tk (by rw[<-hin];exact hPb) fun b o hbw hbS e=>(Heap.get?_update_other _ _ (Ne.symm hbS)).trans (hk' b o hbw e)
 | succ k ih=>
   intro j s vb c hk hj hK hst hPb hS hR;have hlt:j+1<n:=by omega
   refine codeAny_builtin F.entry_min_loop ?_;rw[Around.under_plainId F.plain_min_loop _];show wpAny _ A.in1 (seqItems? (.ref S) >>= _) _ _ s
   refine wpAny_bind (wpAny_seqItems hS rfl ?_);show wpAny _ A.in1 (tryCatch (pyNext (.ref I)) _ >>= _) _ _ s
   refine wpAny_bind (wpAny_tryCatch (W.item (j+1) s _ _ hlt hst fun v h' tk hP hst' hk'=>?_));have hS':=hk' S _ hSw hS
   have hK':Kp h':=hkp _ _ (fun b o h1 _ e=>hk' b o h1 e) hK
   show wpAny _ A.in1 (tryCatch (holding [v,v] (richCompare .Lt v vb >>= _)) _ >>= _) _ _ _
   refine wpAny_bind (wpAny_tryCatch (wpAny_holding (wpAny_bind (hcmp (j+1) (argBest bt j) v vb _ _ _ hK' hP hPb ?_))));refine wpAny_bind (wpAny_holding (wpAny_truthy_bool ?_));refine wpAny_bind (wpAny_letGo (wpAny_pure ?_));cases hb:bt (j+1) (argBest bt j) with
   | true=>
     simp only[if_true];refine wpAny_bind ?_;refine wpAny_updateSeq hS' rfl (wpAny_bind (wpAny_letGo ?_));rw[hname];refine wpAny_pure ⟨plainId_quiet F.plain_min_loop _,ih (j+1) _ v _ (by omega) hlt (hkp _ _ (fun b o _ hbS e=>(Heap.get?_update_other _ _ (Ne.symm hbS)).trans e) hK') (W.frame _ _ _ hst' fun b hbf o e=>?_) (by simp only[argBest,hb,if_true];exact hP) (Heap.get?_update_self _ hS' rfl)
      fun v' h'' tk'' hP' hk''=>?_⟩
     ·exact(Heap.get?_update_other _ _ (fun h:S=b=>hSf (by rw[h];exact hbf))).trans e
     ·exact hR v' h'' tk'' hP' fun b o hbw hbS e=>hk'' b o hbw hbS ((Heap.get?_update_other _ _ (Ne.symm hbS)).trans (hk' b o hbw e))
   | false=>
     simp only[Bool.false_eq_true,if_false];refine wpAny_bind (wpAny_letGo ?_);rw[hname];refine wpAny_pure ⟨plainId_quiet F.plain_min_loop _,ih (j+1) _ vb c (by omega) hlt hK' hst' (by simp only[argBest,hb,Bool.false_eq_true,if_false];exact hPb) hS' fun v' h'' tk'' hP' hk''=>?_⟩;exact hR v' h'' tk'' hP' fun b o hbw hbS e=>hk'' b o hbw hbS (hk' b o hbw e)
theorem first (W:Walks prog w A.in1 I fp wr n P St)(bt:Nat->Nat->Bool){Kp:Heap->Prop}(hcmp:zn4 prog w A.in1 P bt Kp)(S:Addr)(hSf:S∉fp)(d:Value)
 (hkp:∀h h',(∀b o,b∉wr->b≠S->h.get? b=some o->h'.get? b=some o)->Kp h->Kp h') {s:Shared}{c:Nat}(hK:Kp s.heap) (hst:St 0 s.heap)
 (hS:s.heap.get? S=some {cls:=.type "list",dict:=none,data:=.seq #[] c,slots:=#[]})
 (hR0:n=0->∀h' tk,(∀b o,b∉wr->b≠S->s.heap.get? b=some o->h'.get? b=some o)->R (.ok (.ret d)) {s with heap:=h',toks:=tk})
 (hR:0<n->∀v h' tk,P (argBest bt (n - 1)) v->(∀b o,b∉wr->b≠S->s.heap.get? b=some o->h'.get? b=some o)->R (.ok (.ret v)) {s with heap:=h',toks:=tk}) :
 codeAny (model prog w) A (.builtin "min.loop" ⟨[.ref I,.none,.ref S],[("default",d)]⟩) R s:=by
 have hSw:S∉wr:=fun h=>hSf (W.sub _ h)
 have hname:(toString "min"++toString ".loop" : String) = "min.loop":=by decide
 refine codeAny_builtin F.entry_min_loop ?_;rw[Around.under_plainId F.plain_min_loop _];show wpAny _ A.in1 (seqItems? (.ref S) >>= _) _ _ s
 refine wpAny_bind (wpAny_seqItems hS rfl ?_);show wpAny _ A.in1 (tryCatch (pyNext (.ref I)) _ >>= _) _ _ s
 by_cases hn:n=0
 ·refine wpAny_bind (wpAny_tryCatch (W.done s _ _ (by rw[hn];exact hst) fun h' tk hk'=>?_));refine wpAny_bind (wpAny_rule (wpAny_pure ?_));exact hR0 hn h' tk fun b o hbw _ e=>hk' b o hbw e
 ·refine wpAny_bind (wpAny_tryCatch (W.item 0 s _ _ (by omega) hst fun v h' tk hP hst' hk'=>?_));have hS':=hk' S _ hSw hS
  have hK':Kp h':=hkp _ _ (fun b o h1 _ e=>hk' b o h1 e) hK
  show wpAny _ A.in1 (updateSeq S (fun _=>#[v,v]) >>= _) _ _ _
  refine wpAny_bind ?_;refine wpAny_updateSeq hS' rfl ?_;rw[hname];refine wpAny_pure ⟨plainId_quiet F.plain_min_loop _,loop W bt hcmp S hSf d hkp _ 0 _ v _ rfl (by omega) (hkp _ _ (fun b o _ hbS e=>(Heap.get?_update_other _ _ (Ne.symm hbS)).trans e) hK') (W.frame _ _ _ hst' fun b hbf o e=>?_) hP (Heap.get?_update_self _ hS' rfl) fun v' h'' tk'' hP' hk''=>?_⟩
  ·exact(Heap.get?_update_other _ _ (fun h:S=b=>hSf (by rw[h];exact hbf))).trans e
  ·exact hR (by omega) v' h'' tk'' hP' fun b o hbw hbS e=>hk'' b o hbw hbS ((Heap.get?_update_other _ _ (Ne.symm hbS)).trans (hk' b o hbw e))
end
theorem zhQ (a d:Value):argsOk "min" ⟨[a],[("default",d)]⟩:=by unfold argsOk;kernel_rfl
section
variable {prog:Program}{w:World}{A:Around}{E:Value->Shared->Prop}{s:Shared}
theorem zfX {id:String}{b:Builtin}{args:List Value}{kw:List (Str×Value)}{Q:Value->Shared->Prop}(hk:builtinKind id=none)(hp:plainId id=true)
 (hb:entryFor table id=some b) (ha:argsOk id ⟨args,kw⟩)
 (hc:wpAny (model prog w) A.in1 (b ⟨args,kw⟩) (fun fin s'=>match fin with
  | .done f=>(match (Except.ok f:Result) with | .ok (.ret v)=>Q v s' | .ok _=>False | .error e=>E e s')
  | .again c'=>c'.quiet=true/\codeAny (model prog w) A c' (fun r s'=>match r with | .ok (.ret v)=>Q v s' | .ok _=>False | .error e=>E e s') s') E s) :
 wpAny (model prog w) A (call (.builtin id) args kw) Q E s:=by
 refine wpAny_call (codeAny_call_builtin hp hb ?_);simp only[checkBuiltinCall,hk];cases hsig:Manifest.signature? id with
 | none=>exact wpAny_pure hc
 | some sig=>
   have ha':Bind.checkArgs id sig ⟨args,kw⟩=pure ():=by simpa only[argsOk,hsig] using ha
   simp only[ha'];exact wpAny_pure hc
end
section
open PySem.SeqAt
open PySem.AutoSeq1 (wpAny_loadPart')
open PySem.MeetsSeq PySem.MeetsSeq2 PySem.MeetsSeq3
inductive CmpV (A:Around)(s:Shared):List Value->List Value->Bool->Prop
 | nil:CmpV A s [] [] false
 | same {x y:Value}{xs ys:List Value}{r:Bool}(he:SeqAt.EqAt A s x y true) (t:CmpV A s xs ys r):CmpV A s (x::xs) (y::ys) r
 | here {x y:Value}{xs ys:List Value}{r:Bool}(he:SeqAt.EqAt A s x y false) (hl:xs.length=ys.length) (h:∀prog w E Q,Q (.bool r) s->wpAny (model prog w) A (richCompare .Lt x y) Q E s):CmpV A s (x::xs) (y::ys) r
theorem CmpV.len {A:Around}{s:Shared}{xs ys:List Value}{r:Bool}(h:CmpV A s xs ys r):xs.length=ys.length:=by
 induction h with
 | nil=>rfl
 | same _ _ ih=>simp[ih]
 | here _ hl _=>simp[hl]
theorem lt_tuple (l b:Addr)(items items2:Array Value)(n n2:Nat)(dd dd2:Option Addr)(sl sl2:Array (Option Value))(r:Bool) :
 Meets (Builtin.«tuple.__lt__» ⟨[.ref l,.ref b],[]⟩)
  (fun A R s=>s.heap.get? l=some {cls:=.type "tuple",dict:=dd,data:=.seq items n,slots:=sl}/\s.heap.get? b=some {cls:=.type "tuple",dict:=dd2,data:=.seq items2 n2,slots:=sl2}/\
   CmpV A.in1 s items.toList items2.toList r/\R (.ok (.ret (.bool r))) s):=
 .of_wp fun prog w A R s h=>by
  obtain⟨hp,g,d,tk,os⟩:=s;obtain⟨hl,hb,hc,h⟩:=h;have f2:=AutoSeq1.sub_tuple_tuple
  have zz:items.size=items2.size:=by have:=hc.len;simpa using this
  wp_walk using wpAny_loadPart' hl,wpAny_loadPart' hb,wpAny_forIn_list _ (fun rest b s'=>b.1=none/\s'=⟨hp,g,d,tk,os⟩ /\∃(vs ws:List Value),rest=vs.zip ws/\CmpV A.in1 ⟨hp,g,d,tk,os⟩ vs ws r) _
  case turn=>
   rintro⟨y,x⟩ rest b s' ⟨hb',rfl,vs,ws,hz,hc'⟩;cases hc' with
   | nil=>rw[List.zip_nil_left] at hz;cases hz
   | same he t=>
     rw[List.zip_cons_cons] at hz;injection hz with hyx hrest
     injection hyx with hy hx
     subst hy hx;refine wpAny_bind (he prog w _ _ ?_);wp_walk
     exact⟨rfl,rfl,_,_,hrest,t⟩
   | here he hlen hri0=>
     rw[List.zip_cons_cons] at hz;injection hz with hyx hrest
     injection hyx with hy hx
     subst hy hx;refine wpAny_bind (he prog w _ _ ?_);have hri:=hri0 prog w
     wp_walk using hri
     exact⟨_,rfl,by simpa using h⟩
  case fin=>
   rintro⟨b1,b2⟩ s' ⟨hb',rfl,vs,ws,hz,hc'⟩;simp only at hb';subst hb';have hv:r=decide (items.size<items2.size):=by
    cases hc' with
    | nil=>rw[zz];exact(decide_eq_false (Nat.lt_irrefl _)).symm
    | same he t=>rw[List.zip_cons_cons] at hz;cases hz
    | here he _ _=>rw[List.zip_cons_cons] at hz;cases hz
   rw[hv] at h;wp_walk
   exact⟨_,rfl,by simpa[Builtin.Tuple.tupleCompareSizes] using h⟩
  case h=>
   exact⟨rfl,rfl,items.toList,items2.toList,rfl,hc⟩
end
end Mn
namespace L2
open PySem PySem.Spec PyProof PyProof.Rows
section
variable {X:Cx}
end
end L2
namespace VD
open PySem PySem.Spec PyProof PyProof.Rows L2
inductive D where
 | non | bl (b:Bool) | int (i:Int) | str (x:Str) | tup (ds:List D) | lst (ds:List D) | dct (ks:List Key) (ds:List D) | scr (p:Addr)
mutual
def D.beq:D->D->Bool
 | .non,.non=>true
 | .bl a,.bl b=>a == b
 | .int a,.int b=>a == b
 | .str a,.str b=>a == b
 | .tup a,.tup b=>D.beqL a b
 | .lst a,.lst b=>D.beqL a b
 | .dct ks a,.dct ls b=>decide (ks=ls)&&D.beqL a b
 | .scr a,.scr b=>a == b
 | _,_=>false
def D.beqL:List D->List D->Bool
 | [],[]=>true
 | a::as,b::bs=>D.beq a b&&D.beqL as bs
 | _,_=>false
end
mutual
theorem D.beq_iff:∀(a b:D),D.beq a b=true↔a=b
 | .non,b=>by cases b <;> simp[D.beq]
 | .bl _,b=>by cases b <;> simp[D.beq]
 | .int _,b=>by cases b <;> simp[D.beq]
 | .str _,b=>by cases b <;> simp[D.beq]
 | .tup xs,b=>by cases b <;> simp[D.beq,D.beqL_iff xs]
 | .lst xs,b=>by cases b <;> simp[D.beq,D.beqL_iff xs]
 | .dct ks xs,b=>by cases b <;> simp[D.beq,D.beqL_iff xs]
 | .scr _,b=>by cases b <;> simp[D.beq]
theorem D.beqL_iff:∀(a b:List D),D.beqL a b=true↔a=b
 | [],b=>by cases b <;> simp[D.beqL]
 | x::xs,b=>by
   cases b with
   | nil=>simp[D.beqL]
   | cons y ys=>simp[D.beqL,D.beq_iff x y,D.beqL_iff xs ys]
end
instance:DecidableEq D:=fun a b=>decidable_of_iff _ (D.beq_iff a b)
instance:Inhabited D:=⟨.non⟩
mutual
inductive Rp (K:W.Frag)(H:Hp)(J:Addr->Prop):V->D->Prop
 | non:Rp K H J .non .non
 | bl (b:Bool):Rp K H J (.bl b) (.bl b)
 | int (i:Int):Rp K H J (.int i) (.int i)
 | str (x:Str):Rp K H J (.str x) (.str x)
 | scr (p:Addr):Rp K H J (.ref p) (.scr p)
 | tup {p:Addr}{vs:List V}{ds:List D}(h:SqT K H p vs) (r:RpL K H J vs ds):Rp K H J (.ref p) (.tup ds)
 | lst {p:Addr}{vs:List V}{ds:List D}(h:H p=some (.lst vs)) (j:J p) (r:RpL K H J vs ds):Rp K H J (.ref p) (.lst ds)
 | dct {p:Addr}{kvs:List (Key×V)}{vs:List V}{ks:List Key}{ds:List D}(h:H p=some (.dK kvs)) (j:J p) (ek:kvs.map (·.1)=ks) (ev:kvs.map (·.2)=vs) (r:RpL K H J vs ds):Rp K H J (.ref p) (.dct ks ds)
inductive RpL (K:W.Frag)(H:Hp)(J:Addr->Prop):List V->List D->Prop
 | nil:RpL K H J [] []
 | cons {v:V}{d:D}{vs:List V}{ds:List D}(h:Rp K H J v d) (t:RpL K H J vs ds):RpL K H J (v::vs) (d::ds)
end
structure Keep (K:W.Frag)(H:Hp)(J:Addr->Prop)(H':Hp)(J':Addr->Prop):Prop where
 jj:∀a,J a->J' a
 jo:∀p o,J p->H p=some o->H' p=some o
 tp:∀p vs,SqT K H p vs->SqT K H' p vs
section
variable {K:W.Frag}{H H' H1 H2 Hz:Hp}{J J' J1 J2 Jz:Addr->Prop}
theorem Keep.refl:Keep K H J H J:=⟨fun _ h=>h,fun _ _ _ h=>h,fun _ _ h=>h⟩
theorem Keep.trans (a:Keep K H J H1 J1)(b:Keep K H1 J1 H2 J2):Keep K H J H2 J2:=⟨fun p h=>b.jj p (a.jj p h),fun p o j h=>b.jo p o (a.jj p j) (a.jo p o j h),fun p vs h=>b.tp p vs (a.tp p vs h)⟩
mutual
theorem Rp.keep {v:V}{d:D}(k:Keep K H J H' J'):Rp K H J v d->Rp K H' J' v d
 | .non=>.non
 | .bl b=>.bl b
 | .int i=>.int i
 | .str x=>.str x
 | .scr p=>.scr p
 | .tup h r=>.tup (k.tp _ _ h) (RpL.keep k r)
 | .lst h j r=>.lst (k.jo _ _ j h) (k.jj _ j) (RpL.keep k r)
 | .dct h j ek ev r=>.dct (k.jo _ _ j h) (k.jj _ j) ek ev (RpL.keep k r)
theorem RpL.keep {vs:List V}{ds:List D}(k:Keep K H J H' J'):RpL K H J vs ds->RpL K H' J' vs ds
 | .nil=>.nil
 | .cons h t=>.cons (Rp.keep k h) (RpL.keep k t)
end
theorem zg8 (h:Same H H')(p:Addr)(vs:List V):SqT K H p vs->SqT K H' p vs:=by
 rintro((h1 | ⟨o,h1⟩) | h1)
 ·exact .inl (.inl (h _ _ h1))
 ·exact .inl (.inr ⟨o,h _ _ h1⟩)
 ·exact .inr h1
structure Up (H:Hp)(J:Addr->Prop)(H':Hp)(J':Addr->Prop):Prop where
 same:Same H H'
 jj:∀a,J a->J' a
 jn:∀a,J' a->J a\/H a=none
 ja:∀a,J' a->H' a≠none
theorem Up.keep (u:Up H J H' J'):Keep K H J H' J':=⟨u.jj,fun p o _ h=>u.same p o h,zg8 u.same⟩
theorem Up.refl (ja:∀a,J a->H a≠none):Up H J H J:=⟨Same.refl H,fun _ h=>h,fun _ h=>.inl h,ja⟩
theorem Up.trans (a:Up H J H1 J1)(b:Up H1 J1 H2 J2):Up H J H2 J2:=⟨a.same.trans b.same,fun p h=>b.jj p (a.jj p h),fun p h=>by
 rcases b.jn p h with h | h
 ·exact a.jn p h
 ·exact .inr (a.same.free h),b.ja⟩
theorem Up.new {p:Addr}(ja:∀a,J a->H a≠none)(hp:H p=none)(o:HO):Up H J (upd H p o) J:=
 ⟨zg4 hp o,fun _ h=>h,fun _ h=>.inl h,fun a h=>by
  by_cases e:a=p
  ·subst e;rw[zai];simp
  ·rw[zah e];exact ja a h⟩
theorem Up.newJ {p:Addr}(ja:∀a,J a->H a≠none)(hp:H p=none)(o:HO):Up H J (upd H p o) (fun a=>J a\/a=p):=
 ⟨zg4 hp o,fun _ h=>.inl h,fun a h=>by rcases h with h | h;exact .inl h;subst h;exact .inr hp,fun a h=>by
  by_cases e:a=p
  ·subst e;rw[zai];simp
  ·rw[zah e];rcases h with h | h;exact ja a h;exact absurd h e⟩
theorem RpL.length:∀{vs:List V}{ds:List D},RpL K H J vs ds->vs.length=ds.length
 | _,_,.nil=>rfl
 | _,_,.cons _ t=>by simp[RpL.length t]
theorem RpL.get:∀{vs:List V}{ds:List D}{i:Nat}{d:D},RpL K H J vs ds->ds[i]?=some d->∃v,vs[i]?=some v/\Rp K H J v d
 | _,_,_,_,.nil,e=>by simp at e
 | _,_,0,_,.cons h _,e=>by simp at e;subst e;exact⟨_,rfl,h⟩
 | _,_,i+1,d,.cons _ t,e=>by
   obtain⟨v,h1,h2⟩:=RpL.get (i:=i) (d:=d) t (by simpa using e);exact⟨v,by simpa using h1,h2⟩
theorem RpL.getV:∀{vs:List V}{ds:List D}{i:Nat}{v:V},RpL K H J vs ds->vs[i]?=some v->∃d,ds[i]?=some d/\Rp K H J v d
 | _,_,_,_,.nil,e=>by simp at e
 | _,_,0,_,.cons h _,e=>by simp at e;subst e;exact⟨_,rfl,h⟩
 | _,_,i+1,v,.cons _ t,e=>by
   obtain⟨d,h1,h2⟩:=RpL.getV (i:=i) (v:=v) t (by simpa using e);exact⟨d,by simpa using h1,h2⟩
theorem RpL.append:∀{vs us:List V}{ds es:List D},RpL K H J vs ds->RpL K H J us es->RpL K H J (vs++us) (ds++es)
 | _,_,_,_,.nil,s=>s
 | _,_,_,_,.cons h t,s=>.cons h (RpL.append t s)
theorem RpL.take:∀{vs:List V}{ds:List D}(n:Nat),RpL K H J vs ds->RpL K H J (vs.take n) (ds.take n)
 | _,_,0,_=>.nil
 | _,_,_+1,.nil=>.nil
 | _,_,n+1,.cons h t=>.cons h (RpL.take n t)
theorem RpL.drop:∀{vs:List V}{ds:List D}(n:Nat),RpL K H J vs ds->RpL K H J (vs.drop n) (ds.drop n)
 | _,_,0,h=>h
 | _,_,_+1,.nil=>.nil
 | _,_,n+1,.cons _ t=>RpL.drop n t
theorem RpL.reverse:∀{vs:List V}{ds:List D},RpL K H J vs ds->RpL K H J vs.reverse ds.reverse
 | _,_,.nil=>.nil
 | _,_,.cons h t=>by
   rw[List.reverse_cons,List.reverse_cons];exact(RpL.reverse t).append (.cons h .nil)
theorem RpL.set:∀{vs:List V}{ds:List D}(i:Nat) {v:V}{d:D},RpL K H J vs ds->Rp K H J v d->RpL K H J (vs.set i v) (ds.set i d)
 | _,_,_,_,_,.nil,_=>.nil
 | _,_,0,_,_,.cons _ t,h=>.cons h t
 | _,_,i+1,_,_,.cons q t,h=>.cons q (RpL.set i t h)
theorem RpL.at {vs:List V}{ds:List D}{i:Int}{d:D}(r:RpL K H J vs ds)(h:atI ds i=some d):∃v,atI vs i=some v/\Rp K H J v d:=by
 unfold atI at h⊢;rw[r.length];cases e:ixN ds.length i with
 | none=>rw[e] at h;cases h
 | some j=>rw[e] at h;exact r.get h
end
mutual
inductive RpU (K:W.Frag)(H:Hp)(J:Addr->Prop):Nat->V->D->List Addr->Prop
 | frz {v:V}{d:D}(h:Rp K H J v d):RpU K H J 0 v d []
 | lst {n:Nat}{a:Addr}{vs:List V}{ds:List D}{A:List Addr}(h:H a=some (.lst vs)) (r:RpUL K H J n vs ds A):RpU K H J (n+1) (.ref a) (.lst ds) (a::A)
 | dct {n:Nat}{a:Addr}{kvs:List (Key×V)}{vs:List V}{ks:List Key}{ds:List D}{A:List Addr}(h:H a=some (.dK kvs)) (ek:kvs.map (·.1)=ks) (ev:kvs.map (·.2)=vs) (r:RpUL K H J n vs ds A):RpU K H J (n+1) (.ref a) (.dct ks ds) (a::A)
inductive RpUL (K:W.Frag)(H:Hp)(J:Addr->Prop):Nat->List V->List D->List Addr->Prop
 | nil {n:Nat}:RpUL K H J n [] [] []
 | cons {n:Nat}{v:V}{d:D}{vs:List V}{ds:List D}{A B:List Addr}(h:RpU K H J n v d A) (t:RpUL K H J n vs ds B):RpUL K H J n (v::vs) (d::ds) (A++B)
end
def MutO:HO->Prop
 | .lst _=>True
 | .dK _=>True
 | _=>False
section
variable {K:W.Frag}{H H' H1 H2 Hz:Hp}{J J' J1 J2 Jz:Addr->Prop}
mutual
theorem RpU.keep {n:Nat}{v:V}{d:D}{A:List Addr}(k:Keep K H J H' J')(hA:∀b∈A,∀o,H b=some o->H' b=some o):RpU K H J n v d A->RpU K H' J' n v d A
 | .frz h=>.frz (h.keep k)
 | .lst h r=>.lst (hA _ List.mem_cons_self _ h) (RpUL.keep k (fun b hb=>hA b (List.mem_cons_of_mem _ hb)) r)
 | .dct h ek ev r=>.dct (hA _ List.mem_cons_self _ h) ek ev (RpUL.keep k (fun b hb=>hA b (List.mem_cons_of_mem _ hb)) r)
theorem RpUL.keep {n:Nat}{vs:List V}{ds:List D}{A:List Addr}(k:Keep K H J H' J')(hA:∀b∈A,∀o,H b=some o->H' b=some o):RpUL K H J n vs ds A->RpUL K H' J' n vs ds A
 | .nil=>.nil
 | .cons h t=>.cons (RpU.keep k (fun b hb=>hA b (List.mem_append_left _ hb)) h) (RpUL.keep k (fun b hb=>hA b (List.mem_append_right _ hb)) t)
end
mutual
theorem RpU.some {n:Nat}{v:V}{d:D}{A:List Addr}:RpU K H J n v d A->∀b∈A,∃o,H b=Option.some o/\MutO o
 | .frz _=>fun b hb=>absurd hb (by simp)
 | .lst h r=>fun b hb=>by
   rcases List.mem_cons.mp hb with rfl | hb
   ·exact⟨_,h,trivial⟩
   ·exact RpUL.some r b hb
 | .dct h _ _ r=>fun b hb=>by
   rcases List.mem_cons.mp hb with rfl | hb
   ·exact⟨_,h,trivial⟩
   ·exact RpUL.some r b hb
theorem RpUL.some {n:Nat}{vs:List V}{ds:List D}{A:List Addr}:RpUL K H J n vs ds A->∀b∈A,∃o,H b=Option.some o/\MutO o
 | .nil=>fun b hb=>absurd hb (by simp)
 | .cons h t=>fun b hb=>by
   rcases List.mem_append.mp hb with hb | hb
   ·exact RpU.some h b hb
   ·exact RpUL.some t b hb
end
mutual
theorem RpU.rp {n:Nat}{v:V}{d:D}{A:List Addr}(j:∀a,J a->J' a)(hA:∀b∈A,J' b):RpU K H J n v d A->Rp K H J' v d
 | .frz h=>h.keep ⟨j,fun _ _ _ h=>h,fun _ _ h=>h⟩
 | .lst h r=>.lst h (hA _ List.mem_cons_self) (RpUL.rp j (fun b hb=>hA b (List.mem_cons_of_mem _ hb)) r)
 | .dct h ek ev r=>.dct h (hA _ List.mem_cons_self) ek ev (RpUL.rp j (fun b hb=>hA b (List.mem_cons_of_mem _ hb)) r)
theorem RpUL.rp {n:Nat}{vs:List V}{ds:List D}{A:List Addr}(j:∀a,J a->J' a)(hA:∀b∈A,J' b):RpUL K H J n vs ds A->RpL K H J' vs ds
 | .nil=>.nil
 | .cons h t=>.cons (RpU.rp j (fun b hb=>hA b (List.mem_append_left _ hb)) h) (RpUL.rp j (fun b hb=>hA b (List.mem_append_right _ hb)) t)
end
theorem RpUL.zero:∀{vs:List V}{ds:List D}{A:List Addr},RpUL K H J 0 vs ds A->RpL K H J vs ds/\A = []
 | _,_,_,.nil=>⟨.nil,rfl⟩
 | _,_,_,.cons (.frz h) t=>by
   obtain⟨r,e⟩:=RpUL.zero t;subst e;exact⟨.cons h r,rfl⟩
theorem RpUL.of:∀{vs:List V}{ds:List D},RpL K H J vs ds->RpUL K H J 0 vs ds []
 | _,_,.nil=>.nil
 | _,_,.cons h t=>.cons (A:=[]) (B:=[]) (.frz h) (RpUL.of t)
theorem RpU.one {v:V}{ds:List D}{A:List Addr}(h:RpU K H J 1 v (.lst ds) A):∃a vs,v=.ref a/\A = [a]/\H a=Option.some (.lst vs)/\RpL K H J vs ds:=by
 cases h with
 | lst h r=>obtain⟨r',rfl⟩:=r.zero;exact⟨_,_,rfl,rfl,h,r'⟩
theorem RpU.oneD {v:V}{ks:List Key}{ds:List D}{A:List Addr}(h:RpU K H J 1 v (.dct ks ds) A):∃a kvs vs,v=.ref a/\A = [a]/\H a=Option.some (.dK kvs)/\kvs.map (·.1)=ks/\kvs.map (·.2)=vs/\RpL K H J vs ds:=by
 cases h with
 | dct h e1 e2 r=>obtain⟨r',rfl⟩:=r.zero;exact⟨_,_,_,rfl,rfl,h,e1,e2,r'⟩
theorem RpUL.length {n:Nat}:∀{vs:List V}{ds:List D}{A:List Addr},RpUL K H J n vs ds A->vs.length=ds.length
 | _,_,_,.nil=>rfl
 | _,_,_,.cons _ t=>by simp[RpUL.length t]
theorem RpUL.append {n:Nat}:∀{vs us:List V}{ds es:List D}{A B:List Addr},RpUL K H J n vs ds A->RpUL K H J n us es B->RpUL K H J n (vs++us) (ds++es) (A++B)
 | _,_,_,_,_,_,.nil,s=>s
 | _,_,_,_,_,_,.cons h t,s=>by rw[List.append_assoc];exact .cons h (RpUL.append t s)
theorem RpUL.split {n:Nat}:∀{vs:List V}{ds:List D}{A:List Addr}(i:Nat) {d:D},RpUL K H J n vs ds A->ds[i]?=Option.some d->∃v A1 A2 A3,vs[i]?=Option.some v/\A=A1++(A2++A3)/\RpU K H J n v d A2/\
 ∀(H':Hp) (J':Addr->Prop) (u:V) (e:D) (B:List Addr),Keep K H J H' J'->(∀b∈A1++A3,∀o,H b=Option.some o->H' b=Option.some o)->RpU K H' J' n u e B->RpUL K H' J' n (vs.set i u) (ds.set i e) (A1++(B++A3))
 | _,_,_,_,_,.nil,e=>by simp at e
 | _,_,_,0,_,.cons (A:=A) (B:=B) h t,e=>by
   simp at e;subst e;exact⟨_,[],A,B,rfl,rfl,h,fun H' J' u e C k hk r=>RpUL.cons (A:=C) (B:=B) r (t.keep k (fun b hb=>hk b (by simpa using hb)))⟩
 | _,_,_,i+1,d,.cons (A:=A) (B:=B) h t,e=>by
   obtain⟨v,A1,A2,A3,hv,rfl,hr,up⟩:=RpUL.split i t (by simpa using e);refine⟨v,A++A1,A2,A3,by simpa using hv,by simp,hr,fun H' J' u e C k hk r=>?_⟩;rw[List.append_assoc];exact .cons (h.keep k (fun b hb=>hk b (by simp[hb]))) (up H' J' u e C k (fun b hb=>hk b (by simp at hb⊢;rcases hb with hb | hb <;> simp[hb])) r)
def RpW (K:W.Frag)(H:Hp)(J:Addr->Prop)(v:V)(d:D):Prop:=Rp K H J v d\/∃A,RpU K H J 1 v d A
theorem RpW.lst {v:V}{ds:List D}(h:RpW K H J v (.lst ds)):∃p vs,v=.ref p/\H p=some (.lst vs)/\RpL K H J vs ds:=by
 rcases h with h | ⟨A,h⟩
 ·cases h with | lst h j r=>exact⟨_,_,rfl,h,r⟩
 ·obtain⟨a,vs,rfl,_,h,r⟩:=h.one;exact⟨a,vs,rfl,h,r⟩
theorem RpW.tup {v:V}{ds:List D}(h:RpW K H J v (.tup ds)):∃p vs,v=.ref p/\SqT K H p vs/\RpL K H J vs ds:=by
 rcases h with h | ⟨A,h⟩
 ·cases h with | tup h r=>exact⟨_,_,rfl,h,r⟩
 ·cases h
theorem RpW.dct {v:V}{ks:List Key}{ds:List D}(h:RpW K H J v (.dct ks ds)):∃p kvs vs,v=.ref p/\H p=some (.dK kvs)/\kvs.map (·.1)=ks/\kvs.map (·.2)=vs/\RpL K H J vs ds:=by
 rcases h with h | ⟨A,h⟩
 ·cases h with | dct h j e1 e2 r=>exact⟨_,_,_,rfl,h,e1,e2,r⟩
 ·obtain⟨a,kvs,vs,rfl,_,h,e1,e2,r⟩:=h.oneD;exact⟨a,kvs,vs,rfl,h,e1,e2,r⟩
theorem RpW.int {v:V}{i:Int}(h:RpW K H J v (.int i)):v=.int i:=by
 rcases h with h | ⟨A,h⟩ <;> cases h
 rfl
theorem RpW.str {v:V}{i:Str}(h:RpW K H J v (.str i)):v=.str i:=by
 rcases h with h | ⟨A,h⟩ <;> cases h
 rfl
theorem RpW.bl {v:V}{i:Bool}(h:RpW K H J v (.bl i)):v=.bl i:=by
 rcases h with h | ⟨A,h⟩ <;> cases h
 rfl
theorem RpW.non {v:V}(h:RpW K H J v .non):v=.non:=by
 rcases h with h | ⟨A,h⟩ <;> cases h
 rfl
end
inductive SV where
 | un | val (d:D) | own (n:Nat) (d:D) | par (n:Nat) (d:D)
abbrev En:=List SV
structure Pr where
 ps:List (Nat×Addr×Nat)
 fpo:Nat->List Addr
def Pr.no:Pr:=⟨[],fun _=>[]⟩
def Pr.has (O:Pr)(b:Addr):Prop:=∃i,b∈O.fpo i
def OwAt (K:W.Frag)(Hz H:Hp)(J:Addr->Prop)(O:List Addr)(x:Option (Option V))(A:List Addr):Option SV->Prop
 | some (.own n d)=>(∃v,x=some (some v)/\RpU K H J n v d A)/\∀b∈A,Hz b=none
 | some (.par n d)=>(∃v,x=some (some v)/\RpU K H J n v d A)/\∀b∈A,Hz b=none\/b∈O
 | _=>A = []
structure Ow (K:W.Frag)(Hz:Hp)(O:Pr)(ρ:En)(σ:L2.St)(H:Hp)(J:Addr->Prop)(fp:Nat->List Addr):Prop where
 at':∀i,OwAt K Hz H J (O.fpo i) (σ[i]?) (fp i) (ρ[i]?)
 nd:∀i,(fp i).Nodup
 nj:∀i,∀b∈fp i,¬J b
 dj:∀i j,i≠j->∀b∈fp i,b∉fp j
structure ST (K:W.Frag)(Hz:Hp)(Jz:Addr->Prop)(O:Pr)(ρ:En)(σ:L2.St)(H:Hp)(J:Addr->Prop):Prop where
 same:∀b o,¬O.has b->Hz b=some o->H b=some o
 j0:∀a,Jz a->J a
 jn:∀a,J a->Jz a\/Hz a=none
 ja:∀a,J a->H a≠none
 len:σ.length=ρ.length
 vl:∀(i:Nat) (d:D),ρ[i]?=some (.val d)->∃v,σ[i]?=some (some v)/\Rp K H J v d
 ow:∃fp,Ow K Hz O ρ σ H J fp
 ps:∀q∈O.ps,σ[q.1]?=some (some (.ref q.2.1))/\∃d,ρ[q.1]?=some (.par q.2.2 d)
 al:∀b,Hz b≠none->H b≠none
section
variable {K:W.Frag}{H H' H1 H2 Hz:Hp}{J J' J1 J2 Jz:Addr->Prop}{ρ:En}{σ:L2.St}{O:Pr}
theorem OwAt.ru {B:List Addr}{x:Option (Option V)}{A:List Addr}{s:Option SV}(h:OwAt K Hz H J B x A s):∀b∈A,∃o,H b=some o/\MutO o:=by
 match s,h with
 | some (.own n d),⟨⟨v,_,r⟩,_⟩ =>exact r.some
 | some (.par n d),⟨⟨v,_,r⟩,_⟩ =>exact r.some
 | none,h=>cases h;simp
 | some .un,h=>cases h;simp
 | some (.val _),h=>cases h;simp
theorem OwAt.keep {B:List Addr}{x:Option (Option V)}{A:List Addr}{s:Option SV}(k:Keep K H J H' J')(hA:∀b∈A,∀o,H b=some o->H' b=some o)(h:OwAt K Hz H J B x A s):OwAt K Hz H' J' B x A s:=by
 match s,h with
 | some (.own n d),⟨⟨v,e,r⟩,q⟩ =>exact⟨⟨v,e,r.keep k hA⟩,q⟩
 | some (.par n d),⟨⟨v,e,r⟩,q⟩ =>exact⟨⟨v,e,r.keep k hA⟩,q⟩
 | none,h=>exact h
 | some .un,h=>exact h
 | some (.val _),h=>exact h
theorem ST.up (s:ST K Hz Jz O ρ σ H J)(u:Up H J H' J'):ST K Hz Jz O ρ σ H' J' where
 same:=fun b o hb h=>u.same b o (s.same b o hb h)
 j0:=fun a h=>u.jj a (s.j0 a h)
 jn:=fun a h=>by
  rcases u.jn a h with h | h
  ·exact s.jn a h
  ·right
   cases e:Hz a with
   | none=>rfl
   | some o=>
     exact absurd h (s.al a (by rw[e];simp))
 ja:=u.ja
 len:=s.len
 vl:=fun i d h=>let ⟨v,e,r⟩:=s.vl i d h;⟨v,e,r.keep u.keep⟩
 ow:=by
  obtain⟨fp,w⟩:=s.ow;refine⟨fp,fun i=>(w.at' i).keep u.keep fun b _=>u.same b,w.nd,fun i b hb j=>?_,w.dj⟩;rcases u.jn b j with j | j
  ·exact w.nj i b hb j
  ·obtain⟨o,e,_⟩:=(w.at' i).ru b hb;rw[e] at j;cases j
 ps:=s.ps
 al:=fun b h=>by
  cases e:H b with
  | none=>exact absurd e (s.al b h)
  | some o=>rw[u.same b o e];simp
theorem zdy {α:Type}{l:List α}{i j:Nat}{x y:α}(h:(l.set i x)[j]?=some y):(j=i/\y=x)\/(j≠i/\l[j]?=some y):=by
 by_cases e:j=i
 ·subst e;by_cases hl:j<l.length
  ·rw[List.getElem?_set_self hl] at h;exact .inl ⟨rfl,(Option.some.inj h).symm⟩
  ·rw[List.getElem?_eq_none (by simp;omega)] at h;cases h
 ·rw[List.getElem?_set_ne (Ne.symm e)] at h;exact .inr ⟨e,h⟩
def zhR (fp:Nat->List Addr)(i:Nat)(A:List Addr):Nat->List Addr:=fun j=>if j=i then A else fp j
theorem zbd {fp:Nat->List Addr}{i:Nat}{A:List Addr}:zhR fp i A i=A:=if_pos rfl
theorem zbx {fp:Nat->List Addr}{i j:Nat}{A:List Addr}(h:j≠i):zhR fp i A j=fp j:=if_neg h
theorem Ow.put {fp:Nat->List Addr}{ρ':En}{σ':L2.St}{i:Nat}{A:List Addr}(w:Ow K Hz O ρ σ H J fp)(k:Keep K H J H' J')(hs:∀j,j≠i->∀b∈fp j,∀o,H b=some o->H' b=some o)
 (hj:∀j,j≠i->∀b∈fp j,¬J' b) (hρ:∀j,j≠i->ρ'[j]?=ρ[j]?) (hσ:∀j,j≠i->σ'[j]?=σ[j]?) (hi:OwAt K Hz H' J' (O.fpo i) (σ'[i]?) A (ρ'[i]?)) (nd:A.Nodup) (nj:∀b∈A,¬J' b) (dj:∀j,j≠i->∀b∈A,b∉fp j) :
 Ow K Hz O ρ' σ' H' J' (zhR fp i A) where
 at':=fun j=>by
  by_cases e:j=i
  ·subst e;rw[zbd];exact hi
  ·rw[zbx e,hρ j e,hσ j e];exact(w.at' j).keep k (hs j e)
 nd:=fun j=>by
  by_cases e:j=i
  ·subst e;rw[zbd];exact nd
  ·rw[zbx e];exact w.nd j
 nj:=fun j b hb=>by
  by_cases e:j=i
  ·subst e;rw[zbd] at hb;exact nj b hb
  ·rw[zbx e] at hb;exact hj j e b hb
 dj:=fun j l ne b hb=>by
  by_cases e:j=i
  ·subst e;rw[zbd] at hb;rw[zbx (Ne.symm ne)];exact dj l (Ne.symm ne) b hb
  ·rw[zbx e] at hb;by_cases e2:l=i
   ·subst e2;rw[zbd];exact fun hb2=>dj j e b hb2 hb
   ·rw[zbx e2];exact w.dj j l ne b hb
theorem ST.psNe {i:Nat}(s:ST K Hz Jz O ρ σ H J)(hp:∀n d,ρ[i]?≠some (.par n d)):∀q∈O.ps,q.1≠i:=fun q hq e=>by
 obtain⟨_,d,h⟩:=s.ps q hq;exact hp _ d (e▸h)
theorem ST.set {i:Nat}{v:V}{d:D}(s:ST K Hz Jz O ρ σ H J)(r:Rp K H J v d)(hi:i<ρ.length)(hp:∀n d,ρ[i]?≠some (.par n d)):ST K Hz Jz O (ρ.set i (.val d)) (σ.set i (some v)) H J where
 same:=s.same
 j0:=s.j0
 jn:=s.jn
 ja:=s.ja
 len:=by simp[s.len]
 vl:=fun j e h=>by
  rcases zdy h with⟨rfl,he⟩ | ⟨ne,h⟩
  ·cases he;exact⟨v,List.getElem?_set_self (by rw[s.len];exact hi),r⟩
  ·rw[List.getElem?_set_ne (Ne.symm ne)];exact s.vl j e h
 ow:=by
  obtain⟨fp,w⟩:=s.ow;refine⟨_,w.put (i:=i) (A:=[]) Keep.refl (fun _ _ _ _ _ h=>h) (fun j _=>w.nj j) (fun j e=>List.getElem?_set_ne (Ne.symm e)) (fun j e=>List.getElem?_set_ne (Ne.symm e)) ?_ List.nodup_nil (by simp) (by simp)⟩;rw[List.getElem?_set_self hi];rfl
 ps:=fun q hq=>by
  have e:=s.psNe hp q hq
  rw[List.getElem?_set_ne (Ne.symm e),List.getElem?_set_ne (Ne.symm e)];exact s.ps q hq
 al:=s.al
theorem ST.drop {i:Nat}(s:ST K Hz Jz O ρ σ H J)(hp:∀n d,ρ[i]?≠some (.par n d)):ST K Hz Jz O (ρ.set i .un) σ H J where
 same:=s.same
 j0:=s.j0
 jn:=s.jn
 ja:=s.ja
 len:=by simp[s.len]
 vl:=fun j e h=>by
  rcases zdy h with⟨rfl,he⟩ | ⟨ne,h⟩
  ·cases he
  ·exact s.vl j e h
 ow:=by
  obtain⟨fp,w⟩:=s.ow;refine⟨_,w.put (i:=i) (A:=[]) Keep.refl (fun _ _ _ _ _ h=>h) (fun j _=>w.nj j) (fun j e=>List.getElem?_set_ne (Ne.symm e)) (fun _ _=>rfl) ?_ List.nodup_nil (by simp) (by simp)⟩;by_cases hi:i<ρ.length
  ·rw[List.getElem?_set_self hi];rfl
  ·have z:(List.set ρ i SV.un)[i]?=none:=List.getElem?_eq_none (by simp;omega)
   rw[z];rfl
 ps:=fun q hq=>by
  have e:=s.psNe hp q hq
  rw[List.getElem?_set_ne (Ne.symm e)];exact s.ps q hq
 al:=s.al
theorem ST.setOwn {i n:Nat}{v:V}{d:D}{A:List Addr}(s:ST K Hz Jz O ρ σ H1 J1)(u:Up H1 J1 H J)(fr:∀b∈A,H1 b=none)(r:RpU K H J n v d A)(nd:A.Nodup)(nj:∀b∈A,¬J b)(hi:i<ρ.length)(hp:∀n d,ρ[i]?≠some (.par n d)) :
 ST K Hz Jz O (ρ.set i (.own n d)) (σ.set i (some v)) H J:=by
 have s':=s.up u
 refine⟨s'.same,s'.j0,s'.jn,s'.ja,by simp[s.len],fun j e h=>?_,?_,fun q hq=>?_,s'.al⟩
 ·rcases zdy h with⟨rfl,he⟩ | ⟨ne,h⟩
  ·cases he
  ·rw[List.getElem?_set_ne (Ne.symm ne)];exact s'.vl j e h
 ·obtain⟨fp,w⟩:=s.ow;have h0:∀b∈A,Hz b=none:=fun b hb=>by
   cases e:Hz b with
   | none=>rfl
   | some o=>exact absurd (fr b hb) (s.al b (by rw[e];simp))
  refine⟨_,w.put (i:=i) (A:=A) u.keep (fun j _ b _ o=>u.same b o) (fun j _ b hb jb=>?_) (fun j e=>List.getElem?_set_ne (Ne.symm e)) (fun j e=>List.getElem?_set_ne (Ne.symm e)) ?_ nd nj (fun j _ b hb hb2=>?_)⟩
  ·rcases u.jn b jb with jb | jb
   ·exact w.nj j b hb jb
   ·obtain⟨o,e,_⟩:=(w.at' j).ru b hb;rw[e] at jb;cases jb
  ·rw[List.getElem?_set_self hi,List.getElem?_set_self (by rw[s.len];exact hi)];exact⟨⟨v,rfl,r⟩,h0⟩
  ·obtain⟨o,e,_⟩:=(w.at' j).ru b hb2;rw[fr b hb] at e;cases e
 ·have e:=s.psNe hp q hq
  rw[List.getElem?_set_ne (Ne.symm e),List.getElem?_set_ne (Ne.symm e)];exact s.ps q hq
def ownD:Option SV->Option (Nat×D)
 | some (.own n d)=>some (n,d)
 | some (.par n d)=>some (n,d)
 | _=>none
def putD (s:Option SV)(d:D):SV:=match s with
 | some (.own n _)=>.own n d
 | some (.par n _)=>.par n d
 | _=>.un
theorem zkb {A:List Addr}(hm:∀b∈A,∃o,H b=some o/\MutO o)(nj:∀b∈A,¬J b)(hs:∀b o,b∉A->H b=some o->H' b=some o)(jj:∀a,J a->J' a):Keep K H J H' J':=⟨jj,fun p o j h=>hs p o (fun hp=>nj p hp j) h,fun p vs h=>by
 rcases h with(h | ⟨u,h⟩) | h
 ·exact .inl (.inl (hs p _ (fun hp=>by obtain⟨o,e,m⟩:=hm p hp;rw[h] at e;cases e;exact m) h))
 ·exact .inl (.inr ⟨u,hs p _ (fun hp=>by obtain⟨o,e,m⟩:=hm p hp;rw[h] at e;cases e;exact m) h⟩)
 ·exact .inr h⟩
theorem ST.chg {i n:Nat}{d:D}(s:ST K Hz Jz O ρ σ H J)(h0:ownD (ρ[i]?)=some (n,d)):∃v A,σ[i]?=some (some v)/\RpU K H J n v d A/\A.Nodup/\(∀b∈A,¬J b)/\
 ∀(H':Hp) (J':Addr->Prop) (d':D) (A':List Addr),(∀b o,b∉A->H b=some o->H' b=some o)->(∀b,H b≠none->H' b≠none)->(∀a,J a->J' a)->(∀a,J' a->J a\/H a=none)->(∀a,J' a->H' a≠none)->
  RpU K H' J' n v d' A'->A'.Nodup->(∀b∈A',¬J' b)->(∀b∈A',b∈A\/H b=none)->ST K Hz Jz O (ρ.set i (putD (ρ[i]?) d')) σ H' J'/\Keep K H J H' J':=by
 obtain⟨fp,w⟩:=s.ow;have hat:=w.at' i
 have hi:i<ρ.length:=by
  by_cases hi:i<ρ.length
  ·exact hi
  ·rw[List.getElem?_eq_none (by omega)] at h0;cases h0
 have main:(∃v,σ[i]?=some (some v)/\RpU K H J n v d (fp i))/\(∀b∈fp i,Hz b=none\/b∈O.fpo i):=by
  match hq:ρ[i]?,h0,hat with
  | some (.own m e),h0,hat=>cases h0;exact⟨hat.1,fun b hb=>.inl (hat.2 b hb)⟩
  | some (.par m e),h0,hat=>cases h0;exact hat
 obtain⟨⟨v,hv,r⟩,hfr⟩:=main;refine⟨v,fp i,hv,r,w.nd i,w.nj i,fun H' J' d' A' hs ha jj jn ja r' nd nj hA=>?_⟩;have kp:Keep K H J H' J':=zkb (fun b hb=>hat.ru b hb) (w.nj i) hs jj
 have out:∀j,j≠i->∀b∈fp j,b∉fp i:=fun j e b hb hb2=>w.dj j i e b hb hb2
 have free:∀b,H b=none->Hz b=none:=fun b hb=>by
  cases e:Hz b with
  | none=>rfl
  | some o=>exact absurd hb (s.al b (by rw[e];simp))
 refine⟨⟨fun b o hb h=>hs b o (fun hb2=>?_) (s.same b o hb h),fun a h=>jj a (s.j0 a h),fun a h=>?_,ja,by simp[s.len],fun j e h=>?_,?_,fun q hq=>?_,fun b h=>ha b (s.al b h)⟩,kp⟩
 ·rcases hfr b hb2 with h2 | h2
  ·rw[h2] at h;cases h
  ·exact hb ⟨i,h2⟩
 ·rcases jn a h with h | h
  ·exact s.jn a h
  ·exact .inr (free a h)
 ·rcases zdy h with⟨rfl,he⟩ | ⟨ne,h⟩
  ·exfalso
   unfold putD at he;match hq:ρ[j]?,h0 with
   | some (.own m e),h0=>rw[hq] at he;cases he
   | some (.par m e),h0=>rw[hq] at he;cases he
  ·obtain⟨v,e1,r1⟩:=s.vl j e h;exact⟨v,e1,r1.keep kp⟩
 ·refine⟨_,w.put (i:=i) (A:=A') kp (fun j e b hb o ho=>hs b o (out j e b hb) ho) (fun j e b hb jb=>?_) (fun j e=>List.getElem?_set_ne (Ne.symm e)) (fun _ _=>rfl) ?_ nd nj (fun j e b hb hb2=>?_)⟩
  ·rcases jn b jb with jb | jb
   ·exact w.nj j b hb jb
   ·obtain⟨o,e,_⟩:=(w.at' j).ru b hb;rw[e] at jb;cases jb
  ·rw[List.getElem?_set_self hi];match hq:ρ[i]?,h0,hat with
   | some (.own m e),h0,hat=>
     cases h0;refine⟨⟨v,hv,r'⟩,fun b hb=>?_⟩;rcases hA b hb with hb | hb
     ·exact hat.2 b hb
     ·exact free b hb
   | some (.par m e),h0,hat=>
     cases h0;refine⟨⟨v,hv,r'⟩,fun b hb=>?_⟩;rcases hA b hb with hb | hb
     ·exact hat.2 b hb
     ·exact .inl (free b hb)
  ·rcases hA b hb with hb | hb
   ·exact w.dj j i e b hb2 hb
   ·obtain⟨o,e,_⟩:=(w.at' j).ru b hb2;rw[hb] at e;cases e
 ·obtain⟨e1,e,h⟩:=s.ps q hq;refine⟨e1,?_⟩;by_cases e:q.1=i
  ·rw[e,List.getElem?_set_self hi];rw[e] at h;exact⟨d',by rw[h];rfl⟩
  ·rw[List.getElem?_set_ne (Ne.symm e)];exact⟨_,h⟩
theorem ST.frz {i n:Nat}{d:D}(s:ST K Hz Jz O ρ σ H J)(h0:ρ[i]?=some (.own n d)):∃J',ST K Hz Jz O (ρ.set i (.val d)) σ H J'/\Keep K H J H J':=by
 obtain⟨fp,w⟩:=s.ow;have hat:=w.at' i
 rw[h0] at hat
 obtain⟨⟨v,hv,r⟩,hn⟩:=hat
 have hi:i<ρ.length:=(List.getElem?_eq_some_iff.mp h0).1
 have kp:Keep K H J H (fun b=>J b\/b∈fp i):=⟨fun _ h=>.inl h,fun _ _ _ h=>h,fun _ _ h=>h⟩
 refine⟨fun b=>J b\/b∈fp i,⟨s.same,fun b h=>.inl (s.j0 b h),fun b h=>?_,fun b h=>?_,by simp[s.len],fun j e h=>?_,?_,fun q hq=>?_,s.al⟩,kp⟩
 ·rcases h with h | h
  ·exact s.jn b h
  ·exact .inr (hn b h)
 ·rcases h with h | h
  ·exact s.ja b h
  ·obtain⟨o,e,_⟩:=r.some b h;rw[e];simp
 ·rcases zdy h with⟨rfl,he⟩ | ⟨ne,h⟩
  ·cases he;exact⟨v,hv,r.rp (fun _ h=>.inl h) (fun b hb=>.inr hb)⟩
  ·obtain⟨v,e1,r1⟩:=s.vl j e h;exact⟨v,e1,r1.keep kp⟩
 ·refine⟨_,w.put (i:=i) (A:=[]) kp (fun _ _ _ _ _ h=>h) (fun j e b hb jb=>?_) (fun j e=>List.getElem?_set_ne (Ne.symm e)) (fun _ _=>rfl) ?_ List.nodup_nil (by simp) (by simp)⟩
  ·rcases jb with jb | jb
   ·exact w.nj j b hb jb
   ·exact w.dj j i e b hb jb
  ·rw[List.getElem?_set_self hi];rfl
 ·have e:=s.psNe (i:=i) (fun n d z=>by rw[h0] at z;cases z) q hq
  rw[List.getElem?_set_ne (Ne.symm e)];exact s.ps q hq
def Weak (ρ' ρ:En):Prop:=ρ'.length=ρ.length/\∀(i:Nat),ρ'[i]?=ρ[i]?\/ρ'[i]?=some .un
def isUn:Option SV->Bool
 | some .un=>true
 | _=>false
theorem ST.weak {ρ':En}(s:ST K Hz Jz O ρ σ H J)(w:Weak ρ' ρ)(hO:O.ps = []):ST K Hz Jz O ρ' σ H J where
 same:=s.same
 j0:=s.j0
 jn:=s.jn
 ja:=s.ja
 len:=by rw[s.len,w.1]
 vl:=fun i d h=>by
  rcases w.2 i with e | e
  ·exact s.vl i d (e▸h)
  ·rw[e] at h;cases h
 ow:=by
  obtain⟨fp,o⟩:=s.ow;have key:∀i:Nat,(ρ'[i]?=some SV.un)\/ρ'[i]?=ρ[i]?:=fun i=>(w.2 i).symm
  refine⟨fun i=>if isUn (ρ'[i]?) then[] else fp i,fun i=>?_,fun i=>?_,fun i b hb=>?_,fun i j ne b hb=>?_⟩
  ·have q:=o.at' i
   rcases key i with e | e
   ·rw[e];rfl
   ·rw[e];cases z:ρ[i]? with
    | none=>rw[z] at q;exact q
    | some x=>
      rw[z] at q;cases x with
      | un=>rfl
      | val d=>exact q
      | own n d=>exact q
      | par n d=>exact q
  ·split
   ·exact List.nodup_nil
   ·exact o.nd i
  ·split at hb
   ·cases hb
   ·exact o.nj i b hb
  ·split at hb
   ·cases hb
   ·split
    ·simp
    ·exact o.dj i j ne b hb
 ps:=by rw[hO];simp
 al:=s.al
end
end VD
namespace VD
open PySem PySem.Spec PyProof PyProof.Rows L2
abbrev FE:=En->Option D
abbrev FT:=En->Option Bool
abbrev FA:=En->Option (List D)
def lim:Nat:=100000
theorem zeY:lim<sizeLine:=by decide
theorem zcr {n:Nat}(h:n<=lim):n<=sizeLine:=Nat.le_trans h (Nat.le_of_lt zeY)
def mkL (ds:List D):Option D:=if ds.length<=lim then some (.lst ds) else none
def mkT (ds:List D):Option D:=if ds.length<=lim then some (.tup ds) else none
theorem zkc {ds:List D}{d:D}(h:mkL ds=some d):ds.length<=lim/\d=.lst ds:=by
 unfold mkL at h;by_cases e:ds.length<=lim
 ·rw[if_pos e] at h;exact⟨e,(Option.some.inj h).symm⟩
 ·rw[if_neg e] at h;cases h
theorem zfm {ds:List D}{d:D}(h:mkT ds=some d):ds.length<=lim/\d=.tup ds:=by
 unfold mkT at h;by_cases e:ds.length<=lim
 ·rw[if_pos e] at h;exact⟨e,(Option.some.inj h).symm⟩
 ·rw[if_neg e] at h;cases h
section
variable (K:W.Frag)
def zgw (H:Hp)(J:Addr->Prop)(d:D)(Q:VK):Prop:=∀v H' J',Up H J H' J'->Rp K H' J' v d->Q v H'
def zn5 (H:Hp)(J:Addr->Prop)(d:D)(Q:VK):Prop:=∀v H' J',Up H J H' J'->RpW K H' J' v d->Q v H'
def ziL (H:Hp)(J:Addr->Prop)(ds:List D)(Q:VK):Prop:=∀p vs H' J',Up H J H' J'->H p=none->¬J' p->H' p=some (.lst vs)->RpL K H' J' vs ds->Q (.ref p) H'
def zk8 (H:Hp)(J:Addr->Prop)(b:Bool)(Q:Bool->Hp->Prop):Prop:=∀H' J',Up H J H' J'->Q b H'
def zn6 (H:Hp)(J:Addr->Prop)(ds:List D)(Q:List V->Hp->Prop):Prop:=∀vs H' J',Up H J H' J'->RpL K H' J' vs ds->Q vs H'
def GoE (t:TE)(f:FE):Prop:=∀Hz Jz O ρ σ H J d Q,ST K Hz Jz O ρ σ H J->f ρ=some d->zgw K H J d Q->t σ H Q
def GoW (t:TE)(f:FE):Prop:=∀Hz Jz O ρ σ H J d Q,ST K Hz Jz O ρ σ H J->f ρ=some d->zn5 K H J d Q->t σ H Q
def GoN (t:TE)(f:FA):Prop:=∀Hz Jz O ρ σ H J d Q,ST K Hz Jz O ρ σ H J->f ρ=some d->ziL K H J d Q->t σ H Q
def GoT (t:TT)(f:FT):Prop:=∀Hz Jz O ρ σ H J b Q,ST K Hz Jz O ρ σ H J->f ρ=some b->zk8 H J b Q->t σ H Q
def GoA (t:TA)(f:FA):Prop:=∀Hz Jz O ρ σ H J ds Q,ST K Hz Jz O ρ σ H J->f ρ=some ds->zn6 K H J ds Q->t σ H Q
end
def VE (X:Cx)(e:Expr)(f:FE):Prop:=∃t,PE X e t/\GoE X.K t f
def VW (X:Cx)(e:Expr)(f:FE):Prop:=∃t,PE X e t/\GoW X.K t f
def VN (X:Cx)(e:Expr)(f:FA):Prop:=∃t,PE X e t/\GoN X.K t f
def VT (X:Cx)(e:Expr)(f:FT):Prop:=∃t,PT X e t/\GoT X.K t f
def VP (X:Cx)(e:Expr)(f:FT):Prop:=∃t,PW X e t/\GoT X.K t f
def VA (X:Cx)(es:List Expr)(f:FA):Prop:=∃t,PA X es t/\GoA X.K t f
def RpWL (K:W.Frag)(H:Hp)(J:Addr->Prop):List V->List D->Prop
 | [],[]=>True
 | v::vs,d::ds=>RpW K H J v d/\RpWL K H J vs ds
 | _,_=>False
def GoAW (K:W.Frag)(t:TA)(f:FA):Prop:=∀Hz Jz O ρ σ H J ds Q,ST K Hz Jz O ρ σ H J->f ρ=some ds->(∀vs H' J',Up H J H' J'->RpWL K H' J' vs ds->Q vs H')->t σ H Q
def VAW (X:Cx)(es:List Expr)(f:FA):Prop:=∃t,PA X es t/\GoAW X.K t f
theorem RpW.up {K:W.Frag}{H H':Hp}{J J':Addr->Prop}{v:V}{d:D}(h:RpW K H J v d)(u:Up H J H' J'):RpW K H' J' v d:=by
 rcases h with h | ⟨A,h⟩
 ·exact .inl (h.keep u.keep)
 ·exact .inr ⟨A,h.keep u.keep fun b _ o=>u.same b o⟩
section
variable {X:Cx}{a b c e:Expr}{es rest:List Expr}{fa fb:FE}{ft fu:FT}{fl:FA}{pos p:Pos}
theorem VE.w (h:VE X a fa):VW X a fa:=by
 obtain⟨t,p,g⟩:=h;exact⟨t,p,fun Hz Jz O ρ σ H J d Q s e w=>g Hz Jz O ρ σ H J d Q s e fun v H' J' u r=>w v H' J' u (.inl r)⟩
def eVar (i:Nat):FE:=fun ρ=>match ρ[i]? with | some (.val d)=>some d | _=>none
def eRd (i:Nat):FE:=fun ρ=>match ρ[i]? with | some (.val d)=>some d | some (.own 1 d)=>some d | some (.par 1 d)=>some d | _=>none
theorem zk9 {K:W.Frag}{i:Nat}:GoE K (tVar i) (eVar i):=by
 intro Hz Jz O ρ σ H J d Q s e w;unfold eVar at e;split at e
 ·rename_i d' q
  cases e;obtain⟨v,hv,r⟩:=s.vl i _ q;exact⟨v,hv,w v H J (Up.refl s.ja) r⟩
 ·cases e
theorem ST.rd {K:W.Frag}{Hz H:Hp}{Jz J:Addr->Prop}{O:Pr}{ρ:En}{σ:L2.St}{i n:Nat}{d:D}(s:ST K Hz Jz O ρ σ H J)(h:ownD (ρ[i]?)=some (n,d)):∃v A,σ[i]?=some (some v)/\RpU K H J n v d A:=by
 obtain⟨v,A,h1,h2,_⟩:=s.chg h;exact⟨v,A,h1,h2⟩
theorem zpm {K:W.Frag}{i:Nat}:GoW K (tVar i) (eRd i):=by
 intro Hz Jz O ρ σ H J d Q s e w;unfold eRd at e;split at e
 ·rename_i d' q
  cases e;obtain⟨v,hv,r⟩:=s.vl i _ q;exact⟨v,hv,w v H J (Up.refl s.ja) (.inl r)⟩
 ·rename_i d' q
  cases e;obtain⟨v,A,hv,r⟩:=s.rd (i:=i) (n:=1) (d:=d) (by rw[q];rfl);exact⟨v,hv,w v H J (Up.refl s.ja) (.inr ⟨A,r⟩)⟩
 ·rename_i d' q
  cases e;obtain⟨v,A,hv,r⟩:=s.rd (i:=i) (n:=1) (d:=d) (by rw[q];rfl);exact⟨v,hv,w v H J (Up.refl s.ja) (.inr ⟨A,r⟩)⟩
 ·cases e
theorem vv (i:Nat){x:Str}{pos:Pos}(hN:X.N[i]?=some x:=by rfl)(hv:Vis X.env.scope x:=by first | exact Or.inl rfl | exact Or.inr (Or.inl rfl) | exact Or.inr (Or.inr rfl))(hd:(x == ("__debug__" : Str))=false:=by decide)
 (hcd:(x == ("__classdict__" : Str))=false:=by decide):VE X (.Name x pos) (eVar i):=⟨_,zb0 hN hv hd hcd,zk9⟩
theorem vr (i:Nat){x:Str}{pos:Pos}(hN:X.N[i]?=some x:=by rfl)(hv:Vis X.env.scope x:=by first | exact Or.inl rfl | exact Or.inr (Or.inl rfl) | exact Or.inr (Or.inr rfl))(hd:(x == ("__debug__" : Str))=false:=by decide)
 (hcd:(x == ("__classdict__" : Str))=false:=by decide):VW X (.Name x pos) (eRd i):=⟨_,zb0 hN hv hd hcd,zpm⟩
theorem vvC (i:Nat){X:Cx}{scope:Scope}{cl:List (Str×Addr)}{NC:List Str}{C:Addr}{s0:Shared}{H0:Hp}{ex:List Addr}{pn:List (Addr×Obj)}{x:Str}{pos:Pos}(hi:NC[i]?=some x)(hfk:X.env.scope.kind=.function)
 (h1:scope.names.lookup x=some .free) (h2:X.env.scope.names.lookup x=some .cell) (hd:(x == ("__debug__" : Str))=false:=by decide) (hcd:(x == ("__classdict__" : Str))=false:=by decide):VE (cxC X scope cl NC C s0 H0 ex pn) (.Name x pos) (eVar i):=
 ⟨_,pvC i hi hfk h1 h2 hd hcd,zk9⟩
def eK (d:D):FE:=fun _=>some d
theorem go_c {K:W.Frag}{v:V}{d:D}(h:∀H J,Rp K H J v d):GoE K (tC v) (eK d):=by
 intro Hz Jz O ρ σ H J d' Q s e w;cases e;exact w v H J (Up.refl s.ja) (h H J)
theorem zag {i j pos}:VE X (.Constant (.int i) j pos) (eK (.int i)):=⟨_,znw,go_c fun _ _=>.int i⟩
theorem ziM {i j pos}:VE X (.Constant (.bool i) j pos) (eK (.bl i)):=⟨_,zo7,go_c fun _ _=>.bl i⟩
theorem zav {i j pos}:VE X (.Constant (.str i) j pos) (eK (.str i)):=⟨_,zny,go_c fun _ _=>.str i⟩
theorem zc8 {j pos}:VE X (.Constant .none j pos) (eK .non):=⟨_,znx,go_c fun _ _=>.non⟩
structure GlobD (K:W.Frag)(mg:Str->Option Value)(x:Str)(d:D):Prop where
 ex:∃u v,mg x=some u/\RelV v u/\∀H J,Rp K H J v d
theorem zaC {x:Str}{d:D}{pos:Pos}(G:GlobD X.K X.mg x d)(hg:Gl X x:=by rfl)(hd:(x == ("__debug__" : Str))=false:=by decide):VE X (.Name x pos) (eK d):=by
 obtain⟨u,v,h1,h2,h3⟩:=G.ex;exact⟨_,zic hg h1 h2 hd,go_c h3⟩
def e2 (F:D->D->Option D)(f g:FE):FE:=fun ρ=>(f ρ).bind fun x=>(g ρ).bind fun y=>F x y
def e1 (F:D->Option D)(f:FE):FE:=fun ρ=>(f ρ).bind F
theorem bind_some {α β:Type}{o:Option α}{f:α->Option β}{b:β}(h:o.bind f=some b):∃a,o=some a/\f a=some b:=by
 cases o with
 | none=>cases h
 | some a=>exact⟨a,rfl,h⟩
def Im2 (K:W.Frag)(r:R2)(F:D->D->Option D):Prop:=∀H J x y d e d' Q,(∀a,J a->H a≠none)->RpW K H J x d->RpW K H J y e->F d e=some d'->zgw K H J d' Q->r x y H Q
theorem zkd {K:W.Frag}{r:R2}{F:D->D->Option D}{ta tb:TE}(im:Im2 K r F)(ga:GoW K ta fa)(gb:GoW K tb fb):GoE K (tOp r ta tb) (e2 F fa fb):=by
 intro Hz Jz O ρ σ H J d Q s e w;obtain⟨x,ex,e⟩:=bind_some e;obtain⟨y,ey,e⟩:=bind_some e;refine ga Hz Jz O ρ σ H J x _ s ex fun v1 H1 J1 u1 r1=>?_
 refine gb Hz Jz O ρ σ H1 J1 y _ (s.up u1) ey fun v2 H2 J2 u2 r2=>?_
 exact im H2 J2 v1 v2 x y d Q u2.ja (r1.up u2) r2 e fun v3 H3 J3 u3 r3=>w v3 H3 J3 (u1.trans (u2.trans u3)) r3
theorem zaZ {op:Operator}{r:R2}{F:D->D->Option D}(ho:OpR X (binaryOp op) r)(im:Im2 X.K r F)(ha:VW X a fa)(hb:VW X b fb):VE X (.BinOp a op b pos) (e2 F fa fb):=by
 obtain⟨ta,pa,ga⟩:=ha;obtain⟨tb,pb,gb⟩:=hb;exact⟨_,znH ho pa pb,zkd im ga gb⟩
theorem ziN {op:CmpOp}{r:R2}{F:D->D->Option D}(ho:OpR X (compareOp op) r)(im:Im2 X.K r F)(ha:VW X a fa)(hb:VW X b fb)(hm:behindInMarks op b=false):VE X (.Compare a [op] [b] pos) (e2 F fa fb):=by
 obtain⟨ta,pa,ga⟩:=ha;obtain⟨tb,pb,gb⟩:=hb;exact⟨_,zlJ ho pa pb hm,zkd im ga gb⟩
def dB:D->Option Bool
 | .bl b=>some b
 | _=>none
def t1 (f:FE):FT:=fun ρ=>(f ρ).bind dB
theorem zl9 {K:W.Frag}{t:TE}{f:FE}(g:GoE K t f):GoT K (znL t) (t1 f):=by
 intro Hz Jz O ρ σ H J d Q s e w;obtain⟨x,ex,e⟩:=bind_some e;refine g Hz Jz O ρ σ H J x _ s ex fun v H1 J1 u1 r1=>?_
 cases x with
 | bl k=>cases e;cases r1;exact⟨_,rfl,w H1 J1 u1⟩
 | _=>cases e
theorem zaM {op:CmpOp}{r:R2}{F:D->D->Option D}(ho:OpR X (compareOp op) r)(im:Im2 X.K r F)(ha:VW X a fa)(hb:VW X b fb)(hm:behindInMarks op b=false):VT X (.Compare a [op] [b] pos) (t1 (e2 F fa fb)):=by
 obtain⟨ta,pa,ga⟩:=ha;obtain⟨tb,pb,gb⟩:=hb;exact⟨_,zlK ho pa pb hm,zl9 (zkd im ga gb)⟩
def e3 (F G:D->D->Option D)(f g h:FE):FE:=fun ρ=>(f ρ).bind fun x=>(g ρ).bind fun y=>(F x y).bind fun z=>(dB z).bind fun k=>if k then(h ρ).bind fun w=>G y w else some (.bl false)
def dTru:D->Option Bool
 | .non=>some false
 | .bl b=>some b
 | .int i=>some (i != 0)
 | .str x=>if x.length<=lim then some ((x.length:Int) != 0) else none
 | .tup ds=>some (!ds.isEmpty)
 | .lst ds=>some (!ds.isEmpty)
 | .dct ks _=>some (!ks.isEmpty)
 | .scr _=>none
def tT (f:FE):FT:=fun ρ=>(f ρ).bind dTru
theorem zei {α β:Type}{xs:List α}{ys:List β}(h:xs.length=ys.length):xs.isEmpty=ys.isEmpty:=by
 cases xs <;> cases ys <;> first | rfl | cases h
theorem zn7 {K:W.Frag}{H:Hp}{J:Addr->Prop}{v:V}{d:D}{k:Bool}(r:RpW K H J v d)(h:dTru d=some k):TruV K v H k:=by
 cases d with
 | non=>rw[r.non];cases h;rfl
 | bl b=>rw[r.bl];cases h;rfl
 | int b=>rw[r.int];cases h;rfl
 | str x=>
   rw[r.str];have h:(if x.length<=lim then some ((x.length:Int) != 0) else none)=some k:=h
   by_cases e:x.length<=lim
   ·rw[if_pos e] at h;cases h;exact⟨zcr e,rfl⟩
   ·rw[if_neg e] at h;cases h
 | tup ds=>obtain⟨p,vs,rfl,h1,h2⟩:=r.tup;cases h;exact .inr (.inl ⟨vs,h1,by rw[zei h2.length]⟩)
 | lst ds=>obtain⟨p,vs,rfl,h1,h2⟩:=r.lst;cases h;exact .inl ⟨vs,SqL.of h1,by rw[zei h2.length]⟩
 | scr p=>cases h
 | dct ks ds=>
   obtain⟨p,kvs,vs,rfl,h1,h2,h3,h4⟩:=r.dct;cases h;refine .inr (.inr ⟨kvs,h1,?_⟩);rw[<-h2];cases kvs <;> rfl
theorem zcs (ha:VW X a fa)(he:∀whole,isTrue a X.env whole=(do let v <-whole;standAt a.pos;holding [v] (truthy v)):=by intro _;rfl):VT X a (tT fa):=by
 obtain⟨ta,pa,ga⟩:=ha;refine⟨_,zjZ pa he,?_⟩;intro Hz Jz O ρ σ H J d Q s e w;obtain⟨x,ex,e⟩:=bind_some e;refine ga Hz Jz O ρ σ H J x _ s ex fun v H1 J1 u1 r1=>?_
 exact⟨d,zn7 r1 e,w H1 J1 u1⟩
def tAndF (f g:FT):FT:=fun ρ=>(f ρ).bind fun k=>if k then g ρ else some false
def tOrF (f g:FT):FT:=fun ρ=>(f ρ).bind fun k=>if k then some true else g ρ
def tNotF (f:FT):FT:=fun ρ=>(f ρ).bind fun k=>some (!k)
theorem zn8 {K:W.Frag}{t u:TT}(g1:GoT K t ft)(g2:GoT K u fu):GoT K (tAnd t u) (tAndF ft fu):=by
 intro Hz Jz O ρ σ H J d Q s e w;obtain⟨k,ek,e⟩:=bind_some e;refine g1 Hz Jz O ρ σ H J k _ s ek fun H1 J1 u1=>?_
 cases k with
 | true=>exact iteT (g2 Hz Jz O ρ σ H1 J1 d Q (s.up u1) e fun H2 J2 u2=>w H2 J2 (u1.trans u2))
 | false=>have e':some false=some d:=e;cases e';exact iteF (w H1 J1 u1)
theorem zpn {K:W.Frag}{t u:TT}(g1:GoT K t ft)(g2:GoT K u fu):GoT K (tOr t u) (tOrF ft fu):=by
 intro Hz Jz O ρ σ H J d Q s e w;obtain⟨k,ek,e⟩:=bind_some e;refine g1 Hz Jz O ρ σ H J k _ s ek fun H1 J1 u1=>?_
 cases k with
 | true=>have e':some true=some d:=e;cases e';exact iteT (w H1 J1 u1)
 | false=>exact iteF (g2 Hz Jz O ρ σ H1 J1 d Q (s.up u1) e fun H2 J2 u2=>w H2 J2 (u1.trans u2))
theorem zma (h:VT X a ft):VP X (.BoolOp .And [a] pos) ft:=let ⟨t,p,g⟩:=h;⟨t,zlD p,g⟩
theorem zla (h:VT X a ft):VP X (.BoolOp .Or [a] pos) ft:=let ⟨t,p,g⟩:=h;⟨t,znz p,g⟩
theorem zn9 (h:VT X a ft)(h2:VP X (.BoolOp .And (b::rest) pos) fu):VP X (.BoolOp .And (a::b::rest) pos) (tAndF ft fu):=let ⟨_,p,g⟩:=h;let ⟨_,p2,g2⟩:=h2;⟨_,znA p p2,zn8 g g2⟩
theorem zmb (h:VT X a ft)(h2:VP X (.BoolOp .Or (b::rest) pos) fu):VP X (.BoolOp .Or (a::b::rest) pos) (tOrF ft fu):=let ⟨_,p,g⟩:=h;let ⟨_,p2,g2⟩:=h2;⟨_,zo8 p p2,zpn g g2⟩
theorem VP.t (h:VP X a ft):VT X a ft:=let ⟨t,p,g⟩:=h;⟨t,p.pt,g⟩
theorem zfY (h:VT X a ft):VT X (.UnaryOp .Not a pos) (tNotF ft):=by
 obtain⟨t,p,g⟩:=h;refine⟨_,znB p,?_⟩;intro Hz Jz O ρ σ H J d Q s e w;obtain⟨k,ek,e⟩:=bind_some e;cases e;exact g Hz Jz O ρ σ H J k _ s ek fun H1 J1 u1=>w H1 J1 u1
def eNot (f:FE):FE:=fun ρ=>(t1 f ρ).bind fun k=>some (.bl (!k))
theorem ziO (h:VE X a fa):VE X (.UnaryOp .Not a pos) (eNot fa):=by
 obtain⟨t,p,g⟩:=h;refine⟨_,znC p,?_⟩;intro Hz Jz O ρ σ H J d Q s e w;obtain⟨k,ek,e⟩:=bind_some e;obtain⟨x,ex,ek⟩:=bind_some ek;refine g Hz Jz O ρ σ H J x _ s ex fun v H1 J1 u1 r1=>?_
 cases x with
 | bl k'=>
   have ek':k'=k:=Option.some.inj ek
   subst ek';cases r1;cases e;exact⟨_,rfl,w _ H1 J1 u1 (.bl _)⟩
 | _=>cases ek
def eIf (c:FT)(f g:FE):FE:=fun ρ=>(c ρ).bind fun k=>if k then f ρ else g ρ
theorem zgx (hc:VT X c ft)(ha:VE X a fa)(hb:VE X b fb):VE X (.IfExp c a b pos) (eIf ft fa fb):=by
 obtain⟨t,p,g⟩:=hc;obtain⟨ta,pa,ga⟩:=ha;obtain⟨tb,pb,gb⟩:=hb;refine⟨_,zjT p pa pb,?_⟩;intro Hz Jz O ρ σ H J d Q s e w;obtain⟨k,ek,e⟩:=bind_some e;refine g Hz Jz O ρ σ H J k _ s ek fun H1 J1 u1=>?_
 cases k with
 | true=>exact iteT (ga Hz Jz O ρ σ H1 J1 d Q (s.up u1) e fun v2 H2 J2 u2 r2=>w v2 H2 J2 (u1.trans u2) r2)
 | false=>exact iteF (gb Hz Jz O ρ σ H1 J1 d Q (s.up u1) e fun v2 H2 J2 u2 r2=>w v2 H2 J2 (u1.trans u2) r2)
def aNil:FA:=fun _=>some []
def aCons (f:FE)(g:FA):FA:=fun ρ=>(f ρ).bind fun x=>(g ρ).bind fun xs=>some (x::xs)
theorem zae:VA X [] aNil:=⟨_,zco,fun Hz Jz O ρ σ H J ds Q s e w=>by cases e;exact w [] H J (Up.refl s.ja) .nil⟩
theorem zaa (ha:VE X e fa)(hr:VA X es fl)(hs:starEach (e::es) X.env=(false,eval e X.env)::starEach es X.env:=by rfl):VA X (e::es) (aCons fa fl):=by
 obtain⟨t,p,g⟩:=ha;obtain⟨t2,p2,g2⟩:=hr;refine⟨_,zbb p p2 hs,?_⟩;intro Hz Jz O ρ σ H J ds Q s e w;obtain⟨x,ex,e⟩:=bind_some e;obtain⟨xs,exs,e⟩:=bind_some e;cases e;refine g Hz Jz O ρ σ H J x _ s ex fun v1 H1 J1 u1 r1=>?_
 refine g2 Hz Jz O ρ σ H1 J1 xs _ (s.up u1) exs fun vs H2 J2 u2 r2=>?_
 exact w _ H2 J2 (u1.trans u2) (.cons (r1.keep u2.keep) r2)
theorem zbH:VAW X [] aNil:=⟨_,zco,fun Hz Jz O ρ σ H J ds Q s e w=>by cases e;exact w [] H J (Up.refl s.ja) trivial⟩
theorem zaQ (ha:VW X e fa)(hr:VAW X es fl)(hs:starEach (e::es) X.env=(false,eval e X.env)::starEach es X.env:=by rfl):VAW X (e::es) (aCons fa fl):=by
 obtain⟨t,p,g⟩:=ha;obtain⟨t2,p2,g2⟩:=hr;refine⟨_,zbb p p2 hs,?_⟩;intro Hz Jz O ρ σ H J ds Q s e w;obtain⟨x,ex,e⟩:=bind_some e;obtain⟨xs,exs,e⟩:=bind_some e;cases e;refine g Hz Jz O ρ σ H J x _ s ex fun v1 H1 J1 u1 r1=>?_
 refine g2 Hz Jz O ρ σ H1 J1 xs _ (s.up u1) exs fun vs H2 J2 u2 r2=>?_
 exact w _ H2 J2 (u1.trans u2) ⟨r1.up u2,r2⟩
def eTup (f:FA):FE:=fun ρ=>(f ρ).bind mkT
theorem zbr {x1}(h:VA X es fl):VE X (.Tuple es x1 pos) (eTup fl):=by
 obtain⟨t,p,g⟩:=h;refine⟨_,zk3 p,?_⟩;intro Hz Jz O ρ σ H J d Q s e w;obtain⟨xs,exs,e⟩:=bind_some e;obtain⟨hl,rfl⟩:=zfm e;refine g Hz Jz O ρ σ H J xs _ s exs fun vs H1 J1 u1 r1=>⟨by rw[r1.length];exact zcr hl,fun p hp=>?_⟩
 have un:=Up.new u1.ja hp (.tup vs)
 exact w _ _ _ (u1.trans un) (.tup (SqT.of zai) (r1.keep un.keep))
def aMk (f:FA):FA:=fun ρ=>(f ρ).bind fun ds=>if ds.length<=lim then some ds else none
theorem zke {f:FA}{ρ:En}{ds:List D}(h:aMk f ρ=some ds):f ρ=some ds/\ds.length<=lim:=by
 obtain⟨xs,e1,e2⟩:=bind_some h;by_cases hl:xs.length<=lim
 ·rw[if_pos hl] at e2;cases e2;exact⟨e1,hl⟩
 ·rw[if_neg hl] at e2;cases e2
theorem za6 (h:VA X es fl):VN X (.List es pos) (aMk fl):=by
 obtain⟨t,p,g⟩:=h;refine⟨_,znO p,?_⟩;intro Hz Jz O ρ σ H J ds Q s e w;obtain⟨e1,hl⟩:=zke e;refine g Hz Jz O ρ σ H J ds _ s e1 fun vs H1 J1 u1 r1=>⟨by rw[r1.length];exact zcr hl,fun p hp=>?_⟩
 have un:=Up.new u1.ja hp (.lst vs)
 exact w p vs _ J1 (u1.trans un) (u1.same.free hp) (fun j=>u1.ja p j hp) zai (r1.keep un.keep)
def eL (f:FA):FE:=fun ρ=>(f ρ).bind fun ds=>some (.lst ds)
theorem zlb {K:W.Frag}{t:TE}{f:FA}(g:GoN K t f):GoE K t (eL f):=by
 intro Hz Jz O ρ σ H J d Q s e w;obtain⟨ds,e1,e⟩:=bind_some e;cases e;refine g Hz Jz O ρ σ H J ds _ s e1 fun p vs H1 J1 u1 hp nj h1 r1=>?_
 have kp:Keep K H1 J1 H1 (fun a=>J1 a\/a=p):=⟨fun _ h=>.inl h,fun _ _ _ h=>h,fun _ _ h=>h⟩
 refine w (.ref p) H1 (fun a=>J1 a\/a=p) ⟨u1.same,fun a h=>.inl (u1.jj a h),fun a h=>?_,fun a h=>?_⟩ (.lst h1 (.inr rfl) (r1.keep kp))
 ·rcases h with h | rfl
  ·exact u1.jn a h
  ·exact .inr hp
 ·rcases h with h | rfl
  ·exact u1.ja a h
  ·rw[h1];simp
theorem VN.ve {f:FA}(h:VN X a f):VE X a (eL f):=let ⟨_,p,g⟩:=h;⟨_,p,zlb g⟩
def spF (K:W.Frag)(F:List D->Option D):Sp:=fun vs H Q _=>∃J ds d,(∀a,J a->H a≠none)/\RpL K H J vs ds/\F ds=some d/\zgw K H J d Q
def eCall (F:List D->Option D)(f:FA):FE:=fun ρ=>(f ρ).bind F
theorem zal {k k':Nat}{x:Str}{ps:List Str}{F:List D->Option D}(C:Cal X.prog X.w X.K X.mg X.base k x ps (spF X.K F))(hr:Room k' X.A)(ha:VA X (e::es) fl)(hk:k<=k':=by decide)(hg:Gl X x:=by rfl)(hdb:(x == ("__debug__" : Str))=false:=by decide)
 (he:starEach (e::es) X.env=(false,eval e X.env)::starEach es X.env:=by rfl) (hpl:(backTo pos (starEach es X.env)).any (·.1)=false:=by rfl):VE X (.Call (.Name x p) (e::es) [] pos) (eCall F fl):=by
 obtain⟨t,p,g⟩:=ha;refine⟨_,pc C hr p hk hg hdb he hpl,?_⟩;intro Hz Jz O ρ σ H J d Q s e w;obtain⟨ds,e1,e⟩:=bind_some e;refine g Hz Jz O ρ σ H J ds _ s e1 fun vs H1 J1 u1 r1=>?_
 refine⟨J1,ds,d,u1.ja,by rw[List.append_nil];exact r1,e,fun v H2 J2 u2 r2=>w v H2 J2 (u1.trans u2) r2⟩
def ImC (K:W.Frag)(r:List V->Hp->VK->Prop)(F:List D->Option D):Prop:=∀H J vs ds d Q,(∀a,J a->H a≠none)->RpWL K H J vs ds->F ds=some d->zgw K H J d Q->r vs H Q
theorem zoa {K:W.Frag}{r:List V->Hp->VK->Prop}{F:List D->Option D}{t:TA}(im:ImC K r F)(g:GoAW K t fl):GoE K (tCB r t) (eCall F fl):=by
 intro Hz Jz O ρ σ H J d Q s e w;obtain⟨ds,e1,e⟩:=bind_some e;refine g Hz Jz O ρ σ H J ds _ s e1 fun vs H1 J1 u1 r1=>?_
 exact im H1 J1 vs ds d Q u1.ja r1 e fun v H2 J2 u2 r2=>w v H2 J2 (u1.trans u2) r2
theorem ve_b {id:String}{x:Str}{r:List V->Hp->VK->Prop}{F:List D->Option D}(hc:zb7 X (.builtin id) r)(im:ImC X.K r F)(B:Blt X.mg)(hv:bootBuiltins x=some (.builtin id))(ha:VAW X (e::es) fl)(hB:x∈zbO:=by decide +kernel)(hg:Gl X x:=by rfl)(hn:x≠"__name__":=by decide)(hdb:(x == ("__debug__" : Str))=false:=by decide)
 (he:starEach (e::es) X.env=(false,eval e X.env)::starEach es X.env:=by rfl) (hpl:(backTo pos (starEach es X.env)).any (·.1)=false:=by rfl):VE X (.Call (.Name x p) (e::es) [] pos) (eCall F fl):=by
 obtain⟨t,p,g⟩:=ha;exact⟨_,pb hc B hv p hB hg hn hdb he hpl,zoa im g⟩
theorem zob {T:String}{x:Str}{r:List V->Hp->VK->Prop}{F:List D->Option D}(hc:zb7 X (.type T) r)(im:ImC X.K r F)(B:Blt X.mg)(hv:bootBuiltins x=some (.type T))(ha:VAW X (e::es) fl)(hB:x∈zbO:=by decide +kernel)(hg:Gl X x:=by rfl)(hn:x≠"__name__":=by decide)(hdb:(x == ("__debug__" : Str))=false:=by decide)
 (he:starEach (e::es) X.env=(false,eval e X.env)::starEach es X.env:=by rfl) (hpl:(backTo pos (starEach es X.env)).any (·.1)=false:=by rfl):VE X (.Call (.Name x p) (e::es) [] pos) (eCall F fl):=by
 obtain⟨t,p,g⟩:=ha;exact⟨_,pty hc B hv p hB hg hn hdb he hpl,zoa im g⟩
end
section
variable {K:W.Frag}{X:Cx}
def dAdd:D->D->Option D
 | .int i,.int j=>some (.int (i+j))
 | .str x,.str y=>if x.length+y.length<=lim then some (.str (x++y)) else none
 | .lst xs,.lst ys=>mkL (xs++ys)
 | .tup xs,.tup ys=>if ys = [] then none else mkT (xs++ys)
 | _,_=>none
def zoc (K:W.Frag):R2:=fun x y H Q=>(rI0 fun i j=>.int (i+j)) x y H Q\/(∃i j,x=.str i/\y=.str j/\i.length+j.length<=sizeLine/\Q (.str (i++j)) H)\/rCat x y H Q\/znX K x y H Q
theorem zcn:OpR X (binaryOp .Add) (zoc X.K):=op_add.or (op_add_str.or (op_cat.or zl0))
theorem zbl:Im2 K (zoc K) dAdd:=by
 intro H J x y d e d' Q ja hx hy hF w;match d,e,hF with
 | .int i,.int j,hF=>
   cases hF;rw[hx.int,hy.int];exact .inl ⟨i,j,rfl,rfl,w _ H J (Up.refl ja) (.int _)⟩
 | .str a,.str b,hF=>
   have hF:(if a.length+b.length<=lim then some (D.str (a++b)) else none)=some d':=hF
   by_cases hl:a.length+b.length<=lim
   ·rw[if_pos hl] at hF;cases hF;rw[hx.str,hy.str];exact .inr (.inl ⟨a,b,rfl,rfl,zcr hl,w _ H J (Up.refl ja) (.str _)⟩)
   ·rw[if_neg hl] at hF;cases hF
 | .lst xs,.lst ys,hF=>
   have hF:mkL (xs++ys)=some d':=hF
   obtain⟨hl,rfl⟩:=zkc hF;obtain⟨p,vs,rfl,h1,r1⟩:=hx.lst;obtain⟨q,us,rfl,h2,r2⟩:=hy.lst;refine .inr (.inr (.inl ⟨p,q,vs,us,rfl,rfl,h1,h2,?_,fun c hc=>?_⟩))
   ·rw[r1.length,r2.length,<-List.length_append];exact zcr hl
   ·have un:=Up.newJ ja hc (.lst (vs++us))
    exact w _ _ _ un (.lst zai (.inr rfl) ((r1.append r2).keep un.keep))
 | .tup xs,.tup ys,hF=>
   have hF:(if ys = [] then none else mkT (xs++ys))=some d':=hF
   by_cases hy0:ys = []
   ·rw[if_pos hy0] at hF;cases hF
   ·rw[if_neg hy0] at hF;obtain⟨hl,rfl⟩:=zfm hF;obtain⟨p,vs,rfl,h1,r1⟩:=hx.tup;obtain⟨q,us,rfl,h2,r2⟩:=hy.tup;refine .inr (.inr (.inr ⟨p,q,vs,us,rfl,rfl,h1,h2,?_,?_,fun e=>?_,fun _ c hc=>?_⟩))
    ·rintro rfl;exact hy0 (List.length_eq_zero_iff.mp (by rw[<-r2.length];rfl))
    ·rw[r1.length,r2.length,<-List.length_append];exact zcr hl
    ·subst e;obtain rfl:xs = []:=List.length_eq_zero_iff.mp (by rw[<-r1.length];rfl);exact w _ H J (Up.refl ja) (.tup h2 r2)
    ·have un:=Up.new ja hc (.tup (vs++us))
     exact w _ _ _ un (.tup (SqT.of zai) ((r1.append r2).keep un.keep))
def dI (C:Int->Int->Prop)[∀i j,Decidable (C i j)](g:Int->Int->D):D->D->Option D
 | .int i,.int j=>if C i j then some (g i j) else none
 | _,_=>none
theorem im_I {C:Int->Int->Prop}[∀i j,Decidable (C i j)]{g:Int->Int->V}{g':Int->Int->D}(hg:∀i j H J,Rp K H J (g i j) (g' i j)):Im2 K (rI C g) (dI C g'):=by
 intro H J x y d e d' Q ja hx hy hF w;match d,e,hF with
 | .int i,.int j,hF=>
   have hF:(if C i j then some (g' i j) else none)=some d':=hF
   by_cases hc:C i j
   ·rw[if_pos hc] at hF;cases hF;rw[hx.int,hy.int];exact⟨i,j,rfl,rfl,hc,w _ H J (Up.refl ja) (hg i j H J)⟩
   ·rw[if_neg hc] at hF;cases hF
def dI0 (g:Int->Int->D):D->D->Option D
 | .int i,.int j=>some (g i j)
 | _,_=>none
theorem zkf {g:Int->Int->V}{g':Int->Int->D}(hg:∀i j H J,Rp K H J (g i j) (g' i j)):Im2 K (rI0 g) (dI0 g'):=by
 intro H J x y d e d' Q ja hx hy hF w;match d,e,hF with
 | .int i,.int j,hF=>
   cases hF;rw[hx.int,hy.int];exact⟨i,j,rfl,rfl,w _ H J (Up.refl ja) (hg i j H J)⟩
instance (i j:Int):Decidable (CMul i j):=by unfold CMul;infer_instance
instance (i j:Int):Decidable (CDiv i j):=by unfold CDiv;infer_instance
instance (i j:Int):Decidable (CPow i j):=by unfold CPow;infer_instance
def dSub:=dI0 fun i j=>.int (i - j)
def dFdiv:=dI CDiv fun i j=>.int (i / j)
def dMod:=dI (fun _ j=>0<j) fun i j=>.int (i % j)
def dPow:=dI CPow fun i j=>.int (i ^ j.toNat)
def dLt:=dI0 fun i j=>.bl (decide (i<j))
def dGt:=dI0 fun i j=>.bl (decide (j<i))
def dGe:=dI0 fun i j=>.bl (decide (j<=i))
theorem zg9:Im2 K (rI0 fun i j=>.int (i - j)) dSub:=zkf fun _ _ _ _=>.int _
theorem zmc:Im2 K (rI CDiv fun i j=>.int (i / j)) dFdiv:=im_I fun _ _ _ _=>.int _
theorem zc9:Im2 K (rI (fun _ j=>0<j) fun i j=>.int (i % j)) dMod:=im_I fun _ _ _ _=>.int _
theorem zlc:Im2 K (rI CPow fun i j=>.int (i ^ j.toNat)) dPow:=im_I fun _ _ _ _=>.int _
theorem zod:Im2 K (rI0 fun i j=>.bl (decide (i<j))) dLt:=zkf fun _ _ _ _=>.bl _
theorem zpo:Im2 K (rI0 fun i j=>.bl (decide (j<i))) dGt:=zkf fun _ _ _ _=>.bl _
theorem zpp:Im2 K (rI0 fun i j=>.bl (decide (j<=i))) dGe:=zkf fun _ _ _ _=>.bl _
def dMul:D->D->Option D
 | .int i,.int j=>if CMul i j then some (.int (i*j)) else none
 | .str z,.int n=>if -1000<=n/\n<=1000/\z.length<=1000 then some (.str (Txt.mul z n)) else none
 | .lst xs,.int k=>if 0<=k/\k<=1000/\xs.length<=1000 then some (.lst (List.replicate k.toNat xs).flatten) else none
 | _,_=>none
def zoe:R2:=fun x y H Q=>(rI CMul fun i j=>.int (i*j)) x y H Q\/(∃z n,x=.str z/\y=.int n/\-1000<=n/\n<=1000/\z.length<=1000/\Q (.str (Txt.mul z n)) H)\/rRep x y H Q
theorem zhS:OpR X (binaryOp .Mult) zoe:=op_mul.or (op_rep_str.or znU)
theorem RpL.rep {H:Hp}{J:Addr->Prop}{vs:List V}{ds:List D}(r:RpL K H J vs ds):∀n:Nat,RpL K H J (List.replicate n vs).flatten (List.replicate n ds).flatten
 | 0=>.nil
 | n+1=>by
   rw[List.replicate_succ,List.replicate_succ,List.flatten_cons,List.flatten_cons];exact r.append (RpL.rep r n)
theorem zeZ:Im2 K zoe dMul:=by
 intro H J x y d e d' Q ja hx hy hF w;match d,e,hF with
 | .int i,.int j,hF=>
   have hF:(if CMul i j then some (D.int (i*j)) else none)=some d':=hF
   by_cases hc:CMul i j
   ·rw[if_pos hc] at hF;cases hF;rw[hx.int,hy.int];exact .inl ⟨i,j,rfl,rfl,hc,w _ H J (Up.refl ja) (.int _)⟩
   ·rw[if_neg hc] at hF;cases hF
 | .str z,.int n,hF=>
   have hF:(if -1000<=n/\n<=1000/\z.length<=1000 then some (D.str (Txt.mul z n)) else none)=some d':=hF
   by_cases hc:-1000<=n/\n<=1000/\z.length<=1000
   ·rw[if_pos hc] at hF;cases hF;rw[hx.str,hy.int];exact .inr (.inl ⟨z,n,rfl,rfl,hc.1,hc.2.1,hc.2.2,w _ H J (Up.refl ja) (.str _)⟩)
   ·rw[if_neg hc] at hF;cases hF
 | .lst xs,.int n,hF=>
   have hF:(if 0<=n/\n<=1000/\xs.length<=1000 then some (D.lst (List.replicate n.toNat xs).flatten) else none)=some d':=hF
   by_cases hc:0<=n/\n<=1000/\xs.length<=1000
   ·rw[if_pos hc] at hF;cases hF;obtain⟨p,vs,rfl,h1,r1⟩:=hx.lst;rw[hy.int];refine .inr (.inr ⟨p,n,vs,rfl,rfl,h1,by omega,by omega,?_,fun c hc=>?_⟩)
    ·rw[r1.length];have h1:xs.length*n.toNat<=1000*1000:=Nat.mul_le_mul hc.2.2 (by omega)
     exact Nat.le_trans h1 (by decide)
    ·have un:=Up.newJ ja hc (.lst (List.replicate n.toNat vs).flatten)
     exact w _ _ _ un (.lst zai (.inr rfl) ((r1.rep _).keep un.keep))
   ·rw[if_neg hc] at hF;cases hF
def dV:D->V
 | .non=>.non
 | .bl b=>.bl b
 | .int i=>.int i
 | .str x=>.str x
 | _=>.ty ""
def zgy:D->Bool
 | .non=>true
 | .bl _=>true
 | .int _=>true
 | .str _=>true
 | _=>false
def zaS:D->Bool
 | .non=>true
 | .int _=>true
 | .str _=>true
 | _=>false
theorem zej {d:D}(h:zaS d=true):zgy d=true:=by cases d <;> first | rfl | cases h
theorem Rp.flat {H:Hp}{J:Addr->Prop}{v:V}{d:D}(r:Rp K H J v d)(f:zgy d=true):v=dV d:=by
 cases r <;> first | rfl | cases f
theorem RpL.flat {H:Hp}{J:Addr->Prop}:∀{vs:List V}{ds:List D},RpL K H J vs ds->ds.all zgy=true->vs=ds.map dV
 | _,_,.nil,_=>rfl
 | _,_,.cons h t,f=>by
   rw[List.all_cons,Bool.and_eq_true] at f;rw[List.map_cons,h.flat f.1,RpL.flat t f.2]
theorem zcL {ds:List D}(h:ds.all zaS=true):ds.all zgy=true:=by
 rw[List.all_eq_true] at h⊢;exact fun d hd=>zej (h d hd)
theorem zfZ:∀{ds:List D},ds.all zgy=true->(ds.map dV).all zfj=true
 | [],_=>rfl
 | d::ds,h=>by
   rw[List.all_cons,Bool.and_eq_true] at h;rw[List.map_cons,List.all_cons,Bool.and_eq_true];refine⟨?_,zfZ h.2⟩;cases d <;> first | rfl | (cases h.1)
def cmpB:D->D->Bool
 | .lst xs,.lst ys=>xs.all zaS&&ys.all zaS
 | .tup xs,.tup ys=>xs.all zaS&&ys.all zaS
 | .bl _,.int _=>false
 | .int _,.bl _=>false
 | d,e=>zgy d&&zgy e
theorem zaA {p q:Prop}[Decidable p][Decidable q](h:p↔q):decide p=decide q:=by
 by_cases hp:p
 ·rw[decide_eq_true hp,decide_eq_true (h.mp hp)]
 ·rw[decide_eq_false hp,decide_eq_false (fun z=>hp (h.mpr z))]
def dIn (neg:Bool):D->D->Option D
 | x,.lst ds=>if zaS x=true/\ds.all zaS=true then some (.bl (if neg then !decide (x∈ds) else decide (x∈ds))) else none
 | x,.tup ds=>if zaS x=true/\ds.all zaS=true then some (.bl (if neg then !decide (x∈ds) else decide (x∈ds))) else none
 | _,_=>none
def dIs (neg:Bool):D->D->Option D
 | d,.non=>some (.bl (if neg then !decide (d=.non) else decide (d=.non)))
 | _,_=>none
theorem zmd {H:Hp}{J:Addr->Prop}{v:V}{d:D}(r:RpW K H J v d):v=.non↔d=.non:=by
 rcases r with r | ⟨A,r⟩
 ·cases r <;> simp
 ·cases r <;> simp
theorem ziP:Im2 K (fun x y H Q=>y=.non/\Q (.bl (!decide (x=.non))) H) (dIs true):=by
 intro H J x y d e d' Q ja hx hy hF w;cases e with
 | non=>
   cases hF;refine⟨hy.non,?_⟩;rw[zaA (zmd hx)];exact w _ H J (Up.refl ja) (.bl _)
 | _=>cases hF
def dIx:D->D->Option D
 | .lst ds,.int i=>atI ds i
 | .tup ds,.int i=>atI ds i
 | .str z,.int i=>if z.length<=lim then(atI z.cps.toList i).map fun c=>.str ⟨#[c]⟩ else none
 | _,_=>none
theorem zof:Im2 K (rIx K) dIx:=by
 intro H J x y d e d' Q ja hx hy hF w;match d,e,hF with
 | .lst ds,.int i,hF=>
   have hF:atI ds i=some d':=hF
   obtain⟨p,vs,rfl,h1,r1⟩:=hx.lst;obtain⟨v,hv,rv⟩:=r1.at hF;rw[hy.int];exact .inl ⟨p,vs,i,v,rfl,rfl,SqL.of h1,hv,w v H J (Up.refl ja) rv⟩
 | .tup ds,.int i,hF=>
   have hF:atI ds i=some d':=hF
   obtain⟨p,vs,rfl,h1,r1⟩:=hx.tup;obtain⟨v,hv,rv⟩:=r1.at hF;rw[hy.int];exact .inr (.inl ⟨p,vs,i,v,rfl,rfl,h1,hv,w v H J (Up.refl ja) rv⟩)
 | .str z,.int i,hF=>
   have hF:(if z.length<=lim then(atI z.cps.toList i).map fun c=>D.str ⟨#[c]⟩ else none)=some d':=hF
   by_cases hl:z.length<=lim
   ·rw[if_pos hl] at hF;cases q:atI z.cps.toList i with
    | none=>rw[q] at hF;cases hF
    | some c=>
      rw[q] at hF;cases hF;rw[hx.str,hy.int];exact .inr (.inr ⟨z,i,c,rfl,rfl,zcr hl,q,w _ H J (Up.refl ja) (.str _)⟩)
   ·rw[if_neg hl] at hF;cases hF
variable {a b:Expr}{fa fb:FE}{pos p2:Pos}
theorem zay (ha:VW X a fa)(hb:VW X b fb)(hs:zdw b:=by exact fun _ _=>rfl):VE X (.Subscript a b pos) (e2 dIx fa fb):=by
 obtain⟨ta,pa,ga⟩:=ha;obtain⟨tb,pb,gb⟩:=hb;exact⟨_,zhK zfQ pa pb hs,zkd zof ga gb⟩
def cut {α:Type}(xs:List α)(lo hi:Option Int):List α:=(xs.drop (HT.sIx xs.length 0 lo)).take (HT.sIx xs.length xs.length hi - HT.sIx xs.length 0 lo)
theorem RpL.cut {H:Hp}{J:Addr->Prop}{vs:List V}{ds:List D}(r:RpL K H J vs ds)(lo hi:Option Int):RpL K H J (cutV vs lo hi) (VD.cut ds lo hi):=by
 unfold cutV VD.cut;rw[r.length];exact(r.drop _).take _
def dSl:D->Option Int->Option Int->Option D
 | .lst ds,lo,hi=>some (.lst (cut ds lo hi))
 | .tup ds,lo,hi=>if HT.sIx ds.length 0 lo=0/\HT.sIx ds.length ds.length hi=ds.length then none else some (.tup (cut ds lo hi))
 | .str z,lo,hi=>if z.length<=lim then some (.str (Txt.slice z lo hi)) else none
 | _,_,_=>none
abbrev FO:=En->Option (Option Int)
def GoO (K:W.Frag)(t:TO)(f:FO):Prop:=∀Hz Jz O ρ σ H J o Q,ST K Hz Jz O ρ σ H J->f ρ=some o->(∀H' J',Up H J H' J'->Q o H')->t σ H Q
def VO (X:Cx)(e:Option Expr)(f:FO):Prop:=∃t,PO X e t/\GoO X.K t f
def oN:FO:=fun _=>some none
def dInt:D->Option Int
 | .int i=>some i
 | _=>none
def oS (f:FE):FO:=fun ρ=>(f ρ).bind fun d=>(dInt d).bind fun i=>some (some i)
theorem ziQ:VO X none oN:=⟨_,zlO,fun Hz Jz O ρ σ H J o Q s e w=>by cases e;exact w H J (Up.refl s.ja)⟩
theorem ziR (h:VE X a fa):VO X (some a) (oS fa):=by
 obtain⟨t,p,g⟩:=h;refine⟨_,zlP p,?_⟩;intro Hz Jz O ρ σ H J o Q s e w;obtain⟨d,e1,e⟩:=bind_some e;obtain⟨i,e2,e⟩:=bind_some e;cases e;refine g Hz Jz O ρ σ H J d _ s e1 fun v H1 J1 u1 r1=>?_
 cases d with
 | int k=>cases e2;cases r1;exact⟨_,rfl,w H1 J1 u1⟩
 | _=>cases e2
def eSl (f:FE)(lo hi:FO):FE:=fun ρ=>(f ρ).bind fun x=>(lo ρ).bind fun l=>(hi ρ).bind fun h=>dSl x l h
def rSlD (K:W.Frag):V->Option Int->Option Int->Hp->VK->Prop:=fun x lo hi H Q=>rSlL K x lo hi H Q\/rSlT K x lo hi H Q\/rSlS x lo hi H Q
theorem zha {lo hi:Option Expr}{fl fh:FO}(ha:VW X a fa)(hl:VO X lo fl)(hh:VO X hi fh):VE X (.Subscript a (.Slice lo hi none p2) pos) (eSl fa fl fh):=by
 obtain⟨t,p,g⟩:=ha;obtain⟨tl,pl,gl⟩:=hl;obtain⟨th,ph,gh⟩:=hh;refine⟨_,zj3 (r:=rSlD X.K) (sl_list.or (sl_tup.or znW)) p pl ph,?_⟩;intro Hz Jz O ρ σ H J d Q s e w;obtain⟨x,e1,e⟩:=bind_some e;obtain⟨l,e2,e⟩:=bind_some e;obtain⟨h,e3,e⟩:=bind_some e;refine g Hz Jz O ρ σ H J x _ s e1 fun v H1 J1 u1 r1=>?_
 refine gl Hz Jz O ρ σ H1 J1 l _ (s.up u1) e2 fun H2 J2 u2=>?_
 refine gh Hz Jz O ρ σ H2 J2 h _ (s.up (u1.trans u2)) e3 fun H3 J3 u3=>?_
 have r3:=r1.up (u2.trans u3)
 have u:=u1.trans (u2.trans u3)
 match x,e with
 | .lst ds,e=>
   cases e;obtain⟨p,vs,rfl,h1,rl⟩:=r3.lst;refine .inl ⟨p,vs,rfl,SqL.of h1,fun c hc=>?_⟩;have un:=Up.newJ u3.ja hc (.lst (cutV vs l h))
   exact w _ _ _ (u.trans un) (.lst zai (.inr rfl) ((rl.cut l h).keep un.keep))
 | .tup ds,e=>
   have e:(if HT.sIx ds.length 0 l=0/\HT.sIx ds.length ds.length h=ds.length then none else some (D.tup (cut ds l h)))=some d:=e
   by_cases hc:HT.sIx ds.length 0 l=0/\HT.sIx ds.length ds.length h=ds.length
   ·rw[if_pos hc] at e;cases e
   ·rw[if_neg hc] at e;cases e;obtain⟨p,vs,rfl,h1,rl⟩:=r3.tup;refine .inr (.inl ⟨p,vs,rfl,h1,by rw[rl.length];exact hc,fun c hc=>?_⟩);have un:=Up.new u3.ja hc (.tup (cutV vs l h))
    exact w _ _ _ (u.trans un) (.tup (SqT.of zai) ((rl.cut l h).keep un.keep))
 | .str z,e=>
   have e:(if z.length<=lim then some (D.str (Txt.slice z l h)) else none)=some d:=e
   by_cases hc:z.length<=lim
   ·rw[if_pos hc] at e;cases e;rw[r3.str];exact .inr (.inr ⟨z,rfl,zcr hc,w _ _ _ u (.str _)⟩)
   ·rw[if_neg hc] at e;cases e
def dLst:D->Option (List D)
 | .lst ds=>some ds
 | _=>none
def aRev (f:FE):FA:=fun ρ=>(f ρ).bind fun d=>(dLst d).bind fun ds=>some ds.reverse
theorem zld {p3 p4:Pos}{j:Nat}(ha:VW X a fa):VN X (.Subscript a (.Slice none none (some (.UnaryOp .USub (.Constant (.int 1) j p3) p4)) p2) pos) (aRev fa):=by
 obtain⟨t,p,g⟩:=ha;refine⟨_,zn2 p,?_⟩;intro Hz Jz O ρ σ H J ds Q s e w;obtain⟨x,e1,e⟩:=bind_some e;obtain⟨xs,e2,e⟩:=bind_some e;cases e;refine g Hz Jz O ρ σ H J x _ s e1 fun v H1 J1 u1 r1=>?_
 cases x with
 | lst ds=>
   cases e2;obtain⟨p,vs,rfl,h1,rl⟩:=r1.lst;refine⟨p,vs,rfl,SqL.of h1,fun c hc=>?_⟩;have un:=Up.new u1.ja hc (.lst vs.reverse)
   exact w c _ _ _ (u1.trans un) (u1.same.free hc) (fun j=>u1.ja c j hc) zai (rl.reverse.keep un.keep)
 | _=>cases e2
def dNeg:D->Option D
 | .int i=>some (.int (-i))
 | _=>none
theorem zhb (ha:VE X a fa):VE X (.UnaryOp .USub a pos) (e1 dNeg fa):=by
 obtain⟨t,p,g⟩:=ha;refine⟨_,zpe znI p,?_⟩;intro Hz Jz O ρ σ H J d Q s e w;obtain⟨x,e1,e⟩:=bind_some e;refine g Hz Jz O ρ σ H J x _ s e1 fun v H1 J1 u1 r1=>?_
 cases x with
 | int i=>cases e;cases r1;exact⟨i,rfl,w _ H1 J1 u1 (.int _)⟩
 | _=>cases e
theorem RpWL.one {H:Hp}{J:Addr->Prop}{vs:List V}{d:D}(h:RpWL K H J vs [d]):∃v,vs = [v]/\RpW K H J v d:=by
 match vs,h with
 | [v],h=>exact⟨v,rfl,h.1⟩
 | [],h=>exact h.elim
 | _::_::_,h=>exact h.2.elim
theorem RpWL.two {H:Hp}{J:Addr->Prop}{vs:List V}{d e:D}(h:RpWL K H J vs [d,e]):∃v u,vs = [v,u]/\RpW K H J v d/\RpW K H J u e:=by
 match vs,h with
 | [v,u],h=>exact⟨v,u,rfl,h.1,h.2.1⟩
 | [],h=>exact h.elim
 | [_],h=>exact h.2.elim
 | _::_::_::_,h=>exact h.2.2.elim
def bLen:List D->Option D
 | [.lst ds]=>some (.int ds.length)
 | [.tup ds]=>some (.int ds.length)
 | [.str z]=>if z.length<=lim then some (.int z.length) else none
 | _=>none
theorem zle:ImC K (fun xs H Q=>∃x n,xs = [x]/\LenV K x H n/\Q (.int n) H) bLen:=by
 intro H J vs ds d Q ja r hF w;match ds,r,hF with
 | [.lst ds],r,hF=>
   obtain⟨v,rfl,rr⟩:=r.one;cases hF;obtain⟨p,us,rfl,h1,rl⟩:=rr.lst;refine⟨_,us.length,rfl,.inl ⟨us,SqL.of h1,rfl⟩,?_⟩;rw[rl.length];exact w _ H J (Up.refl ja) (.int _)
 | [.tup ds],r,hF=>
   obtain⟨v,rfl,rr⟩:=r.one;cases hF;obtain⟨p,us,rfl,h1,rl⟩:=rr.tup;refine⟨_,us.length,rfl,.inr ⟨us,h1,rfl⟩,?_⟩;rw[rl.length];exact w _ H J (Up.refl ja) (.int _)
 | [.str z],r,hF=>
   obtain⟨v,rfl,rr⟩:=r.one;have hF:(if z.length<=lim then some (D.int z.length) else none)=some d:=hF
   by_cases hl:z.length<=lim
   ·rw[if_pos hl] at hF;cases hF;rw[rr.str];exact⟨_,z.length,rfl,⟨zcr hl,rfl⟩,w _ H J (Up.refl ja) (.int _)⟩
   ·rw[if_neg hl] at hF;cases hF
def bMax:List D->Option D
 | [.int i,.int j]=>some (.int (if j>i then j else i))
 | _=>none
def bMin:List D->Option D
 | [.int i,.int j]=>some (.int (if j<i then j else i))
 | _=>none
theorem zlf:ImC K (fun xs H Q=>∃i j,xs = [.int i,.int j]/\Q (.int (if j>i then j else i)) H) bMax:=by
 intro H J vs ds d Q ja r hF w;match ds,r,hF with
 | [.int i,.int j],r,hF=>obtain⟨v,u,rfl,q1,q2⟩:=r.two;cases hF;exact⟨i,j,by rw[q1.int,q2.int],w _ H J (Up.refl ja) (.int _)⟩
theorem zlg:ImC K (fun xs H Q=>∃i j,xs = [.int i,.int j]/\Q (.int (if j<i then j else i)) H) bMin:=by
 intro H J vs ds d Q ja r hF w;match ds,r,hF with
 | [.int i,.int j],r,hF=>obtain⟨v,u,rfl,q1,q2⟩:=r.two;cases hF;exact⟨i,j,by rw[q1.int,q2.int],w _ H J (Up.refl ja) (.int _)⟩
def bList:List D->Option D
 | [.lst ds]=>some (.lst ds)
 | [.tup ds]=>some (.lst ds)
 | _=>none
def bTuple:List D->Option D
 | [.lst ds]=>some (.tup ds)
 | [.tup ds]=>some (.tup ds)
 | _=>none
theorem zhc:ImC K (fun xs H Q=>∃p ys,xs = [.ref p]/\((SqL K H p ys/\∀l,H l=none->Q (.ref l) (upd H l (.tup ys)))\/(SqT K H p ys/\Q (.ref p) H))) bTuple:=by
 intro H J vs ds d Q ja r hF w;match ds,r,hF with
 | [.lst ds],r,hF=>
   obtain⟨v,rfl,rr⟩:=r.one;cases hF;obtain⟨p,us,rfl,h1,rl⟩:=rr.lst;refine⟨p,us,rfl,.inl ⟨SqL.of h1,fun c hc=>?_⟩⟩;have un:=Up.new ja hc (.tup us)
   exact w _ _ _ un (.tup (SqT.of zai) (rl.keep un.keep))
 | [.tup ds],r,hF=>
   obtain⟨v,rfl,rr⟩:=r.one;cases hF;obtain⟨p,us,rfl,h1,rl⟩:=rr.tup;exact⟨p,us,rfl,.inr ⟨h1,w _ H J (Up.refl ja) (.tup h1 rl)⟩⟩
def blsD:List D->Option (List Bool)
 | []=>some []
 | .bl b::ds=>(blsD ds).bind fun bs=>some (b::bs)
 | _=>none
theorem zgz {H:Hp}{J:Addr->Prop}:∀{vs:List V}{ds:List D}{bs:List Bool},RpL K H J vs ds->blsD ds=some bs->vs=bs.map V.bl
 | _,_,_,.nil,e=>by cases e;rfl
 | _,d::ds,_,.cons h t,e=>by
   cases d with
   | bl b=>
     obtain⟨bs,e1,e⟩:=bind_some (show((blsD ds).bind fun bs=>some (b::bs))=some _ from e);cases e;cases h;rw[List.map_cons,zgz t e1]
   | _=>cases e
def bAll:List D->Option D
 | [.lst ds]=>(blsD ds).bind fun bs=>some (.bl (bs.all id))
 | _=>none
def bAny:List D->Option D
 | [.lst ds]=>(blsD ds).bind fun bs=>some (.bl (bs.any id))
 | _=>none
theorem zog:ImC K (fun xs H Q=>∃(p:Addr) (bs:List Bool),xs = [.ref p]/\SqL K H p (bs.map V.bl)/\Q (.bl (bs.all id)) H) bAll:=by
 intro H J vs ds d Q ja r hF w;match ds,r,hF with
 | [.lst ds],r,hF=>
   obtain⟨v,rfl,rr⟩:=r.one;obtain⟨bs,e1,e⟩:=bind_some (show((blsD ds).bind fun bs=>some (D.bl (bs.all id)))=some d from hF);cases e;obtain⟨p,us,rfl,h1,rl⟩:=rr.lst;exact⟨p,bs,rfl,by rw[<-zgz rl e1];exact SqL.of h1,w _ H J (Up.refl ja) (.bl _)⟩
theorem zoh:ImC K (fun xs H Q=>∃(p:Addr) (bs:List Bool),xs = [.ref p]/\SqL K H p (bs.map V.bl)/\Q (.bl (bs.any id)) H) bAny:=by
 intro H J vs ds d Q ja r hF w;match ds,r,hF with
 | [.lst ds],r,hF=>
   obtain⟨v,rfl,rr⟩:=r.one;obtain⟨bs,e1,e⟩:=bind_some (show((blsD ds).bind fun bs=>some (D.bl (bs.any id)))=some d from hF);cases e;obtain⟨p,us,rfl,h1,rl⟩:=rr.lst;exact⟨p,bs,rfl,by rw[<-zgz rl e1];exact SqL.of h1,w _ H J (Up.refl ja) (.bl _)⟩
end
def Src (K:W.Frag)(I:It)(H:Hp)(J:Addr->Prop)(ds:List D):Prop:=∀H2 J2,Keep K H J H2 J2->(∀a,J2 a->H2 a≠none)->
 I.stop ds.length H2/\∀i d,ds[i]?=some d->I.go i H2/\∀x H3,I.yld i H2 x H3->∃J3,Up H2 J2 H3 J3/\Rp K H3 J3 x d
def GoI (K:W.Frag)(wi:TI)(f:FA):Prop:=∀Hz Jz O ρ σ H J ds R,ST K Hz Jz O ρ σ H J->f ρ=some ds->(∀I H' J',Up H J H' J'->Src K I H' J' ds->R I H')->wi σ H R
def VI (X:Cx)(tg iter:Expr)(f:FA):Prop:=∃wi,PI X tg iter wi/\GoI X.K wi f
section
variable {X:Cx}{K:W.Frag}{tg a b:Expr}{fa fb:FE}{fl:FA}{pos p:Pos}
theorem zpq {wi wi':TI}{iter:Expr}(h:PI X tg iter wi)(h':PI X tg iter wi'):PI X tg iter (fun σ H R=>wi σ H R\/wi' σ H R):=by
 intro pins s σ H R I q;rcases q with q | q
 ·exact h pins s σ H R I q
 ·exact h' pins s σ H R I q
def dSeq:D->Option (List D)
 | .lst ds=>some ds
 | .tup ds=>some ds
 | _=>none
def aSeq (f:FE):FA:=fun ρ=>(f ρ).bind dSeq
theorem za7 (h:VE X a fa):VI X tg a (aSeq fa):=by
 obtain⟨t,p,g⟩:=h;refine⟨_,zpq (zlH p) (znG p),?_⟩;intro Hz Jz O ρ σ H J ds R s e w;obtain⟨x,e1,e⟩:=bind_some e;cases x with
 | lst xs=>
   cases e;refine .inl (g Hz Jz O ρ σ H J _ _ s e1 fun v H1 J1 u1 r1=>?_);cases r1 with
   | lst h j r=>
     refine⟨_,rfl,⟨_,SqL.of h⟩,w _ H1 J1 u1 fun H2 J2 k ja=>?_⟩;have h2:=k.jo _ _ j h
     refine⟨⟨_,SqL.of h2,by rw[r.length];exact Nat.le_refl _⟩,fun i d hd=>?_⟩;obtain⟨v,hv,rv⟩:=r.get hd;refine⟨⟨_,v,SqL.of h2,hv⟩,fun x H3 y=>?_⟩;obtain⟨rfl,y⟩:=y;have e:=y _ (SqL.of h2)
     rw[hv] at e;cases e;exact⟨J2,Up.refl ja,rv.keep k⟩
 | tup xs=>
   cases e;refine .inr (g Hz Jz O ρ σ H J _ _ s e1 fun v H1 J1 u1 r1=>?_);cases r1 with
   | tup h r=>
     refine⟨_,rfl,⟨_,h⟩,w _ H1 J1 u1 fun H2 J2 k ja=>?_⟩;have h2:=k.tp _ _ h
     refine⟨⟨_,h2,by rw[r.length];exact Nat.le_refl _⟩,fun i d hd=>?_⟩;obtain⟨v,hv,rv⟩:=r.get hd;refine⟨⟨_,v,h2,hv⟩,fun x H3 y=>?_⟩;obtain⟨rfl,y⟩:=y;have e:=y _ h2
     rw[hv] at e;cases e;exact⟨J2,Up.refl ja,rv.keep k⟩
 | _=>cases e
def zba (lo:Int)(n:Nat):List D:=(List.range n).map fun(i:Nat)=>.int (lo+(i:Int))
theorem zf0 {H:Hp}{J:Addr->Prop}(lo:Int)(n:Nat):Src K (Itr lo n) H J (zba lo n):=by
 intro H2 J2 k ja;have hl:(zba lo n).length=n:=by simp[zba]
 rw[hl];refine⟨Nat.le_refl _,fun i d hd=>?_⟩;have hi:i<n:=by rw[<-hl];exact(List.getElem?_eq_some_iff.mp hd).1
 refine⟨hi,fun x H3 y=>?_⟩;obtain⟨rfl,rfl⟩:=y;unfold zba at hd;rw[List.getElem?_map,List.getElem?_range hi] at hd;cases hd;exact⟨J2,Up.refl ja,.int _⟩
def a1Int:List D->Option Int
 | [.int i]=>some i
 | _=>none
def aRng1 (f:FA):FA:=fun ρ=>(f ρ).bind fun l=>(a1Int l).bind fun j=>if -1000000<=j/\j<=1000000 then some (zba 0 j.toNat) else none
theorem zf1 (B:Blt X.mg)(ha:VA X [a] fl)(hg:Gl X "range":=by rfl)(hs:starEach [a] X.env = [(false,eval a X.env)]:=by rfl):VI X tg (.Call (.Name "range" p) [a] [] pos) (aRng1 fl):=by
 obtain⟨t,p,g⟩:=ha;refine⟨_,zfH hg (B.get "range") p hs,?_⟩;intro Hz Jz O ρ σ H J ds R s e w;obtain⟨l,e1,e⟩:=bind_some e;obtain⟨j,e2,e⟩:=bind_some e;by_cases hj:-1000000<=j/\j<=1000000
 ·rw[if_pos hj] at e;cases e;refine g Hz Jz O ρ σ H J _ _ s e1 fun vs H1 J1 u1 r1=>?_
  match l,e2,r1 with
  | [.int i],e2,r1=>
    cases e2;cases r1 with
    | cons h t=>cases t;cases h;exact⟨j,rfl,by omega,by omega,w _ H1 J1 u1 (zf0 0 _)⟩
 ·rw[if_neg hj] at e;cases e
def zdW (ds:List D):List D:=ds.zipIdx.map fun p=>.tup [.int (p.2:Nat),p.1]
def a1Tup:List D->Option (List D)
 | [.tup ds]=>some ds
 | _=>none
def aEnum (f:FA):FA:=fun ρ=>(f ρ).bind fun l=>(a1Tup l).bind fun ds=>some (zdW ds)
theorem zf2 (ds:List D):(zdW ds).length=ds.length:=by simp[zdW]
theorem ziS {ds:List D}{i:Nat}{d:D}(h:(zdW ds)[i]?=some d):∃x,ds[i]?=some x/\d=.tup [.int (i:Nat),x]:=by
 unfold zdW at h;rw[List.getElem?_map,List.getElem?_zipIdx] at h;cases q:ds[i]? with
 | none=>rw[q] at h;cases h
 | some x=>rw[q] at h;simp at h;exact⟨x,rfl,h.symm⟩
theorem ziT {elts:List Expr}{x1}{tpos:Pos}(B:Blt X.mg)(ha:VA X [a] fl)(hg:Gl X "enumerate":=by rfl)(hs:starEach [a] X.env = [(false,eval a X.env)]:=by rfl):VI X (.Tuple elts x1 tpos) (.Call (.Name "enumerate" p) [a] [] pos) (aEnum fl):=by
 obtain⟨t,p,g⟩:=ha;refine⟨_,zlY hg (B.get "enumerate") p hs,?_⟩;intro Hz Jz O ρ σ H J ds R s e w;obtain⟨l,e1,e⟩:=bind_some e;obtain⟨xs,e2,e⟩:=bind_some e;cases e;refine g Hz Jz O ρ σ H J _ _ s e1 fun vs H1 J1 u1 r1=>?_
 match l,e2,r1 with
 | [.tup _],e2,r1=>
   cases e2;cases r1 with
   | cons h t=>
     cases t;cases h with
     | tup h r=>
       refine⟨_,rfl,⟨_,h⟩,w _ H1 J1 u1 fun H2 J2 k ja=>?_⟩;have h2:=k.tp _ _ h
       refine⟨⟨_,h2,by rw[r.length,zf2];exact Nat.le_refl _⟩,fun i d hd=>?_⟩;obtain⟨x,hx,rfl⟩:=ziS hd;obtain⟨v,hv,rv⟩:=r.get hx;refine⟨⟨_,v,h2,hv⟩,fun y H3 hy=>?_⟩;obtain⟨q,hn,rfl,hy⟩:=hy;obtain⟨y,ey,rfl⟩:=hy _ h2;rw[hv] at ey;cases ey;have un:=Up.new ja hn (.tup [.int (i:Nat),v])
       exact⟨J2,un,.tup (SqT.of zai) (.cons (.int _) (.cons ((rv.keep k).keep un.keep) .nil))⟩
end
abbrev FG:=D->En->Option En
abbrev FGs:=List D->En->Option En
def Only (is:List Nat)(ρ ρ':En):Prop:=ρ'.length=ρ.length/\∀j,j∉is->ρ'[j]?=ρ[j]?
def GoG (K:W.Frag)(g:TG)(is:List Nat)(f:FG):Prop:=(∀d ρ ρ',f d ρ=some ρ'->Only is ρ ρ')/\∀Hz Jz O ρ σ H J v d ρ' Q,ST K Hz Jz O ρ σ H J->Rp K H J v d->f d ρ=some ρ'->(∀σ',ST K Hz Jz O ρ' σ' H J->Q σ' H)->g v σ H Q
def GoGs (K:W.Frag)(g:TGs)(is:List Nat)(f:FGs):Prop:=(∀d ρ ρ',f d ρ=some ρ'->Only is ρ ρ')/\∀Hz Jz O ρ σ H J vs ds ρ' Q,ST K Hz Jz O ρ σ H J->RpL K H J vs ds->f ds ρ=some ρ'->(∀σ',ST K Hz Jz O ρ' σ' H J->Q σ' H)->g vs σ H Q
def VG (X:Cx)(tg:Expr)(is:List Nat)(f:FG):Prop:=∃g,PG X tg g/\GoG X.K g is f
def VGs (X:Cx)(tgs:List Expr)(is:List Nat)(f:FGs):Prop:=∃g,PGs X tgs g/\GoGs X.K g is f
def isPar:Option SV->Bool
 | some (.par _ _)=>true
 | _=>false
theorem zcC {x:Option SV}(h:isPar x=false):∀n d,x≠some (.par n d):=fun n d e=>by rw[e] at h;cases h
def gN (i:Nat):FG:=fun d ρ=>if i<ρ.length/\isPar (ρ[i]?)=false then some (ρ.set i (.val d)) else none
def gNil':FGs:=fun ds ρ=>if ds = [] then some ρ else none
def gCons' (f:FG)(g:FGs):FGs:=fun ds ρ=>match ds with | d::r=>(f d ρ).bind fun ρ1=>g r ρ1 | []=>none
def gT (n:Nat)(f:FGs):FG:=fun d ρ=>match d with | .tup ds=>if ds.length=n then f ds ρ else none | _=>none
theorem ziU {K:W.Frag}{i:Nat}:GoG K (zeH i) [i] (gN i):=by
 refine⟨fun d ρ ρ' h=>?_,fun Hz Jz O ρ σ H J v d ρ' Q s r e w=>?_⟩
 ·unfold gN at h;by_cases hi:i<ρ.length/\isPar (ρ[i]?)=false
  ·rw[if_pos hi] at h;cases h;exact⟨by simp,fun j hj=>List.getElem?_set_ne (fun z=>hj (by simp[z]))⟩
  ·rw[if_neg hi] at h;cases h
 ·unfold gN at e;by_cases hi:i<ρ.length/\isPar (ρ[i]?)=false
  ·rw[if_pos hi] at e;cases e;exact w _ (s.set r hi.1 (zcC hi.2))
  ·rw[if_neg hi] at e;cases e
theorem Only.trans {is js:List Nat}{ρ ρ1 ρ2:En}(a:Only is ρ ρ1)(b:Only js ρ1 ρ2):Only (is++js) ρ ρ2:=⟨b.1.trans a.1,fun j hj=>by
 rw[List.mem_append] at hj;rw[b.2 j (fun z=>hj (.inr z)),a.2 j (fun z=>hj (.inl z))]⟩
theorem zme {K:W.Frag}:GoGs K gNil [] gNil':=by
 refine⟨fun d ρ ρ' h=>?_,fun Hz Jz O ρ σ H J vs ds ρ' Q s r e w=>?_⟩
 ·unfold gNil' at h;by_cases hd:d = []
  ·rw[if_pos hd] at h;cases h;exact⟨rfl,fun _ _=>rfl⟩
  ·rw[if_neg hd] at h;cases h
 ·unfold gNil' at e;by_cases hd:ds = []
  ·rw[if_pos hd] at e;cases e;subst hd;cases r;exact⟨rfl,w _ s⟩
  ·rw[if_neg hd] at e;cases e
theorem zkg {K:W.Frag}{g:TG}{gs:TGs}{is js:List Nat}{f:FG}{fs:FGs}(h1:GoG K g is f)(h2:GoGs K gs js fs):GoGs K (znE g gs) (is++js) (gCons' f fs):=by
 refine⟨fun d ρ ρ' h=>?_,fun Hz Jz O ρ σ H J vs ds ρ' Q s r e w=>?_⟩
 ·cases d with
  | nil=>cases h
  | cons d r=>
    obtain⟨ρ1,e1,e2⟩:=bind_some (show((f d ρ).bind fun ρ1=>fs r ρ1)=some ρ' from h);exact(h1.1 _ _ _ e1).trans (h2.1 _ _ _ e2)
 ·cases ds with
  | nil=>cases e
  | cons d ds=>
    obtain⟨ρ1,e1,e2⟩:=bind_some (show((f d ρ).bind fun ρ1=>fs ds ρ1)=some ρ' from e);cases r with
    | cons r1 r2=>
      refine⟨_,_,rfl,h1.2 Hz Jz O ρ σ H J _ d ρ1 _ s r1 e1 fun σ1 s1=>?_⟩;exact h2.2 Hz Jz O ρ1 σ1 H J _ ds ρ' _ s1 r2 e2 w
theorem zmf {K:W.Frag}{n:Nat}{gs:TGs}{is:List Nat}{fs:FGs}(h:GoGs K gs is fs):GoG K (gTup K n gs) is (gT n fs):=by
 refine⟨fun d ρ ρ' e=>?_,fun Hz Jz O ρ σ H J v d ρ' Q s r e w=>?_⟩
 ·cases d with
  | tup ds=>
    have e:(if ds.length=n then fs ds ρ else none)=some ρ':=e
    by_cases hn:ds.length=n
    ·rw[if_pos hn] at e;exact h.1 _ _ _ e
    ·rw[if_neg hn] at e;cases e
  | _=>cases e
 ·cases d with
  | tup ds=>
    have e:(if ds.length=n then fs ds ρ else none)=some ρ':=e
    by_cases hn:ds.length=n
    ·rw[if_pos hn] at e;cases r with
     | tup hq rl=>exact⟨_,_,rfl,hq,by rw[rl.length];exact hn,h.2 Hz Jz O ρ σ H J _ ds ρ' Q s rl e w⟩
    ·rw[if_neg hn] at e;cases e
  | _=>cases e
section
variable {X:Cx}{pos:Pos}
theorem zar {i:Nat}{x:Str}(hN:X.N.Nodup)(hi:X.N[i]?=some x)(hx:Loc X.env.scope x)(hf:X.fn x=true\/X.env.scope.names.lookup x=some .local:=by first | exact .inl rfl | exact .inr rfl | assumption):VG X (.Name x pos) [i] (gN i):=⟨_,zie hN hi hx hf,ziU⟩
theorem zb8:VGs X [] [] gNil':=⟨_,zlG,zme⟩
theorem zas {e:Expr}{es:List Expr}{is js:List Nat}{f:FG}{fs:FGs}(h1:VG X e is f)(h2:VGs X es js fs)(hs:(assignEach (e::es) X.env).map (·.2)=assign e X.env::(assignEach es X.env).map (·.2):=by rfl):VGs X (e::es) (is++js) (gCons' f fs):=by
 obtain⟨g,p,q⟩:=h1;obtain⟨gs,ps,qs⟩:=h2;exact⟨_,zjX p ps hs,zkg q qs⟩
theorem zda {es:List Expr}{k:Nat}{is:List Nat}{n:Nat}{fs:FGs}(hc:X.calm=true)(h:VGs X es is fs)(hn:(assignEach es X.env).length=n:=by rfl)(hst:(assignEach es X.env).findIdx? (·.1)=none:=by rfl):VG X (.Tuple es k pos) is (gT n fs):=by
 obtain⟨gs,ps,qs⟩:=h;exact⟨_,znF hc ps hn hst,zmf qs⟩
theorem vgC (i:Nat){X:Cx}{scope:Scope}{cl:List (Str×Addr)}{NC:List Str}{C:Addr}{s0:Shared}{H0:Hp}{ex:List Addr}{pn:List (Addr×Obj)}{x:Str}{pos:Pos}(nd:NC.Nodup)(hi:NC[i]?=some x)(hx:scope.names.lookup x=some .local):VG (cxC X scope cl NC C s0 H0 ex pn) (.Name x pos) [i] (gN i):=⟨_,pgC i nd hi hx,ziU⟩
end
def TEof (K:W.Frag)(f:FE):TE:=fun σ H Q=>∃Hz Jz O ρ J d,ST K Hz Jz O ρ σ H J/\f ρ=some d/\zgw K H J d Q
def TTof (K:W.Frag)(f:FT):TT:=fun σ H Q=>∃Hz Jz O ρ J b,ST K Hz Jz O ρ σ H J/\f ρ=some b/\zk8 H J b Q
def TGof (K:W.Frag)(f:FG):TG:=fun v σ H Q=>∃Hz Jz O ρ J d ρ',ST K Hz Jz O ρ σ H J/\Rp K H J v d/\f d ρ=some ρ'/\∀σ',ST K Hz Jz O ρ' σ' H J->Q σ' H
theorem VE.of {X:Cx}{e:Expr}{f:FE}(h:VE X e f):PE X e (TEof X.K f):=by
 obtain⟨t,p,g⟩:=h;rintro pins s σ H Q I ⟨Hz,Jz,O,ρ,J,d,s1,e1,w⟩;exact p pins s σ H Q I (g Hz Jz O ρ σ H J d Q s1 e1 w)
theorem VT.of {X:Cx}{e:Expr}{f:FT}(h:VT X e f):PT X e (TTof X.K f):=by
 obtain⟨t,p,g⟩:=h;rintro pins s σ H Q I ⟨Hz,Jz,O,ρ,J,d,s1,e1,w⟩;exact p pins s σ H Q I (g Hz Jz O ρ σ H J d Q s1 e1 w)
theorem VG.of {X:Cx}{e:Expr}{is:List Nat}{f:FG}(h:VG X e is f):PG X e (TGof X.K f):=by
 obtain⟨t,p,g⟩:=h;rintro pins s σ H v u Q I r ⟨Hz,Jz,O,ρ,J,d,ρ',s1,r1,e1,w⟩;exact p pins s σ H v u Q I r (g.2 Hz Jz O ρ σ H J v d ρ' Q s1 r1 e1 w)
def zbn (ρ:En)(fr:List (Option Nat)):En:=fr.map fun o=>match o with
 | none=>.un
 | some j=>match ρ[j]? with
   | some (.val d)=>.val d
   | _=>.un
def zdb (f:D->Option (Option D)):List D->Option (List D)
 | []=>some []
 | d::r=>(f d).bind fun o=>(zdb f r).bind fun xs=>some (match o with | some x=>x::xs | none=>xs)
def zcD (ρ:En)(g:FG)(t:FT)(e:FE)(d:D):Option (Option D):=(g d ρ).bind fun ρ1=>(t ρ1).bind fun ok=>if ok then(e ρ1).bind fun x=>some (some x) else some none
def zgA (fr:List (Option Nat))(fi:FA)(g:FG)(t:FT)(e:FE):FA:=fun ρ=>(fi ρ).bind fun ds=>(zdb (zcD (zbn ρ fr) g t e) ds).bind fun out=>if out.length<=lim then some out else none
def tTrue:FT:=fun _=>some true
def VTs (X:Cx)(ifs:List Expr)(f:FT):Prop:=PTs X ifs (TTof X.K f)
theorem zct {X:Cx}:VTs X [] tTrue:=by
 rintro pins s σ H Q I ⟨Hz,Jz,O,ρ,J,d,s1,e1,w⟩;cases e1;exact zlV pins s σ H Q I (w H J (Up.refl s1.ja))
theorem zfn {X:Cx}{c:Expr}{f:FT}(h:VT X c f):VTs X [c] f:=zlW h.of
theorem zkh (σ:L2.St)(fr:List (Option Nat)):(pick σ fr).length=fr.length:=by simp[pick]
theorem ziV (ρ:En)(fr:List (Option Nat)):(zbn ρ fr).length=fr.length:=by simp[zbn]
section
variable {K:W.Frag}{H H' H1 Hz:Hp}{J J' J1 Jz:Addr->Prop}{ρ:En}{σ:L2.St}
def Pr.blk (O:Pr):Pr:=⟨[],O.fpo⟩
theorem zcR (ρ:En)(fr:List (Option Nat)):∀i:Nat,ownD ((zbn ρ fr)[i]?)=none:=by
 intro i;unfold zbn;rw[List.getElem?_map];cases q:fr[i]? with
 | none=>rfl
 | some o=>
   cases o with
   | none=>rfl
   | some j=>
     simp only[Option.map_some];cases z:ρ[j]? with
     | none=>rfl
     | some y=>cases y <;> rfl
theorem ziW {x:Option (Option V)}{s:Option SV}{O:List Addr}(h:ownD s=none):OwAt K Hz H J O x [] s:=by
 match s,h with
 | none,_=>rfl
 | some .un,_=>rfl
 | some (.val _),_=>rfl
theorem ST.pick {O:Pr}(s:ST K Hz Jz O ρ σ H J)(fr:List (Option Nat)):ST K Hz Jz O.blk (zbn ρ fr) (pick σ fr) H J where
 same:=s.same
 j0:=s.j0
 jn:=s.jn
 ja:=s.ja
 al:=s.al
 ps:=fun q hq=>absurd hq (by simp[Pr.blk])
 ow:=⟨fun _=>[],fun i=>ziW (zcR ρ fr i),fun _=>List.nodup_nil,fun _ b hb=>absurd hb (by simp),fun _ _ _ b hb=>absurd hb (by simp)⟩
 len:=by rw[zkh,ziV]
 vl:=fun i d h=>by
  unfold zbn at h;rw[List.getElem?_map] at h;cases q:fr[i]? with
  | none=>rw[q] at h;cases h
  | some o=>
    rw[q] at h;cases o with
    | none=>simp at h
    | some j=>
      simp only[Option.map_some,Option.some.injEq] at h;cases z:ρ[j]? with
      | none=>rw[z] at h;cases h
      | some y=>
        rw[z] at h;cases y with
        | val d'=>
          cases h;obtain⟨v,hv,r⟩:=s.vl j _ z;refine⟨v,?_,r⟩;show(fr.map _)[i]?=_
          rw[List.getElem?_map,q];simp[hv]
        | _=>cases h
theorem zcS {D:Addr}{ys:List V}{o:HO}(hD:H D=some (.lst ys))(nj:¬J D):Keep K H J (upd H D o) J:=⟨fun _ h=>h,fun p u j h=>by rw[zah (show p≠D from fun z=>nj (z▸j))];exact h,fun p vs h=>by
 rcases h with(h | ⟨u,h⟩) | h
 ·refine .inl (.inl ?_);rw[zah];exact h;rintro rfl;rw[h] at hD;cases hD
 ·refine .inl (.inr ⟨u,?_⟩);rw[zah];exact h;rintro rfl;rw[h] at hD;cases hD
 ·exact .inr h⟩
theorem OwAt.nil {x:Option (Option V)}{A:List Addr}{s:Option SV}{O:List Addr}(h:OwAt K Hz H J O x A s)(n:ownD s=none):A = []:=by
 match s,h,n with
 | none,h,_=>exact h
 | some .un,h,_=>exact h
 | some (.val _),h,_=>exact h
theorem ST.at {O:Pr}{D:Addr}{ys:List V}{o:HO}(s:ST K Hz Jz O ρ σ H J)(no:∀i:Nat,ownD (ρ[i]?)=none)(hD:H D=some (.lst ys))(nj:¬J D)(h0:Hz D=none):ST K Hz Jz O ρ σ (upd H D o) J where
 same:=fun b u hb h=>by rw[zah (show b≠D from fun z=>by rw[z,h0] at h;cases h)];exact s.same b u hb h
 j0:=s.j0
 jn:=s.jn
 ja:=fun a h=>by
  by_cases e:a=D
  ·subst e;rw[zai];simp
  ·rw[zah e];exact s.ja a h
 al:=fun a h=>by
  by_cases e:a=D
  ·subst e;rw[zai];simp
  ·rw[zah e];exact s.al a h
 len:=s.len
 vl:=fun i d h=>let ⟨v,e,r⟩:=s.vl i d h;⟨v,e,r.keep (zcS hD nj)⟩
 ps:=s.ps
 ow:=by
  obtain⟨fp,w⟩:=s.ow;refine⟨fp,fun i=>(w.at' i).keep (zcS hD nj) fun b hb=>?_,w.nd,w.nj,w.dj⟩;rw[(w.at' i).nil (no i)] at hb;cases hb
theorem Up.at {D:Addr}{ys:List V}{o:HO}(u:Up H1 J1 H J)(h1:H1 D=none):Up H1 J1 (upd H D o) J:=⟨fun b v h=>by rw[zah (show b≠D from fun z=>by rw[z,h1] at h;cases h)];exact u.same b v h,u.jj,u.jn,fun a h=>by
 by_cases e:a=D
 ·subst e;rw[zai];simp
 ·rw[zah e];exact u.ja a h⟩
end
def apart (is:List Nat)(fr:List (Option Nat)):Bool:=is.all fun i=>fr[i]? == some none
theorem ziX {ρ ρ1:En}{fr:List (Option Nat)}{is:List Nat}(o:Only is (zbn ρ fr) ρ1)(h:apart is fr=true):Weak (zbn ρ fr) ρ1:=by
 refine⟨o.1.symm,fun i=>?_⟩;by_cases hi:i∈is
 ·right
  have q:=List.all_eq_true.mp h i hi
  have q':fr[i]?=some none:=by simpa using q
  unfold zbn;rw[List.getElem?_map,q'];rfl
 ·left;exact(o.2 i hi).symm
theorem ST.free {K:W.Frag}{Hz H H1:Hp}{Jz J J1:Addr->Prop}{O:Pr}{ρ:En}{σ:L2.St}(s:ST K Hz Jz O ρ σ H J)(u:Up H J H1 J1){b:Addr}(h:H1 b=none):Hz b=none:=by
 cases e:Hz b with
 | none=>rfl
 | some o=>exact absurd h ((s.up u).al b (by rw[e];simp))
theorem zgB {K:W.Frag}{fr:List (Option Nat)}{wi:TI}{fi:FA}{g:FG}{is:List Nat}{ft:FT}{fe:FE}(hi:GoI K wi fi)(hon:∀d ρ ρ',g d ρ=some ρ'->Only is ρ ρ')(hap:apart is fr=true) :
 GoN K (zgt fr wi (TGof K g) (TTof K ft) (TEof K fe)) (zgA fr fi g ft fe):=by
 intro Hz Jz O ρ σ H J out Q s e w;obtain⟨ds,e1,e⟩:=bind_some e;obtain⟨out',e2,e⟩:=bind_some e;by_cases hl:out'.length<=lim
 ·rw[if_pos hl] at e;cases e;refine hi Hz Jz O ρ σ H J ds _ s e1 fun I H1 J1 u1 src=>?_
  intro Da hD;have hD0:Hz Da=none:=(s.free (u:=u1) hD)
  have nJ1:¬J1 Da:=fun j=>u1.ja Da j hD
  refine⟨fun i m ys σ2 H2=>m=ds.length - i/\i<=ds.length/\∃J2 dn rs,ST K Hz Jz O.blk (zbn ρ fr) σ2 H2 J2/\Up H1 J1 H2 J2/\¬J2 Da/\Keep K H1 J1 H2 J2/\RpL K H2 J2 ys dn/\out=dn++rs/\zdb (zcD (zbn ρ fr) g ft fe) (ds.drop i)=some rs,⟨ds.length,by simp,Nat.zero_le _,?_⟩,?_⟩
  ·have un:=Up.new u1.ja hD (.lst [])
   exact⟨J1,[],out,((s.up u1).up un).pick fr,un,nJ1,un.keep,.nil,rfl,by simpa using e2⟩
  ·rintro i m ys σ2 H2 ⟨rfl,hil,J2,dn,rs,s2,u2,nj2,k2,r2,eo,ec⟩ hys;obtain⟨stop,turn⟩:=src H2 J2 k2 s2.ja;by_cases hlt:i<ds.length
   ·right
    have hd:ds[i]?=some ds[i]:=List.getElem?_eq_getElem hlt
    generalize hdd:ds[i]=d at hd;obtain⟨go,yl⟩:=turn i d hd;have edrop:ds.drop i=d::ds.drop (i+1):=by rw[<-hdd];exact(List.getElem_cons_drop hlt).symm
    rw[edrop] at ec;obtain⟨o,eo1,ec⟩:=bind_some (show((zcD (zbn ρ fr) g ft fe d).bind fun o=>(zdb (zcD (zbn ρ fr) g ft fe) (ds.drop (i+1))).bind fun xs=>some (match o with | some x=>x::xs | none=>xs))=some rs from ec);obtain⟨rs',er,ec⟩:=bind_some ec;obtain⟨ρ1,eg,eo1⟩:=bind_some eo1;obtain⟨ok,et,eo1⟩:=bind_some eo1;refine⟨go,fun zs σ' H'=>∃J2 dn rs,ST K Hz Jz O.blk (zbn ρ fr) σ' H' J2/\Up H1 J1 H' J2/\¬J2 Da/\Keep K H1 J1 H' J2/\RpL K H' J2 zs dn/\out=dn++rs/\zdb (zcD (zbn ρ fr) g ft fe) (ds.drop (i+1))=some rs,fun zs σ' H' h=>⟨ds.length - (i+1),by omega,rfl,hlt,h⟩,fun x H3 y=>?_⟩;obtain⟨J3,u3,r3⟩:=yl x H3 y;have wk:Weak (zbn ρ fr) ρ1:=ziX (hon _ _ _ eg) hap
    refine⟨Hz,Jz,O.blk,zbn ρ fr,J3,d,ρ1,s2.up u3,r3,eg,fun σ4 s4=>?_⟩;refine⟨Hz,Jz,O.blk,ρ1,J3,ok,s4,et,fun H5 J5 u5=>?_⟩;have s5:=s4.up u5
    have u25:=u3.trans u5
    have nj5:¬J5 Da:=fun j=>by
     rcases u25.jn Da j with j | j
     ·exact nj2 j
     ·rw[hys] at j;cases j
    have hy5:H5 Da=some (.lst ys):=u25.same _ _ hys
    refine⟨fun hok=>?_,fun hok=>?_⟩
    ·subst hok;rw[if_pos rfl] at eo1;obtain⟨xd,ex,eo1⟩:=bind_some eo1;cases eo1;cases ec;refine⟨Hz,Jz,O.blk,ρ1,J5,xd,s5,ex,fun v H6 J6 u6 r6=>?_⟩;have u26:=u25.trans u6
     have nj6:¬J6 Da:=fun j=>by
      rcases u6.jn Da j with j | j
      ·exact nj5 j
      ·rw[hy5] at j;cases j
     have hy6:H6 Da=some (.lst ys):=u6.same _ _ hy5
     have kA:Keep K H6 J6 (upd H6 Da (.lst (ys++[v]))) J6:=zcS hy6 nj6
     refine⟨hy6,?_,J6,dn++[xd],rs',?_,(u2.trans u26).at (ys:=ys) hD,nj6,(k2.trans u26.keep).trans kA,((r2.keep u26.keep).append (.cons r6 .nil)).keep kA,by rw[eo];simp,er⟩
     ·have:(dn++xd::rs').length<=lim:=by rw[<-eo];exact hl
      rw[List.length_append,List.length_cons] at this;rw[r2.length];exact Nat.lt_of_lt_of_le (by omega:dn.length<lim) (Nat.le_of_lt zeY)
     ·exact((s5.up u6).weak wk rfl).at (zcR ρ fr) hy6 nj6 hD0
    ·subst hok;rw[if_neg (by simp)] at eo1;cases eo1;cases ec;exact⟨hy5,J5,dn,rs',s5.weak wk rfl,u2.trans u25,nj5,k2.trans u25.keep,r2.keep u25.keep,eo,er⟩
   ·left
    have hi':i=ds.length:=by omega
    subst hi';rw[List.drop_length] at ec;cases ec;refine⟨stop,?_⟩;rw[List.append_nil] at eo;subst eo;exact w Da ys H2 J2 (u1.trans u2) (u1.same.free hD) nj2 hys r2
 ·rw[if_neg hl] at e;cases e
theorem zki (N:List Str)(st:Stmt){X:Cx}{elt iter tg:Expr}{ifs:List Expr}{scope:Scope}{pos:Pos}{NC:List Str}(fr:List (Option Nat)){fi:FA}{g:FG}{is:List Nat}{ft:FT}{fe:FE}{RR:Hp->Prop}(hRR:∀pins σ H s,Inv X pins σ H s->RR H)(hcalm:X.calm=true)(hi:VI X tg iter fi)
 (hcells:∀x,X.env.scope.names.lookup x=some .cell->∃c,X.env.cells.lookup x=some c) (hfk:X.env.scope.kind=.function) (hN:X.N=N) (hsc:X.env.scope.names=(zad st).names)
 (hfree':∀y∈scope.names,y.2=.free->(zad st).names.lookup y.1=some .cell) (hcell:∀y∈scope.names,y.2≠.cell) (hkind:scope.kind=.function) (hnames:∀y∈scope.names,y.2=.local->scope.names.lookup y.1=some .local)
 (hfr':zeL N (zad st).names scope.names NC fr=true) (hlen:fr.length=NC.length) (hap:apart is fr=true)
 (hg:∀cl C s0 H0 ex pn,VG (cxC X scope cl NC C s0 H0 ex pn) tg is g) (ht:∀cl C s0 H0 ex pn,VTs (cxC X scope cl NC C s0 H0 ex pn) ifs ft) (he:∀cl C s0 H0 ex pn,RR H0->VE (cxC X scope cl NC C s0 H0 ex pn) elt fe)
 (hs:∀x,foldedSetIterable iter X.env x=pure x:=by intro _;rfl):VN X (.ListComp elt [⟨tg,iter,ifs,0⟩] scope pos) (zgA fr fi g ft fe):=by
 obtain⟨wi,pi,gi⟩:=hi;obtain⟨_,_,hon,_⟩:=hg [] 0 X.s₀ X.Hz [] [];exact⟨_,ziK N st fr hRR hcalm pi hcells hfk hN hsc hfree' hcell hkind hnames hfr' hlen (fun cl C s0 H0 ex pn=>(hg cl C s0 H0 ex pn).of) (fun cl C s0 H0 ex pn=>show PTs (cxC X scope cl NC C s0 H0 ex pn) ifs (TTof X.K ft) from ht cl C s0 H0 ex pn) (fun cl C s0 H0 ex pn r=>(he cl C s0 H0 ex pn r).of) hs,zgB gi hon hap⟩
theorem zcT (N:List Str)(st:Stmt){X:Cx}{elt iter tg:Expr}{ifs:List Expr}{scope:Scope}{pos:Pos}{NC:List Str}(fr:List (Option Nat)){fi:FA}{g:FG}{is:List Nat}{ft:FT}{fe:FE}(hcalm:X.calm=true)(hi:VI X tg iter fi)
 (hcells:∀x,X.env.scope.names.lookup x=some .cell->∃c,X.env.cells.lookup x=some c) (hfk:X.env.scope.kind=.function) (hN:X.N=N) (hsc:X.env.scope.names=(zad st).names)
 (hfree':∀y∈scope.names,y.2=.free->(zad st).names.lookup y.1=some .cell) (hcell:∀y∈scope.names,y.2≠.cell) (hkind:scope.kind=.function) (hnames:∀y∈scope.names,y.2=.local->scope.names.lookup y.1=some .local)
 (hfr':zeL N (zad st).names scope.names NC fr=true) (hlen:fr.length=NC.length) (hap:apart is fr=true)
 (hg:∀cl C s0 H0 ex pn,VG (cxC X scope cl NC C s0 H0 ex pn) tg is g) (ht:∀cl C s0 H0 ex pn,VTs (cxC X scope cl NC C s0 H0 ex pn) ifs ft) (he:∀cl C s0 H0 ex pn,VE (cxC X scope cl NC C s0 H0 ex pn) elt fe)
 (hs:∀x,foldedSetIterable iter X.env x=pure x:=by intro _;rfl):VN X (.ListComp elt [⟨tg,iter,ifs,0⟩] scope pos) (zgA fr fi g ft fe):=
 zki (RR:=fun _=>True) N st fr (fun _ _ _ _ _=>trivial) hcalm hi hcells hfk hN hsc hfree' hcell hkind hnames hfr' hlen hap hg ht (fun cl C s0 H0 ex pn _=>he cl C s0 H0 ex pn) hs
inductive RV where
 | told (d:D) | new (n:Nat) (d:D)
inductive Out where
 | nx (ρ:En) | ret (r:RV) (ρ:En) | bk (ρ:En) | ct (ρ:En)
abbrev FS:=En->Option Out
def RtAt (K:W.Frag)(Hz:Hp)(O:Pr)(ρ:En)(σ:L2.St)(H:Hp)(J:Addr->Prop)(v:V):RV->Prop
 | .told d=>Rp K H J v d
 | .new n d=>∃A fp,Ow K Hz O ρ σ H J fp/\RpU K H J n v d A/\A.Nodup/\(∀b∈A,¬J b/\Hz b=none)/\∀i:Nat,∀b∈A,b∉fp i
def Fits (K:W.Frag)(Hz:Hp)(Jz:Addr->Prop)(O:Pr)(H:Hp)(J:Addr->Prop)(E:Ends):Out->Prop
 | .nx ρ'=>∀σ' H' J',ST K Hz Jz O ρ' σ' H' J'->Keep K H J H' J'->E.nx σ' H'
 | .bk ρ'=>∀σ' H' J',ST K Hz Jz O ρ' σ' H' J'->Keep K H J H' J'->E.bk σ' H'
 | .ct ρ'=>∀σ' H' J',ST K Hz Jz O ρ' σ' H' J'->Keep K H J H' J'->E.ct σ' H'
 | .ret r ρ'=>∀v σ' H' J',ST K Hz Jz O ρ' σ' H' J'->RtAt K Hz O ρ' σ' H' J' v r->E.rt v H'
theorem Fits.keep {K:W.Frag}{Hz:Hp}{Jz:Addr->Prop}{O:Pr}{H H1:Hp}{J J1:Addr->Prop}{E:Ends}(k:Keep K H J H1 J1):∀{o:Out},Fits K Hz Jz O H J E o->Fits K Hz Jz O H1 J1 E o
 | .nx _,h=>fun σ' H' J' s q=>h σ' H' J' s (k.trans q)
 | .bk _,h=>fun σ' H' J' s q=>h σ' H' J' s (k.trans q)
 | .ct _,h=>fun σ' H' J' s q=>h σ' H' J' s (k.trans q)
 | .ret _ _,h=>h
def GoS (K:W.Frag)(t:TS)(g:FS):Prop:=∀Hz Jz O ρ σ H J o E,ST K Hz Jz O ρ σ H J->g ρ=some o->Fits K Hz Jz O H J E o->t E σ H
def VS (X:Cx)(st:Stmt)(g:FS):Prop:=∃t,PS X st t/\GoS X.K t g
def VSs (X:Cx)(sts:List Stmt)(g:FS):Prop:=∃t,PSs X sts t/\GoS X.K t g
def gSeq (a b:FS):FS:=fun ρ=>(a ρ).bind fun o=>match o with
 | .nx ρ'=>b ρ'
 | .bk ρ'=>some (.bk ρ')
 | .ct ρ'=>some (.ct ρ')
 | .ret d ρ'=>some (.ret d ρ')
def gNx:FS:=fun ρ=>some (.nx ρ)
theorem RpL.one {K:W.Frag}{H:Hp}{J:Addr->Prop}{vs:List V}{d:D}(r:RpL K H J vs [d]):∃v,vs = [v]/\Rp K H J v d:=by
 cases r with
 | cons h t=>cases t;exact⟨_,rfl,h⟩
section
variable {X:Cx}{K:W.Frag}{st:Stmt}{sts:List Stmt}{g g2:FS}{pos:Pos}{e a:Expr}{fa:FE}{fl:FA}{ft:FT}
theorem zak:VSs X [] gNx:=⟨_,zlE,fun Hz Jz O ρ σ H J o E s e w=>by cases e;exact w σ H J s Keep.refl⟩
theorem zoi {t u:TS}(h1:GoS K t g)(h2:GoS K u g2):GoS K (tSeq t u) (gSeq g g2):=by
 intro Hz Jz O ρ σ H J o E s e w;obtain⟨o1,e1,e⟩:=bind_some e;refine h1 Hz Jz O ρ σ H J o1 _ s e1 ?_;cases o1 with
 | nx ρ'=>exact fun σ' H' J' s' k=>h2 Hz Jz O ρ' σ' H' J' o E s' e (w.keep k)
 | bk ρ'=>cases e;exact w
 | ct ρ'=>cases e;exact w
 | ret d ρ'=>cases e;exact w
theorem zab (h1:VS X st g)(h2:VSs X sts g2):VSs X (st::sts) (gSeq g g2):=by
 obtain⟨t,p,q⟩:=h1;obtain⟨u,p2,q2⟩:=h2;exact⟨_,zjU p p2,zoi q q2⟩
theorem zaj (h:VS X st g):VSs X [st] g:=let ⟨t,p,q⟩:=h;⟨t,zlF p,q⟩
def frzE (i:Nat)(ρ:En):En:=match ρ[i]? with
 | some (.own _ d)=>ρ.set i (.val d)
 | _=>ρ
theorem zdz (i:Nat)(h:VSs X sts g):VSs X sts (fun ρ=>g (frzE i ρ)):=by
 obtain⟨t,p,q⟩:=h;refine⟨t,p,fun Hz Jz O ρ σ H J o E s e w=>?_⟩;have e:g (frzE i ρ)=some o:=e
 unfold frzE at e;cases z:ρ[i]? with
 | none=>rw[z] at e;exact q Hz Jz O ρ σ H J o E s e w
 | some x=>
   rw[z] at e;cases x with
   | own n d=>
     obtain⟨J',s',k⟩:=s.frz z;exact q Hz Jz O _ σ H J' o E s' e (w.keep k)
   | _=>exact q Hz Jz O ρ σ H J o E s e w
def gNo:FS:=fun _=>none
theorem zdc:VS X st gNo:=⟨_,zjW,fun Hz Jz O ρ σ H J o E s e w=>by cases e⟩
def gRet (f:FE):FS:=fun ρ=>(f ρ).bind fun d=>some (.ret (.told d) ρ)
theorem zat (h:VE X e fa):VS X (.Return (some e) pos) (gRet fa):=by
 obtain⟨t,p,q⟩:=h;refine⟨_,zid p,fun Hz Jz O ρ σ H J o E s e w=>?_⟩;obtain⟨d,e1,e⟩:=bind_some e;cases e;exact q Hz Jz O ρ σ H J d _ s e1 fun v H' J' u r=>w v σ H' J' (s.up u) r
def gEx (f:FE):FS:=fun ρ=>(f ρ).bind fun _=>some (.nx ρ)
theorem zcU (h:VE X e fa)(hs:swapsWith e none pos.line X.env=pure false:=by rfl):VS X (.Expr e pos) (gEx fa):=by
 obtain⟨t,p,q⟩:=h;refine⟨_,zed p hs,fun Hz Jz O ρ σ H J o E s e w=>?_⟩;obtain⟨d,e1,e⟩:=bind_some e;cases e;exact q Hz Jz O ρ σ H J d _ s e1 fun v H' J' u r=>w σ H' J' (s.up u) u.keep
def gIf (c:FT)(a b:FS):FS:=fun ρ=>(c ρ).bind fun k=>if k then a ρ else b ρ
theorem zbI {c:Expr}{bs os:List Stmt}(hc:VT X c ft)(ha:VSs X bs g)(hb:VSs X os g2):VS X (.If c bs os pos) (gIf ft g g2):=by
 obtain⟨tc,pc,qc⟩:=hc;obtain⟨t,p,q⟩:=ha;obtain⟨u,p2,q2⟩:=hb;refine⟨_,zpb pc p p2,fun Hz Jz O ρ σ H J o E s e w=>?_⟩;obtain⟨k,e1,e⟩:=bind_some e;refine qc Hz Jz O ρ σ H J k _ s e1 fun H1 J1 u1=>?_
 cases k with
 | true=>exact iteT (q Hz Jz O ρ σ H1 J1 o E (s.up u1) e (w.keep u1.keep))
 | false=>exact iteF (q2 Hz Jz O ρ σ H1 J1 o E (s.up u1) e (w.keep u1.keep))
def gSet (i:Nat)(f:FE):FS:=fun ρ=>(f ρ).bind fun d=>if i<ρ.length/\isPar (ρ[i]?)=false then some (.nx (ρ.set i (.val d))) else none
theorem zlh {i:Nat}{t:TE}(q:GoE K t fa):GoS K (tAsg t (zeH i)) (gSet i fa):=by
 intro Hz Jz O ρ σ H J o E s e w;obtain⟨d,e1,e⟩:=bind_some e;by_cases hi:i<ρ.length/\isPar (ρ[i]?)=false
 ·rw[if_pos hi] at e;cases e;exact q Hz Jz O ρ σ H J d _ s e1 fun v H' J' u r=>w _ H' J' ((s.up u).set r hi.1 (zcC hi.2)) u.keep
 ·rw[if_neg hi] at e;cases e
theorem zaE {i:Nat}{x:Str}{pos':Pos}(hN:X.N.Nodup)(hi:X.N[i]?=some x)(hx:Loc X.env.scope x)(h:VE X e fa)(hs:swapsWith e (some (.Name x pos')) pos.line X.env=pure false:=by rfl)(hf:X.fn x=true\/X.env.scope.names.lookup x=some .local:=by first | exact .inl rfl | exact .inr rfl | assumption) :
 VS X (.Assign [.Name x pos'] e pos) (gSet i fa):=by
 obtain⟨t,p,q⟩:=h;exact⟨_,zgX hN hi hx p hs hf,zlh q⟩
def gOwn (i:Nat)(f:FA):FS:=fun ρ=>(f ρ).bind fun ds=>if i<ρ.length/\isPar (ρ[i]?)=false then some (.nx (ρ.set i (.own 1 (.lst ds)))) else none
theorem zli {i:Nat}{t:TE}(q:GoN K t fl):GoS K (tAsg t (zeH i)) (gOwn i fl):=by
 intro Hz Jz O ρ σ H J o E s e w;obtain⟨ds,e1,e⟩:=bind_some e;by_cases hi:i<ρ.length/\isPar (ρ[i]?)=false
 ·rw[if_pos hi] at e;cases e;refine q Hz Jz O ρ σ H J ds _ s e1 fun p vs H' J' u hp nj h' r=>w _ H' J' (s.setOwn (A:=[p]) u (fun b hb=>by rw[List.mem_singleton.mp hb];exact hp) (.lst h' (RpUL.of r)) (by simp) (fun b hb=>by rw[List.mem_singleton.mp hb];exact nj) hi.1 (zcC hi.2)) u.keep
 ·rw[if_neg hi] at e;cases e
def gRetO (i:Nat):FS:=fun ρ=>match ρ[i]? with
 | some (.own n d)=>some (.ret (.new n d) (ρ.set i .un))
 | _=>none
theorem ST.move {Hz H:Hp}{Jz J:Addr->Prop}{O:Pr}{ρ:En}{σ:L2.St}{i n:Nat}{d:D}(s:ST K Hz Jz O ρ σ H J)(h0:ρ[i]?=some (.own n d)):∃v,σ[i]?=some (some v)/\ST K Hz Jz O (ρ.set i .un) σ H J/\RtAt K Hz O (ρ.set i .un) σ H J v (.new n d):=by
 have hp:∀n d,ρ[i]?≠some (.par n d):=fun m e z=>by rw[h0] at z;cases z
 obtain⟨fp,w⟩:=s.ow;have hat:=w.at' i
 rw[h0] at hat
 obtain⟨⟨v,hv,r⟩,hn⟩:=hat
 have hi:i<ρ.length:=(List.getElem?_eq_some_iff.mp h0).1
 refine⟨v,hv,s.drop hp,fp i,zhR fp i [],w.put (i:=i) (A:=[]) Keep.refl (fun _ _ _ _ _ h=>h) (fun j _=>w.nj j) (fun j e=>List.getElem?_set_ne (Ne.symm e)) (fun _ _=>rfl) ?_ List.nodup_nil (by simp) (by simp),r,w.nd i,fun b hb=>⟨w.nj i b hb,hn b hb⟩,fun j b hb=>?_⟩
 ·rw[List.getElem?_set_self hi];rfl
 ·by_cases e:j=i
  ·subst e;rw[zbd];simp
  ·rw[zbx e];exact fun hb2=>w.dj j i e b hb2 hb
theorem zmg (i:Nat){x:Str}{p:Pos}(hN:X.N[i]?=some x:=by rfl)(hv:Vis X.env.scope x:=by first | exact Or.inl rfl | exact Or.inr (Or.inl rfl) | exact Or.inr (Or.inr rfl))(hd:(x == ("__debug__" : Str))=false:=by decide)
 (hcd:(x == ("__classdict__" : Str))=false:=by decide):VS X (.Return (some (.Name x p)) pos) (gRetO i):=by
 refine⟨_,zid (zb0 hN hv hd hcd),fun Hz Jz O ρ σ H J o E s e w=>?_⟩;unfold gRetO at e;split at e
 ·rename_i n d z
  cases e;obtain⟨v,hv,s',r⟩:=s.move z;exact⟨v,hv,w v σ H J s' r⟩
 ·cases e
def gRetN (f:FA):FS:=fun ρ=>(f ρ).bind fun ds=>some (.ret (.new 1 (.lst ds)) ρ)
theorem zek (h:VN X e fl):VS X (.Return (some e) pos) (gRetN fl):=by
 obtain⟨t,p,q⟩:=h;refine⟨_,zid p,fun Hz Jz O ρ σ H J o E s e w=>?_⟩;obtain⟨ds,e1,e⟩:=bind_some e;cases e;refine q Hz Jz O ρ σ H J ds _ s e1 fun p vs H' J' u hp nj h' r=>?_
 obtain⟨fp,ow⟩:=(s.up u).ow;obtain⟨fp0,ow0⟩:=s.ow;have s':=s.up u
 refine w _ σ H' J' s' ⟨[p],fp0,⟨fun i=>(ow0.at' i).keep u.keep fun b _=>u.same b,ow0.nd,fun i b hb jb=>?_,ow0.dj⟩,.lst h' (RpUL.of r),by simp,fun b hb=>?_,fun i b hb hb2=>?_⟩
 ·rcases u.jn b jb with jb | jb
  ·exact ow0.nj i b hb jb
  ·obtain⟨o,e,_⟩:=(ow0.at' i).ru b hb;rw[e] at jb;cases jb
 ·rw[List.mem_singleton.mp hb];refine⟨nj,?_⟩;cases e:Hz p with
  | none=>rfl
  | some o=>exact absurd hp (s.al p (by rw[e];simp))
 ·rw[List.mem_singleton.mp hb] at hb2;obtain⟨o,e,_⟩:=(ow0.at' i).ru p hb2;rw[hp] at e;cases e
theorem zdR {i:Nat}{x:Str}{pos':Pos}(hN:X.N.Nodup)(hi:X.N[i]?=some x)(hx:Loc X.env.scope x)(h:VN X e fl)(hs:swapsWith e (some (.Name x pos')) pos.line X.env=pure false:=by rfl)(hf:X.fn x=true\/X.env.scope.names.lookup x=some .local:=by first | exact .inl rfl | exact .inr rfl | assumption) :
 VS X (.Assign [.Name x pos'] e pos) (gOwn i fl):=by
 obtain⟨t,p,q⟩:=h;exact⟨_,zgX hN hi hx p hs hf,zli q⟩
def gAsg (f:FE)(g:FG):FS:=fun ρ=>(f ρ).bind fun d=>(g d ρ).bind fun ρ'=>some (.nx ρ')
theorem ziY {tg:Expr}{is:List Nat}{fg:FG}(h:VE X e fa)(hg:VG X tg is fg)(hs:swapsWithSole [tg] e pos.line X.env=pure false:=by rfl)(hw:swappedStores [tg] e X.env=pure none:=by rfl)(h1:(assignEach [tg] X.env).map (·.2) = [assign tg X.env]:=by rfl):VS X (.Assign [tg] e pos) (gAsg fa fg):=by
 obtain⟨t,p,q⟩:=h;obtain⟨u,p2,q2⟩:=hg;refine⟨_,zif p p2 hs hw h1,fun Hz Jz O ρ σ H J o E s e w=>?_⟩;obtain⟨d,e1,e⟩:=bind_some e;obtain⟨ρ',e2,e⟩:=bind_some e;cases e;exact q Hz Jz O ρ σ H J d _ s e1 fun v H' J' u r=>q2.2 Hz Jz O ρ σ H' J' v d ρ' _ (s.up u) r e2 fun σ' s'=>w σ' H' J' s' u.keep
def setO (ρ:En)(i:Nat)(d:D):En:=ρ.set i (putD (ρ[i]?) d)
theorem ST.top {Hz H H':Hp}{Jz J:Addr->Prop}{O:Pr}{ρ:En}{σ:L2.St}{i:Nat}{ds es:List D}(s:ST K Hz Jz O ρ σ H J)(h0:ownD (ρ[i]?)=some (1,.lst ds)):∃a vs,σ[i]?=some (some (.ref a))/\H a=some (.lst vs)/\RpL K H J vs ds/\
 ∀(us:List V) (es:List D),RpL K H J us es->ST K Hz Jz O (setO ρ i (.lst es)) σ (upd H a (.lst us)) J/\Keep K H J (upd H a (.lst us)) J:=by
 obtain⟨v,A,hv,r,nd,nj,go⟩:=s.chg h0;obtain⟨a,vs,rfl,rfl,ha,rl⟩:=r.one;refine⟨a,vs,hv,ha,rl,fun us es re=>?_⟩;have nja:¬J a:=nj a (by simp)
 have kp:Keep K H J (upd H a (.lst us)) J:=zcS ha nja
 refine go (upd H a (.lst us)) J (.lst es) [a] (fun b o hb h=>?_) (fun b h=>?_) (fun _ h=>h) (fun _ h=>.inl h) (fun b h=>?_) (.lst zai (RpUL.of (re.keep kp))) (by simp) nj (fun b hb=>.inl hb)
 ·rw[zah (fun z=>hb (by simp[z]))];exact h
 ·by_cases e:b=a
  ·subst e;rw[zai];simp
  ·rw[zah e];exact h
 ·by_cases e:b=a
  ·subst e;rw[zai];simp
  ·rw[zah e];exact s.ja b h
def gApp (i:Nat)(f:FE):FS:=fun ρ=>(f ρ).bind fun d=>match ownD (ρ[i]?) with
 | some (1,.lst ds)=>if ds.length<lim then some (.nx (setO ρ i (.lst (ds++[d])))) else none
 | _=>none
theorem zoj {i:Nat}{t:TA}(q:GoA K t fl)(f:FE)(hf:∀ρ d,f ρ=some d->fl ρ=some [d]):GoS K (zjV (tBM K "list" zfk (tVar i) t)) (gApp i f):=by
 intro Hz Jz O ρ σ H J o E s e w;obtain⟨d,e1,e⟩:=bind_some e;split at e
 ·rename_i ds z
  by_cases hl:ds.length<lim
  ·rw[if_pos hl] at e;cases e;obtain⟨a,vs,ha,hv,_,_⟩:=s.top (H':=H) (es:=[]) z;refine⟨.ref a,ha,.inl ⟨rfl,vs,SqL.of hv⟩,q Hz Jz O ρ σ H J [d] _ s (hf ρ d e1) fun ws H1 J1 u1 r1=>?_⟩;obtain⟨v,rfl,rv⟩:=r1.one;obtain⟨a',vs',ha',hv',rl,go⟩:=(s.up u1).top (H':=H) (es:=[]) z;rw[ha] at ha';cases ha';refine⟨a,vs',v,rfl,rfl,hv',by rw[rl.length];exact Nat.lt_of_lt_of_le hl (Nat.le_of_lt zeY),?_⟩;obtain⟨s2,k2⟩:=go (vs'++[v]) (ds++[d]) (rl.append (.cons rv .nil));exact w σ _ J1 s2 (u1.keep.trans k2)
  ·rw[if_neg hl] at e;cases e
 ·cases e
theorem zel (i:Nat){x:Str}{xp apos cpos:Pos}(h:VE X e fa)(hN:X.N[i]?=some x:=by rfl)(hv:Vis X.env.scope x:=by first | exact Or.inl rfl | exact Or.inr (Or.inl rfl) | exact Or.inr (Or.inr rfl))(hd:(x == ("__debug__" : Str))=false:=by decide)
 (hcd:(x == ("__classdict__" : Str))=false:=by decide) (h1:starEach [e] X.env=(false,eval e X.env)::starEach [] X.env:=by rfl)
 (hbase:attributeBase (.Name x xp) "append" X.env (eval (.Name x xp) X.env)=eval (.Name x xp) X.env:=by rfl)
 (hfew:((backTo cpos (starEach [e] X.env)).all (fun x=>!x.1)&&(backToKw cpos (keywordEach [] X.env)).all (fun x=>x.1.isSome)
  && decide ([e].length+([]:List Keyword).length+(if([]:List Keyword).isEmpty then 0 else 1)<30))=true:=by rfl)
 (hline:(apos.endLine == cpos.line)=true:=by rfl) (hs:starEach [e] X.env = [(false,eval e X.env)]:=by rfl) (hsw:swapsWith (.Call (.Attribute (.Name x xp) "append" apos) [e] [] cpos) none pos.line X.env=pure false:=by rfl) :
 VS X (.Expr (.Call (.Attribute (.Name x xp) "append" apos) [e] [] cpos) pos) (gApp i fa):=by
 obtain⟨t,p,q⟩:=zaa h zae h1;refine⟨_,zed (papp (zb0 hN hv hd hcd) p hbase hfew hline hs) hsw,zoj q fa fun ρ d e=>?_⟩;show((fa ρ).bind fun x=>(aNil ρ).bind fun xs=>some (x::xs))=some [d]
 rw[e];rfl
def gExt (i:Nat)(f:FE):FS:=fun ρ=>(f ρ).bind fun d=>match d,ownD (ρ[i]?) with
 | .lst es,some (1,.lst ds)=>if(ds++es).length<=lim then some (.nx (setO ρ i (.lst (ds++es)))) else none
 | _,_=>none
theorem zok {i:Nat}{t:TA}(q:GoA K t fl)(f:FE)(hf:∀ρ d,f ρ=some d->fl ρ=some [d]):GoS K (zjV (tBM K "list" zit (tVar i) t)) (gExt i f):=by
 intro Hz Jz O ρ σ H J o E s e w;obtain⟨d,e1,e⟩:=bind_some e;split at e
 ·rename_i es ds z
  by_cases hl:(ds++es).length<=lim
  ·rw[if_pos hl] at e;cases e;obtain⟨a,vs,ha,hv,_,_⟩:=s.top (H':=H) (es:=[]) z;refine⟨.ref a,ha,.inl ⟨rfl,vs,SqL.of hv⟩,q Hz Jz O ρ σ H J [.lst es] _ s (hf ρ _ e1) fun ws H1 J1 u1 r1=>?_⟩;obtain⟨v,rfl,rv⟩:=r1.one;obtain⟨b,us,rfl,hb,rb⟩:=RpW.lst (.inl rv);obtain⟨a',vs',ha',hv',rl,go⟩:=(s.up u1).top (H':=H) (es:=[]) z;rw[ha] at ha';cases ha';refine⟨a,b,vs',us,rfl,rfl,hv',hb,by rw[rl.length,rb.length,<-List.length_append];exact zcr hl,?_⟩;obtain⟨s2,k2⟩:=go (vs'++us) (ds++es) (rl.append rb);exact w σ _ J1 s2 (u1.keep.trans k2)
  ·rw[if_neg hl] at e;cases e
 ·cases e
theorem ziZ (i:Nat){x:Str}{xp apos cpos:Pos}(h:VE X e fa)(hN:X.N[i]?=some x:=by rfl)(hv:Vis X.env.scope x:=by first | exact Or.inl rfl | exact Or.inr (Or.inl rfl) | exact Or.inr (Or.inr rfl))(hd:(x == ("__debug__" : Str))=false:=by decide)
 (hcd:(x == ("__classdict__" : Str))=false:=by decide) (h1:starEach [e] X.env=(false,eval e X.env)::starEach [] X.env:=by rfl)
 (hbase:attributeBase (.Name x xp) "extend" X.env (eval (.Name x xp) X.env)=eval (.Name x xp) X.env:=by rfl)
 (hfew:((backTo cpos (starEach [e] X.env)).all (fun x=>!x.1)&&(backToKw cpos (keywordEach [] X.env)).all (fun x=>x.1.isSome)
  && decide ([e].length+([]:List Keyword).length+(if([]:List Keyword).isEmpty then 0 else 1)<30))=true:=by rfl)
 (hline:(apos.endLine == cpos.line)=true:=by rfl) (hs:starEach [e] X.env = [(false,eval e X.env)]:=by rfl) (hsw:swapsWith (.Call (.Attribute (.Name x xp) "extend" apos) [e] [] cpos) none pos.line X.env=pure false:=by rfl) :
 VS X (.Expr (.Call (.Attribute (.Name x xp) "extend" apos) [e] [] cpos) pos) (gExt i fa):=by
 obtain⟨t,p,q⟩:=zaa h zae h1;refine⟨_,zed (zlR PySem.F.plainAttrs_list PySem.F.slot_list_extend PySem.F.type_list_extend ziu (zb0 hN hv hd hcd) p hbase hfew hline hs rfl) hsw,zok q fa fun ρ d e=>?_⟩;show((fa ρ).bind fun x=>(aNil ρ).bind fun xs=>some (x::xs))=some [d]
 rw[e];rfl
end
def forL (tg:FG)(b:FS):List D->En->Option Out
 | [],ρ=>some (.nx ρ)
 | d::r,ρ=>(tg d ρ).bind fun ρ1=>(b ρ1).bind fun o=>match o with
   | .nx ρ2=>forL tg b r ρ2
   | .ct ρ2=>forL tg b r ρ2
   | .bk ρ2=>some (.nx ρ2)
   | .ret d ρ2=>some (.ret d ρ2)
def gFor (fi:FA)(tg:FG)(b:FS):FS:=fun ρ=>(fi ρ).bind fun ds=>forL tg b ds ρ
section
variable {X:Cx}{K:W.Frag}{fi:FA}{g:FS}{pos:Pos}{ft:FT}
theorem zol {wi:TI}{tb:TS}{tg:TG}{fg:FG}{is:List Nat}(hi:GoI K wi fi)(hg:GoG K tg is fg)(hb:GoS K tb g):GoS K (tFor wi tg tb) (gFor fi fg g):=by
 intro Hz Jz O ρ σ H J o E s e w;obtain⟨ds,e1,e⟩:=bind_some e;refine hi Hz Jz O ρ σ H J ds _ s e1 fun I H1 J1 u1 src=>?_
 refine⟨fun i m σ' H'=>m=ds.length - i/\i<=ds.length/\∃ρ' J',ST K Hz Jz O ρ' σ' H' J'/\Keep K H1 J1 H' J'/\forL fg g (ds.drop i) ρ'=some o,⟨ds.length,by simp,Nat.zero_le _,ρ,J1,s.up u1,Keep.refl,by simpa using e⟩,?_⟩;rintro i m σ2 H2 ⟨rfl,hil,ρ2,J2,s2,k2,e2⟩;obtain⟨stop,turn⟩:=src H2 J2 k2 s2.ja;by_cases hlt:i<ds.length
 ·right
  have hd:ds[i]?=some ds[i]:=List.getElem?_eq_getElem hlt
  generalize hdd:ds[i]=d at hd;obtain⟨go,yl⟩:=turn i d hd;have edrop:ds.drop i=d::ds.drop (i+1):=by rw[<-hdd];exact(List.getElem_cons_drop hlt).symm
  rw[edrop] at e2;unfold forL at e2;obtain⟨ρ3,eg,e2⟩:=bind_some e2;obtain⟨ob,eb,e2⟩:=bind_some e2;refine⟨go,fun σ' H'=>∃ρ' J',ST K Hz Jz O ρ' σ' H' J'/\Keep K H1 J1 H' J'/\forL fg g (ds.drop (i+1)) ρ'=some o,fun σ' H' h=>⟨ds.length - (i+1),by omega,rfl,hlt,h⟩,fun x H3 y=>?_⟩;obtain⟨J3,u3,r3⟩:=yl x H3 y;refine hg.2 Hz Jz O ρ2 σ2 H3 J3 x d ρ3 _ (s2.up u3) r3 eg fun σ4 s4=>?_
  refine hb Hz Jz O ρ3 σ4 H3 J3 ob _ s4 eb ?_;have k3:=k2.trans u3.keep
  cases ob with
  | nx ρ5=>exact fun σ5 H5 J5 s5 k5=>⟨ρ5,J5,s5,k3.trans k5,e2⟩
  | ct ρ5=>exact fun σ5 H5 J5 s5 k5=>⟨ρ5,J5,s5,k3.trans k5,e2⟩
  | bk ρ5=>cases e2;exact fun σ5 H5 J5 s5 k5=>w σ5 H5 J5 s5 ((u1.keep.trans k3).trans k5)
  | ret d ρ5=>cases e2;exact w
 ·left
  have hi':i=ds.length:=by omega
  subst hi';rw[List.drop_length] at e2;cases e2;exact⟨stop,w σ2 H2 J2 s2 (u1.keep.trans k2)⟩
theorem zbQ {tg iter:Expr}{body:List Stmt}{is:List Nat}{fg:FG}(hi:VI X tg iter fi)(hg:VG X tg is fg)(hb:VSs X body g)(hp:PassesOwn (model X.prog X.w) X.A X.env X.xe:=by exact PassesOwn.never)(hc:X.calm=true:=by rfl)
 (hs:∀x,foldedSetIterable iter X.env x=pure x:=by intro _;rfl):VS X (.For tg iter body [] pos) (gFor fi fg g):=by
 obtain⟨wi,p1,q1⟩:=hi;obtain⟨t,p2,q2⟩:=hg;obtain⟨tb,p3,q3⟩:=hb;exact⟨_,zk1 hp hc p1 p2 p3 hs,zol q1 q2 q3⟩
end
theorem zhd (N:List Str)(st:Stmt){X:Cx}{i:Nat}{x:Str}{elt iter tg:Expr}{ifs:List Expr}{scope:Scope}{pos pos' cp:Pos}{NC:List Str}(fr:List (Option Nat)){fi:FA}{g:FG}{is:List Nat}{ft:FT}{fe:FE}(hND:X.N.Nodup)(hix:X.N[i]?=some x)(hx:Loc X.env.scope x){RR:Hp->Prop}(hRR:∀pins σ H s,Inv X pins σ H s->RR H)(hcalm:X.calm=true)(hi:VI X tg iter fi)
 (hcells:∀x,X.env.scope.names.lookup x=some .cell->∃c,X.env.cells.lookup x=some c) (hfk:X.env.scope.kind=.function) (hN:X.N=N) (hsc:X.env.scope.names=(zad st).names)
 (hfree':∀y∈scope.names,y.2=.free->(zad st).names.lookup y.1=some .cell) (hcell:∀y∈scope.names,y.2≠.cell) (hkind:scope.kind=.function) (hnames:∀y∈scope.names,y.2=.local->scope.names.lookup y.1=some .local)
 (hfr':zeL N (zad st).names scope.names NC fr=true) (hlen:fr.length=NC.length) (hap:apart is fr=true)
 (hg:∀cl C s0 H0 ex pn,VG (cxC X scope cl NC C s0 H0 ex pn) tg is g) (ht:∀cl C s0 H0 ex pn,VTs (cxC X scope cl NC C s0 H0 ex pn) ifs ft) (he:∀cl C s0 H0 ex pn,RR H0->VE (cxC X scope cl NC C s0 H0 ex pn) elt fe)
 (hs:∀x,foldedSetIterable iter X.env x=pure x:=by intro _;rfl) (hsw:swapsWith (.ListComp elt [⟨tg,iter,ifs,0⟩] scope cp) (some (.Name x pos')) pos.line X.env=pure true:=by rfl)
 (hf:X.fn x=true\/X.env.scope.names.lookup x=some .local:=by first | exact .inl rfl | exact .inr rfl | assumption) :
 VS X (.Assign [.Name x pos'] (.ListComp elt [⟨tg,iter,ifs,0⟩] scope cp) pos) (gSet i (eL (zgA fr fi g ft fe)))/\VS X (.Assign [.Name x pos'] (.ListComp elt [⟨tg,iter,ifs,0⟩] scope cp) pos) (gOwn i (zgA fr fi g ft fe)):=by
 obtain⟨wi,pi,gi⟩:=hi;obtain⟨_,_,hon,_⟩:=hg [] 0 X.s₀ X.Hz [] [];have p:=zg7 N st (i:=i) (pos:=pos) (pos':=pos') (cp:=cp) fr hND hix hx hRR hcalm pi hcells hfk hN hsc hfree' hcell hkind hnames hfr' hlen (fun cl C s0 H0 ex pn=>show PG (cxC X scope cl NC C s0 H0 ex pn) tg (TGof X.K g) from(hg cl C s0 H0 ex pn).of) (fun cl C s0 H0 ex pn=>show PTs (cxC X scope cl NC C s0 H0 ex pn) ifs (TTof X.K ft) from ht cl C s0 H0 ex pn) (fun cl C s0 H0 ex pn r=>show PE (cxC X scope cl NC C s0 H0 ex pn) elt (TEof X.K fe) from(he cl C s0 H0 ex pn r).of) hs hsw hf
 exact⟨⟨_,p,zlh (zlb (zgB gi hon hap))⟩,⟨_,p,zli (zgB gi hon hap)⟩⟩
theorem zgC (N:List Str)(st:Stmt){X:Cx}{i:Nat}{x:Str}{elt iter tg:Expr}{ifs:List Expr}{scope:Scope}{pos pos' cp:Pos}{NC:List Str}(fr:List (Option Nat)){fi:FA}{g:FG}{is:List Nat}{ft:FT}{fe:FE}(hND:X.N.Nodup)(hix:X.N[i]?=some x)(hx:Loc X.env.scope x)(hcalm:X.calm=true)(hi:VI X tg iter fi)
 (hcells:∀x,X.env.scope.names.lookup x=some .cell->∃c,X.env.cells.lookup x=some c) (hfk:X.env.scope.kind=.function) (hN:X.N=N) (hsc:X.env.scope.names=(zad st).names)
 (hfree':∀y∈scope.names,y.2=.free->(zad st).names.lookup y.1=some .cell) (hcell:∀y∈scope.names,y.2≠.cell) (hkind:scope.kind=.function) (hnames:∀y∈scope.names,y.2=.local->scope.names.lookup y.1=some .local)
 (hfr':zeL N (zad st).names scope.names NC fr=true) (hlen:fr.length=NC.length) (hap:apart is fr=true)
 (hg:∀cl C s0 H0 ex pn,VG (cxC X scope cl NC C s0 H0 ex pn) tg is g) (ht:∀cl C s0 H0 ex pn,VTs (cxC X scope cl NC C s0 H0 ex pn) ifs ft) (he:∀cl C s0 H0 ex pn,VE (cxC X scope cl NC C s0 H0 ex pn) elt fe)
 (hs:∀x,foldedSetIterable iter X.env x=pure x:=by intro _;rfl) (hsw:swapsWith (.ListComp elt [⟨tg,iter,ifs,0⟩] scope cp) (some (.Name x pos')) pos.line X.env=pure true:=by rfl)
 (hf:X.fn x=true\/X.env.scope.names.lookup x=some .local:=by first | exact .inl rfl | exact .inr rfl | assumption) :
 VS X (.Assign [.Name x pos'] (.ListComp elt [⟨tg,iter,ifs,0⟩] scope cp) pos) (gSet i (eL (zgA fr fi g ft fe)))/\VS X (.Assign [.Name x pos'] (.ListComp elt [⟨tg,iter,ifs,0⟩] scope cp) pos) (gOwn i (zgA fr fi g ft fe)):=
 zhd (RR:=fun _=>True) N st fr hND hix hx (fun _ _ _ _ _=>trivial) hcalm hi hcells hfk hN hsc hfree' hcell hkind hnames hfr' hlen hap hg ht (fun cl C s0 H0 ex pn _=>he cl C s0 H0 ex pn) hs hsw hf
section
variable {P:Program}{w:World}{K:W.Frag}{mg:Str->Option Value}{base:Heap}
theorem ST.out {Hz H:Hp}{Jz J:Addr->Prop}{ρ:En}{σ:L2.St}(s:ST K Hz Jz Pr.no ρ σ H J):Up Hz Jz H J:=⟨fun b o=>s.same b o (fun⟨_,h⟩ =>by simp[Pr.no] at h),s.j0,s.jn,s.ja⟩
theorem zhe {N:List Str}{H:Hp}{J:Addr->Prop}{vs:List V}{ds:List D}(ja:∀a,J a->H a≠none)(r:RpL K H J vs ds):ST K H J Pr.no (ds.map SV.val++List.replicate (N.length - ds.length) .un) (start N vs) H J where
 same:=fun _ _ _ h=>h
 j0:=fun _ h=>h
 jn:=fun _ h=>.inl h
 ja:=ja
 al:=fun _ h=>h
 ps:=fun q hq=>absurd hq (by simp[Pr.no])
 len:=by simp[L2.start,r.length]
 vl:=fun i x h=>by
  rw[List.getElem?_append] at h;by_cases hi:i<(ds.map SV.val).length
  ·rw[if_pos hi,List.getElem?_map] at h;cases q:ds[i]? with
   | none=>rw[q] at h;cases h
   | some d=>
     rw[q] at h;cases h;obtain⟨v,hv,rv⟩:=r.get q;refine⟨v,?_,rv⟩;unfold L2.start;rw[List.getElem?_append_left (by simp at hi⊢;rw[r.length];exact hi),List.getElem?_map,hv];rfl
  ·rw[if_neg hi] at h;have:=List.mem_of_getElem? h
   cases List.eq_of_mem_replicate this
 ow:=⟨fun _=>[],fun i=>ziW (by
  cases h:(List.map SV.val ds++List.replicate (N.length - ds.length) SV.un)[i]? with
  | none=>rfl
  | some x=>
    rcases List.mem_append.mp (List.mem_of_getElem? h) with h | h
    ·obtain⟨d',_,h⟩:=List.mem_map.mp h;subst h;rfl
    ·cases List.eq_of_mem_replicate h;rfl),fun _=>List.nodup_nil,fun _ b hb=>absurd hb (by simp),fun _ _ _ b hb=>absurd hb (by simp)⟩
end
theorem zfo {X:Cx}(hc:X.calm=true):zb7 X (.builtin "all") (fun xs H Q=>∃(p:Addr) (bs:List Bool),xs = [.ref p]/\SqL X.K H p (bs.map V.bl)/\Q (.bl (bs.all id)) H):=fun pins s σ H xs us Q I r h=>zeI (I.ok.hd hc) pins s σ H xs us Q I r h
theorem zfp {X:Cx}(hc:X.calm=true):zb7 X (.builtin "any") (fun xs H Q=>∃(p:Addr) (bs:List Bool),xs = [.ref p]/\SqL X.K H p (bs.map V.bl)/\Q (.bl (bs.any id)) H):=fun pins s σ H xs us Q I r h=>zeJ (I.ok.hd hc) pins s σ H xs us Q I r h
theorem zi0 {P:Program}{w:World}{K:W.Frag}{mg:Str->Option Value}{base:Heap}{f:Addr}{fd:FuncData}{ps:List Str}{x:Str}{b:(List D->Option D)->List D->Option D}{m:Nat->List D->Option D}(h0:∀ds,m 0 ds=none)(hs:∀n,m (n+1)=b (m n))
 (bd:Binds K fd ps []) (kp:W.keepIn K (.ref f)=true) (mx:mg x=some (.ref f)) {k:Nat}(hlen:∀n ds d,m n ds=some d->ds.length=ps.length)
 (step:∀{n:Nat}{self:List D->Option D},Cal P w K mg base (k+n) x ps (spF K self)->FnOk P w K mg base CX0 (k+n+1) f fd ps (spF K (b self))):∀n,FnOk P w K mg base CX0 (k+n) f fd ps (spF K (m n))
 | 0=>by
   refine⟨fun vs H Q E h=>?_,fun A outer s H args us vs Q E _ _ _ _ h=>?_⟩
   ·obtain⟨J,ds,d,_,_,e,_⟩:=h;rw[h0] at e;cases e
   ·obtain⟨J,ds,d,_,_,e,_⟩:=h;rw[h0] at e;cases e
 | n+1=>by
   rw[hs];exact step ⟨f,fd,zi0 h0 hs bd kp mx hlen step n,bd,kp,mx⟩
section
variable {K:W.Frag}{mg:Str->Option Value}
theorem zdd {x:Str}{n:Int}{t:Tok}(h:mg x=some (.int n t)):GlobD K mg x (.int n):=⟨_,.int n,h,⟨t,rfl⟩,fun _ _=>.int n⟩
theorem zhf {x:Str}{p:Addr}{o:Obj}{its:Array Value}{n:Nat}{vs:List V}{ds:List D}(h:mg x=some (.ref p))(l:K.lookup p=some o)(hc:o.cls=.type "tuple")(hd:o.data=.seq its n)(hz:its.size<=sizeLine)(hv:Vals vs its.toList)(hr:∀H J,RpL K H J vs ds):GlobD K mg x (.tup ds):=
 ⟨_,.ref p,h,rfl,fun H J=>.tup (.inr ⟨o,its,n,l,hc,hd,hz,hv⟩) (hr H J)⟩
end
def tyD:D->String
 | .non=>"NoneType"
 | .bl _=>"bool"
 | .int _=>"int"
 | .str _=>"str"
 | .tup _=>"tuple"
 | .lst _=>"list"
 | .dct _ _=>"dict"
 | .scr _=>"list"
def isK (k T:String):Bool:=k == T||(k == "bool"&&T == "int")
structure Kit (K:W.Frag)(T:String):Prop where
 non:PySem.W.kitOne K (.type "NoneType") (.type T)=some (isK "NoneType" T)
 bl:PySem.W.kitOne K (.type "bool") (.type T)=some (isK "bool" T)
 int:PySem.W.kitOne K (.type "int") (.type T)=some (isK "int" T)
 str:PySem.W.kitOne K (.type "str") (.type T)=some (isK "str" T)
 tup:PySem.W.kitOne K (.type "tuple") (.type T)=some (isK "tuple" T)
 lst:PySem.W.kitOne K (.type "list") (.type T)=some (isK "list" T)
 dct:PySem.W.kitOne K (.type "dict") (.type T)=some (isK "dict" T)
def zlj (K:W.Frag):List V->Hp->VK->Prop:=fun xs H Q=>zn3 K xs H Q\/∃a vs n k,xs = [.ref a,.ty n]/\SqT K H a vs/\PySem.W.kitOne K (.type "tuple") (.type n)=some k/\Q (.bl k) H
theorem zhT {X:Cx}:zb7 X (.builtin "isinstance") (zlj X.K):=by
 intro pins s σ H xs us Q I r h;rcases h with h | ⟨a,vs,n,k,rfl,hs,e,q⟩
 ·exact zl6 pins s σ H xs us Q I r h
 ·obtain⟨u,w',rfl,r1,r2⟩:=zj0 r;obtain rfl:w'=Value.type n:=r2;obtain rfl:u=Value.ref a:=r1;obtain⟨its,_,p,_⟩:=I.tuple hs;obtain⟨o,h1,h2,_⟩:=p;exact PySem.W.kia_one PySem.W.kitx_tuple I.kIn ⟨o,h1,h2⟩ e (fun z=>nomatch z) fun tk=>⟨.bl k,H,I.tok _,rfl,q⟩
def isD (T:String):D->Option D
 | .scr _=>none
 | d=>some (.bl (isK (tyD d) T))
def zpr (T:String)(f:FE):FE:=fun ρ=>(f ρ).bind (isD T)
theorem zi1 {T:String}{Ts:Str}{X:Cx}{a:Expr}{fa:FE}{p q pos:Pos}(KT:Kit X.K T)(B:Blt X.mg)(hv:bootBuiltins Ts=some (.type T))(ha:VW X a fa)(hBT:Ts∈zbO:=by decide +kernel)(hgT:Gl X Ts:=by rfl)(hnT:Ts≠"__name__":=by decide)(hdT:(Ts == ("__debug__" : Str))=false:=by decide)(hg:Gl X "isinstance":=by rfl)
 (h1:starEach [a,.Name Ts q] X.env=(false,eval a X.env)::starEach [.Name Ts q] X.env:=by rfl) (h2:starEach [.Name Ts q] X.env=(false,eval (.Name Ts q) X.env)::starEach [] X.env:=by rfl)
 (hpl:(backTo pos (starEach [.Name Ts q] X.env)).any (·.1)=false:=by rfl):VE X (.Call (.Name "isinstance" p) [a,.Name Ts q] [] pos) (zpr T fa):=by
 obtain⟨t,pa,g⟩:=ha;refine⟨_,pb zhT B boot_isinstance (zbb pa (zbb (ptn (v:=.ty T) (u:=.type T) B hv rfl hBT hgT hnT hdT) zco h2) h1) (by decide +kernel) hg (by decide) (by decide) h1 hpl,?_⟩;intro Hz Jz O ρ σ H J d Q s e w;obtain⟨x,e1,e⟩:=bind_some e;refine g Hz Jz O ρ σ H J x _ s e1 fun v H1 J1 u1 r1=>?_
 show zlj X.K [v,.ty T] H1 Q
 cases x with
 | scr p=>cases e
 | non=>cases e;rw[r1.non];exact .inl ⟨_,_,_,_,rfl,.non,KT.non,w _ H1 J1 u1 (.bl _)⟩
 | bl b=>cases e;rw[r1.bl];exact .inl ⟨_,_,_,_,rfl,.bl b,KT.bl,w _ H1 J1 u1 (.bl _)⟩
 | int b=>cases e;rw[r1.int];exact .inl ⟨_,_,_,_,rfl,.int b,KT.int,w _ H1 J1 u1 (.bl _)⟩
 | str b=>cases e;rw[r1.str];exact .inl ⟨_,_,_,_,rfl,.str b,KT.str,w _ H1 J1 u1 (.bl _)⟩
 | tup ds=>cases e;obtain⟨a,vs,rfl,h1,_⟩:=r1.tup;exact .inr ⟨a,vs,T,_,rfl,h1,KT.tup,w _ H1 J1 u1 (.bl _)⟩
 | lst ds=>cases e;obtain⟨a,vs,rfl,h1,_⟩:=r1.lst;exact .inl ⟨_,_,_,_,rfl,.lst h1,KT.lst,w _ H1 J1 u1 (.bl _)⟩
 | dct ks ds=>cases e;obtain⟨a,kvs,vs,rfl,h1,_⟩:=r1.dct;exact .inl ⟨_,_,_,_,rfl,.dK h1,KT.dct,w _ H1 J1 u1 (.bl _)⟩
section
variable {K:W.Frag}{H H':Hp}{J J':Addr->Prop}
end
abbrev FX:=En->Option (D×En)
abbrev FR:=En->Option (RV×En)
abbrev FAX:=En->Option (List D×En)
section
variable (K:W.Frag)
def GoX (t:TE)(f:FX):Prop:=∀Hz Jz O ρ σ H J d ρ' Q,ST K Hz Jz O ρ σ H J->f ρ=some (d,ρ')->(∀v H' J',ST K Hz Jz O ρ' σ H' J'->Keep K H J H' J'->Rp K H' J' v d->Q v H')->t σ H Q
def GoR (t:TE)(f:FR):Prop:=∀Hz Jz O ρ σ H J r ρ' Q,ST K Hz Jz O ρ σ H J->f ρ=some (r,ρ')->(∀v H' J',ST K Hz Jz O ρ' σ H' J'->Keep K H J H' J'->RtAt K Hz O ρ' σ H' J' v r->Q v H')->t σ H Q
def GoAX (t:TA)(f:FAX):Prop:=∀Hz Jz O ρ σ H J ds ρ' Q,ST K Hz Jz O ρ σ H J->f ρ=some (ds,ρ')->(∀vs H' J',ST K Hz Jz O ρ' σ H' J'->Keep K H J H' J'->RpL K H' J' vs ds->Q vs H')->t σ H Q
end
def VX (X:Cx)(e:Expr)(f:FX):Prop:=∃t,PE X e t/\GoX X.K t f
def VR (X:Cx)(e:Expr)(f:FR):Prop:=∃t,PE X e t/\GoR X.K t f
def VAX (X:Cx)(es:List Expr)(f:FAX):Prop:=∃t,PA X es t/\GoAX X.K t f
section
variable {X:Cx}{K:W.Frag}{a b c e:Expr}{es rest:List Expr}{fa fb fc:FX}{fe:FE}{ft fu:FTX}{fl:FAX}{fr:FR}{pos p p2:Pos}
def xE (f:FE):FX:=fun ρ=>(f ρ).bind fun d=>some (d,ρ)
theorem VE.x (h:VE X e fe):VX X e (xE fe):=by
 obtain⟨t,p,g⟩:=h;refine⟨t,p,fun Hz Jz O ρ σ H J d _ Q s e w=>?_⟩;obtain⟨d',e1,e⟩:=bind_some e;cases e;exact g Hz Jz O ρ σ H J d Q s e1 fun v H' J' u r=>w v H' J' (s.up u) u.keep r
def xA (f:FA):FAX:=fun ρ=>(f ρ).bind fun d=>some (d,ρ)
theorem VA.x {f:FA}(h:VA X es f):VAX X es (xA f):=by
 obtain⟨t,p,g⟩:=h;refine⟨t,p,fun Hz Jz O ρ σ H J d _ Q s e w=>?_⟩;obtain⟨d',e1,e⟩:=bind_some e;cases e;exact g Hz Jz O ρ σ H J d Q s e1 fun v H' J' u r=>w v H' J' (s.up u) u.keep r
def RV.d:RV->D
 | .told d=>d
 | .new _ d=>d
def xR (f:FR):FX:=fun ρ=>(f ρ).bind fun q=>some (q.1.d,q.2)
theorem ST.tell {Hz H:Hp}{Jz J:Addr->Prop}{O:Pr}{ρ:En}{σ:L2.St}{v:V}{r:RV}(s:ST K Hz Jz O ρ σ H J)(q:RtAt K Hz O ρ σ H J v r):∃J',ST K Hz Jz O ρ σ H J'/\Keep K H J H J'/\Rp K H J' v r.d:=by
 cases r with
 | told d=>exact⟨J,s,Keep.refl,q⟩
 | new n d=>
   obtain⟨A,fp,ow,r,nd,hA,dj⟩:=q;have kp:Keep K H J H (fun b=>J b\/b∈A):=⟨fun _ h=>.inl h,fun _ _ _ h=>h,fun _ _ h=>h⟩
   refine⟨fun b=>J b\/b∈A,⟨s.same,fun b h=>.inl (s.j0 b h),fun b h=>?_,fun b h=>?_,s.len,fun j e h=>?_,⟨fp,fun i=>(ow.at' i).keep kp fun _ _ _ h=>h,ow.nd,fun i b hb jb=>?_,ow.dj⟩,s.ps,s.al⟩,kp,r.rp (fun _ h=>.inl h) (fun b hb=>.inr hb)⟩
   ·rcases h with h | h
    ·exact s.jn b h
    ·exact .inr (hA b h).2
   ·rcases h with h | h
    ·exact s.ja b h
    ·obtain⟨o,e,_⟩:=r.some b h;rw[e];simp
   ·obtain⟨v,e1,r1⟩:=s.vl j e h;exact⟨v,e1,r1.keep kp⟩
   ·rcases jb with jb | jb
    ·exact ow.nj i b hb jb
    ·exact dj i b jb hb
theorem VR.x (h:VR X e fr):VX X e (xR fr):=by
 obtain⟨t,p,g⟩:=h;refine⟨t,p,fun Hz Jz O ρ σ H J d _ Q s e w=>?_⟩;obtain⟨⟨r,ρ1⟩,e1,e⟩:=bind_some e;cases e;refine g Hz Jz O ρ σ H J r _ Q s e1 fun v H' J' s' k q=>?_
 obtain⟨J2,s2,k2,r2⟩:=s'.tell q;exact w v H' J2 s2 (k.trans k2) r2
def x2 (F:D->D->Option D)(f g:FX):FX:=fun ρ=>(f ρ).bind fun q=>(g q.2).bind fun r=>(F q.1 r.1).bind fun d=>some (d,r.2)
theorem zlk {r:R2}{F:D->D->Option D}{ta tb:TE}(im:Im2 K r F)(ga:GoX K ta fa)(gb:GoX K tb fb):GoX K (tOp r ta tb) (x2 F fa fb):=by
 intro Hz Jz O ρ σ H J d ρ' Q s e w;obtain⟨⟨x,ρ1⟩,ex,e⟩:=bind_some e;obtain⟨⟨y,ρ2⟩,ey,e⟩:=bind_some e;obtain⟨z,ez,e⟩:=bind_some e;cases e;refine ga Hz Jz O ρ σ H J x _ _ s ex fun v1 H1 J1 s1 k1 r1=>?_
 refine gb Hz Jz O ρ1 σ H1 J1 y _ _ s1 ey fun v2 H2 J2 s2 k2 r2=>?_
 exact im H2 J2 v1 v2 x y d Q s2.ja (.inl (r1.keep k2)) (.inl r2) ez fun v3 H3 J3 u3 r3=>w v3 H3 J3 (s2.up u3) ((k1.trans k2).trans u3.keep) r3
theorem zkj {op:Operator}{r:R2}{F:D->D->Option D}(ho:OpR X (binaryOp op) r)(im:Im2 X.K r F)(ha:VX X a fa)(hb:VX X b fb):VX X (.BinOp a op b pos) (x2 F fa fb):=by
 obtain⟨ta,pa,ga⟩:=ha;obtain⟨tb,pb,gb⟩:=hb;exact⟨_,znH ho pa pb,zlk im ga gb⟩
def axNil:FAX:=fun ρ=>some ([],ρ)
def axCons (f:FX)(g:FAX):FAX:=fun ρ=>(f ρ).bind fun q=>(g q.2).bind fun r=>some (q.1::r.1,r.2)
theorem zgD:VAX X [] axNil:=⟨_,zco,fun Hz Jz O ρ σ H J ds ρ' Q s e w=>by cases e;exact w [] H J s Keep.refl .nil⟩
theorem zbq (ha:VX X e fa)(hr:VAX X es fl)(hs:starEach (e::es) X.env=(false,eval e X.env)::starEach es X.env:=by rfl):VAX X (e::es) (axCons fa fl):=by
 obtain⟨t,p,g⟩:=ha;obtain⟨t2,p2,g2⟩:=hr;refine⟨_,zbb p p2 hs,?_⟩;intro Hz Jz O ρ σ H J ds ρ' Q s e w;obtain⟨⟨x,ρ1⟩,ex,e⟩:=bind_some e;obtain⟨⟨xs,ρ2⟩,exs,e⟩:=bind_some e;cases e;refine g Hz Jz O ρ σ H J x _ _ s ex fun v1 H1 J1 s1 k1 r1=>?_
 refine g2 Hz Jz O ρ1 σ H1 J1 xs _ _ s1 exs fun vs H2 J2 s2 k2 r2=>?_
 exact w _ H2 J2 s2 (k1.trans k2) (.cons (r1.keep k2) r2)
def xTup (f:FAX):FX:=fun ρ=>(f ρ).bind fun q=>(mkT q.1).bind fun d=>some (d,q.2)
theorem zll {x1}(h:VAX X es fl):VX X (.Tuple es x1 pos) (xTup fl):=by
 obtain⟨t,p,g⟩:=h;refine⟨_,zk3 p,?_⟩;intro Hz Jz O ρ σ H J d ρ' Q s e w;obtain⟨⟨xs,ρ1⟩,exs,e⟩:=bind_some e;obtain⟨d',ed,e⟩:=bind_some e;cases e;obtain⟨hl,rfl⟩:=zfm ed;refine g Hz Jz O ρ σ H J xs _ _ s exs fun vs H1 J1 s1 k1 r1=>⟨by rw[r1.length];exact zcr hl,fun p hp=>?_⟩
 have un:=Up.new s1.ja hp (.tup vs)
 exact w _ _ _ (s1.up un) (k1.trans un.keep) (.tup (SqT.of zai) (r1.keep un.keep))
theorem zmh (ha:VX X a fa)(hb:VX X b fb)(hs:zdw b:=by exact fun _ _=>rfl):VX X (.Subscript a b pos) (x2 dIx fa fb):=by
 obtain⟨ta,pa,ga⟩:=ha;obtain⟨tb,pb,gb⟩:=hb;exact⟨_,zhK zfQ pa pb hs,zlk zof ga gb⟩
def x1 (F:D->Option D)(f:FX):FX:=fun ρ=>(f ρ).bind fun q=>(F q.1).bind fun d=>some (d,q.2)
end
section
variable {X:Cx}{K:W.Frag}{H H' H1 H2 Hz:Hp}{J J' J1 J2 Jz:Addr->Prop}{ρ ρ':En}{σ:L2.St}{O:Pr}
theorem ST.chgsG {fp fp':Nat->List Addr}{is:Nat->Bool}(s:ST K Hz Jz O ρ σ H J)(w:Ow K Hz O ρ σ H J fp)(hl:ρ'.length=ρ.length)(h1:∀j,is j=false->ρ'[j]?=ρ[j]?/\fp' j=fp j)
 (h2:∀i,is i=true->∃n d d' v,ownD (ρ[i]?)=some (n,d)/\ρ'[i]?=some (putD (ρ[i]?) d')/\σ[i]?=some (some v)/\RpU K H' J' n v d' (fp' i)/\∀b∈fp' i,b∈fp i\/(Hz b=none/\∀j,b∉fp j))
 (nd:∀i,is i=true->(fp' i).Nodup) (nj:∀i,is i=true->∀b∈fp' i,¬J' b) (dj:∀i j,is i=true->is j=true->i≠j->∀b∈fp' i,b∉fp' j)
 (hs:∀b o,(∀i,is i=true->b∉fp i)->H b=some o->H' b=some o) (ha:∀b,H b≠none->H' b≠none) (jj:∀a,J a->J' a) (jn:∀a,J' a->J a\/H a=none) (ja:∀a,J' a->H' a≠none) :
 ST K Hz Jz O ρ' σ H' J'/\Ow K Hz O ρ' σ H' J' fp'/\Keep K H J H' J':=by
 have free:∀b,H b=none->Hz b=none:=fun b hb=>by
  cases e:Hz b with
  | none=>rfl
  | some o=>exact absurd hb (s.al b (by rw[e];simp))
 have kp:Keep K H J H' J':=⟨jj,fun p o j h=>hs p o (fun i _ hp=>w.nj i p hp j) h,fun p vs h=>by
  have ne:∀o,H p=some o->¬MutO o->∀i,is i=true->p∉fp i:=fun o ho nm i _ hp=>by
   obtain⟨o',e,m⟩:=(w.at' i).ru p hp;rw[ho] at e;cases e;exact nm m
  rcases h with(h | ⟨u,h⟩) | h
  ·exact .inl (.inl (hs p _ (ne _ h (fun z=>z)) h))
  ·exact .inl (.inr ⟨u,hs p _ (ne _ h (fun z=>z)) h⟩)
  ·exact .inr h⟩
 have slot:∀i,is i=true->∀b∈fp i,Hz b=none\/b∈O.fpo i:=fun i hi b hb=>by
  obtain⟨n,d,d',v,e1,_⟩:=h2 i hi;have q:=w.at' i
  match z:ρ[i]?,e1,q with
  | some (.own m e),_,q=>exact .inl (q.2 b hb)
  | some (.par m e),_,q=>exact q.2 b hb
 have ow':Ow K Hz O ρ' σ H' J' fp':=by
  refine⟨fun i=>?_,fun i=>?_,fun i b hb=>?_,fun i j ne b hb hb2=>?_⟩
  ·cases hi:is i with
   | false=>
     rw[(h1 i hi).1,(h1 i hi).2];exact(w.at' i).keep kp fun b hb o ho=>hs b o (fun j hj hb2=>w.dj i j (fun z=>by subst z;rw[hi] at hj;cases hj) b hb hb2) ho
   | true=>
     obtain⟨n,d,d',v,e1,e2,e3,e4,e5⟩:=h2 i hi;rw[e2];have q:=w.at' i
     match z:ρ[i]?,e1,q with
     | some (.own m e),e1,q=>
       cases e1;refine⟨⟨v,e3,e4⟩,fun b hb=>?_⟩;rcases e5 b hb with hb | hb
       ·exact q.2 b hb
       ·exact hb.1
     | some (.par m e),e1,q=>
       cases e1;refine⟨⟨v,e3,e4⟩,fun b hb=>?_⟩;rcases e5 b hb with hb | hb
       ·exact q.2 b hb
       ·exact .inl hb.1
  ·cases hi:is i with
   | false=>rw[(h1 i hi).2];exact w.nd i
   | true=>exact nd i hi
  ·cases hi:is i with
   | false=>
     rw[(h1 i hi).2] at hb;intro jb;rcases jn b jb with jb | jb
     ·exact w.nj i b hb jb
     ·obtain⟨o,e,_⟩:=(w.at' i).ru b hb;rw[e] at jb;cases jb
   | true=>exact nj i hi b hb
  ·have cross:∀i j,i≠j->is i=true->is j=false->b∈fp' i->b∈fp' j->False:=fun i j ne hi hj hb hb2=>by
    rw[(h1 j hj).2] at hb2;obtain⟨_,_,_,_,_,_,_,_,e5⟩:=h2 i hi;rcases e5 b hb with h | h
    ·exact w.dj i j ne b h hb2
    ·exact h.2 j hb2
   cases hi:is i with
   | true=>
     cases hj:is j with
     | true=>exact dj i j hi hj ne b hb hb2
     | false=>exact cross i j ne hi hj hb hb2
   | false=>
     cases hj:is j with
     | true=>exact cross j i (Ne.symm ne) hj hi hb2 hb
     | false=>
       rw[(h1 i hi).2] at hb;rw[(h1 j hj).2] at hb2;exact w.dj i j ne b hb hb2
 refine⟨⟨fun b o hb h=>hs b o (fun i hi hb2=>?_) (s.same b o hb h),fun a h=>jj a (s.j0 a h),fun a h=>?_,ja,by rw[hl];exact s.len,fun j e h=>?_,⟨fp',ow'⟩,fun q hq=>?_,fun b h=>ha b (s.al b h)⟩,ow',kp⟩
 ·rcases slot i hi b hb2 with h2 | h2
  ·rw[h2] at h;cases h
  ·exact hb ⟨i,h2⟩
 ·rcases jn a h with h | h
  ·exact s.jn a h
  ·exact .inr (free a h)
 ·cases hj:is j with
  | false=>
    rw[(h1 j hj).1] at h;obtain⟨v,e1,r1⟩:=s.vl j e h;exact⟨v,e1,r1.keep kp⟩
  | true=>
    obtain⟨n,d,d',v,e1,e2,_⟩:=h2 j hj;rw[e2] at h;match z:ρ[j]?,e1 with
    | some (.own m e),_=>rw[z] at h;cases h
    | some (.par m e),_=>rw[z] at h;cases h
 ·obtain⟨e1,d,h⟩:=s.ps q hq;refine⟨e1,?_⟩;cases hj:is q.1 with
  | false=>rw[(h1 _ hj).1];exact⟨d,h⟩
  | true=>
    obtain⟨n,d0,d',v,_,e2,_⟩:=h2 _ hj;rw[e2,h];exact⟨d',rfl⟩
theorem ST.chgs {fp fp':Nat->List Addr}{is:Nat->Bool}(s:ST K Hz Jz O ρ σ H J)(w:Ow K Hz O ρ σ H J fp)(hl:ρ'.length=ρ.length)(h1:∀j,is j=false->ρ'[j]?=ρ[j]?/\fp' j=fp j)
 (h2:∀i,is i=true->∃n d d' v,ownD (ρ[i]?)=some (n,d)/\ρ'[i]?=some (putD (ρ[i]?) d')/\σ[i]?=some (some v)/\RpU K H' J' n v d' (fp' i)/\∀b∈fp' i,b∈fp i\/H b=none)
 (nd:∀i,is i=true->(fp' i).Nodup) (nj:∀i,is i=true->∀b∈fp' i,¬J' b) (dj:∀i j,is i=true->is j=true->i≠j->∀b∈fp' i,b∉fp' j)
 (hs:∀b o,(∀i,is i=true->b∉fp i)->H b=some o->H' b=some o) (ha:∀b,H b≠none->H' b≠none) (jj:∀a,J a->J' a) (jn:∀a,J' a->J a\/H a=none) (ja:∀a,J' a->H' a≠none) :
 ST K Hz Jz O ρ' σ H' J'/\Ow K Hz O ρ' σ H' J' fp'/\Keep K H J H' J':=by
 refine s.chgsG w hl h1 (fun i hi=>?_) nd nj dj hs ha jj jn ja;obtain⟨n,d,d',v,e1,e2,e3,e4,e5⟩:=h2 i hi;refine⟨n,d,d',v,e1,e2,e3,e4,fun b hb=>?_⟩;rcases e5 b hb with h | h
 ·exact .inl h
 ·right
  refine⟨?_,fun j hj=>?_⟩
  ·cases e:Hz b with
   | none=>rfl
   | some o=>exact absurd h (s.al b (by rw[e];simp))
  ·obtain⟨o,e,_⟩:=(w.at' j).ru b hj;rw[h] at e;cases e
def zps (K:W.Frag)(H:Hp)(J:Addr->Prop)(k:Option (Option Nat))(v:Option V)(d:Option D)(A:List Addr):Prop:=match k with
 | some none=>∃u e,v=some u/\d=some e/\Rp K H J u e/\A = []
 | some (some n)=>∃a e,v=some (.ref a)/\d=some e/\RpU K H J n (.ref a) e A
 | none=>A = []
structure ArgsG (K:W.Frag)(H:Hp)(J:Addr->Prop)(ks:List (Option Nat))(vs:List V)(ds:List D)(fp:Nat->List Addr):Prop where
 l1:vs.length=ks.length
 l2:ds.length=ks.length
 at':∀i,zps K H J (ks[i]?) (vs[i]?) (ds[i]?) (fp i)
 nd:∀i,(fp i).Nodup
 nj:∀i,∀b∈fp i,¬J b
 dj:∀i j,i≠j->∀b∈fp i,b∉fp j
def ResG (K:W.Frag)(H:Hp)(H':Hp)(J':Addr->Prop)(fp':Nat->List Addr)(v:V):RV->Prop
 | .told d=>Rp K H' J' v d
 | .new n d=>∃A,RpU K H' J' n v d A/\A.Nodup/\(∀b∈A,¬J' b/\H b=none)/\∀i:Nat,∀b∈A,b∉fp' i
structure PostG (K:W.Frag)(H:Hp)(J:Addr->Prop)(ks:List (Option Nat))(vs:List V)(fp:Nat->List Addr)(r:RV)(es:List D)(v:V)(H':Hp)(J':Addr->Prop)(fp':Nat->List Addr):Prop where
 hs:∀b o,(∀i,b∉fp i)->H b=some o->H' b=some o
 al:∀b,H b≠none->H' b≠none
 jj:∀a,J a->J' a
 jn:∀a,J' a->J a\/H a=none
 ja:∀a,J' a->H' a≠none
 own:∀i n,ks[i]?=some (some n)->∃a e,vs[i]?=some (.ref a)/\es[i]?=some e/\RpU K H' J' n (.ref a) e (fp' i)/\∀b∈fp' i,b∈fp i\/H b=none
 nd:∀i,(fp' i).Nodup
 nj:∀i,∀b∈fp' i,¬J' b
 dj:∀i j,i≠j->∀b∈fp' i,b∉fp' j
 res:ResG K H H' J' fp' v r
def spG (K:W.Frag)(ks:List (Option Nat))(F:List D->Option (RV×List D)):Sp:=fun vs H Q _=>∃J ds r es fp,(∀a,J a->H a≠none)/\ArgsG K H J ks vs ds fp/\F ds=some (r,es)/\∀v H' J' fp',PostG K H J ks vs fp r es v H' J' fp'->Q v H'
def inSl:List (Option Nat)->List D->En
 | none::ks,d::ds=>.val d::inSl ks ds
 | some n::ks,d::ds=>.par n d::inSl ks ds
 | _,_=>[]
def slOf:Option (Option Nat)->Option D->Option SV
 | some none,some d=>some (.val d)
 | some (some n),some d=>some (.par n d)
 | _,_=>none
theorem zfq:∀(ks:List (Option Nat)) (ds:List D) (i:Nat),ks.length=ds.length->(inSl ks ds)[i]?=slOf (ks[i]?) (ds[i]?)
 | [],[],i,_=>by simp[inSl,slOf]
 | none::ks,d::ds,0,_=>by simp[inSl,slOf]
 | some n::ks,d::ds,0,_=>by simp[inSl,slOf]
 | none::ks,d::ds,i+1,h=>by simpa[inSl] using zfq ks ds i (by simpa using h)
 | some n::ks,d::ds,i+1,h=>by simpa[inSl] using zfq ks ds i (by simpa using h)
 | [],_::_,_,h=>by simp at h
 | _::_,[],_,h=>by simp at h
theorem zde:∀(ks:List (Option Nat)) (ds:List D),ks.length=ds.length->(inSl ks ds).length=ks.length
 | [],[],_=>rfl
 | none::ks,d::ds,h=>by simp[inSl,zde ks ds (by simpa using h)]
 | some n::ks,d::ds,h=>by simp[inSl,zde ks ds (by simpa using h)]
 | [],_::_,h=>by simp at h
 | _::_,[],h=>by simp at h
def outSl:List (Option Nat)->En->Option (List D)
 | [],_=>some []
 | none::ks,_::ρ=>(outSl ks ρ).bind fun es=>some (.non::es)
 | some _::ks,.par _ d::ρ=>(outSl ks ρ).bind fun es=>some (d::es)
 | _,_=>none
theorem zem:∀{ks:List (Option Nat)}{ρ:En}{es:List D}{i n:Nat}{m:Nat}{d:D},outSl ks ρ=some es->ks[i]?=some (some n)->ρ[i]?=some (.par m d)->es[i]?=some d
 | [],_,_,_,_,_,_,_,h,_=>by simp at h
 | none::ks,x::ρ,es,i,n,m,d,e,h1,h2=>by
   obtain⟨es',e1,e⟩:=bind_some (show((outSl ks ρ).bind fun es=>some (D.non::es))=some es from e);cases e;match i,h1,h2 with
   | 0,h1,_=>simp at h1
   | i+1,h1,h2=>simpa using zem (n:=n) (m:=m) e1 (by simpa using h1) (by simpa using h2)
 | some k::ks,.par m' d'::ρ,es,i,n,m,d,e,h1,h2=>by
   obtain⟨es',e1,e⟩:=bind_some (show((outSl ks ρ).bind fun es=>some (d'::es))=some es from e);cases e;match i,h1,h2 with
   | 0,h1,h2=>simp at h2;simp[h2.2]
   | i+1,h1,h2=>simpa using zem (n:=n) (m:=m) e1 (by simpa using h1) (by simpa using h2)
def psAt (i:Nat):Option (Option Nat)->Option V->Option (Nat×Addr×Nat)
 | some (some n),some (.ref a)=>some (i,a,n)
 | _,_=>none
def psOf (ks:List (Option Nat))(vs:List V):List (Nat×Addr×Nat):=(List.range ks.length).filterMap fun i=>psAt i (ks[i]?) (vs[i]?)
theorem mem_psOf {ks:List (Option Nat)}{vs:List V}{q:Nat×Addr×Nat}:q∈psOf ks vs↔ks[q.1]?=some (some q.2.2)/\vs[q.1]?=some (.ref q.2.1):=by
 unfold psOf;rw[List.mem_filterMap];constructor
 ·rintro⟨i,_,h⟩;unfold psAt at h;split at h
  ·rename_i n a h1 h2;cases h;exact⟨h1,h2⟩
  ·cases h
 ·rintro⟨h1,h2⟩;refine⟨q.1,List.mem_range.mpr (List.getElem?_eq_some_iff.mp h1).1,?_⟩;rw[h1,h2];rfl
theorem zf3 {N:List Str}{ks:List (Option Nat)}{vs:List V}{ds:List D}{fp:Nat->List Addr}(ja:∀a,J a->H a≠none)(r:ArgsG K H J ks vs ds fp) :
 ST K H J ⟨psOf ks vs,fp⟩ (inSl ks ds++List.replicate (N.length - ks.length) .un) (start N vs) H J:=by
 have get:∀i:Nat,(inSl ks ds++List.replicate (N.length - ks.length) SV.un)[i]?=slOf (ks[i]?) (ds[i]?)\/(ks[i]?=none/\((inSl ks ds++List.replicate (N.length - ks.length) SV.un)[i]?=some SV.un\/(inSl ks ds++List.replicate (N.length - ks.length) SV.un)[i]?=none)):=fun i=>by
  by_cases hi:i<ks.length
  ·left
   rw[List.getElem?_append_left (by rw[zde ks ds r.l2.symm];exact hi),zfq ks ds i r.l2.symm]
  ·right
   refine⟨List.getElem?_eq_none (by omega),?_⟩;rw[List.getElem?_append_right (by rw[zde ks ds r.l2.symm];omega),List.getElem?_replicate];split
   ·exact .inl rfl
   ·exact .inr rfl
 have sg:∀(i:Nat) (v:V),vs[i]?=some v->(start N vs)[i]?=some (some v):=fun i v h=>by
  unfold L2.start;rw[List.getElem?_append_left (by simp;exact(List.getElem?_eq_some_iff.mp h).1),List.getElem?_map,h];rfl
 refine⟨fun _ _ _ h=>h,fun _ h=>h,fun _ h=>.inl h,ja,by simp[L2.start,r.l1,zde ks ds r.l2.symm],fun i d h=>?_,⟨fp,fun i=>?_,r.nd,r.nj,r.dj⟩,fun q hq=>?_,fun _ h=>h⟩
 ·have q:=r.at' i
  rcases get i with e | ⟨_,e | e⟩
  ·rw[e] at h;match z:ks[i]?,y:ds[i]?,h,q with
   | some none,some e',h,q=>
     cases h;obtain⟨u,e,h1,h2,h3,_⟩:=q;cases h2;exact⟨u,sg i u h1,h3⟩
  ·rw[e] at h;cases h
  ·rw[e] at h;cases h
 ·have q:=r.at' i
  rcases get i with e | ⟨e0,e | e⟩
  ·rw[e];match z:ks[i]?,y:ds[i]?,q with
   | some none,some e',q=>obtain⟨_,_,_,_,_,h⟩:=q;exact h
   | some (some n),some e',q=>
     obtain⟨a,e,h1,h2,h3⟩:=q;cases h2;exact⟨⟨_,sg i _ h1,h3⟩,fun b hb=>.inr hb⟩
   | none,_,q=>exact q
   | some none,none,q=>obtain⟨_,_,_,h,_⟩:=q;cases h
   | some (some n),none,q=>obtain⟨_,_,_,h,_⟩:=q;cases h
  ·rw[e];rw[e0] at q;exact q
  ·rw[e];rw[e0] at q;exact q
 ·obtain⟨h1,h2⟩:=mem_psOf.mp hq;refine⟨sg _ _ h2,?_⟩;have q':=r.at' q.1
  rw[h1] at q';obtain⟨a,e,_,h3,_⟩:=q';rcases get q.1 with g | ⟨g,_⟩
  ·rw[g,h1,h3];exact⟨e,rfl⟩
  ·rw[h1] at g;cases g
end
section
variable {P:Program}{w:World}{K:W.Frag}{mg:Str->Option Value}{base:Heap}
theorem zkk {ks:List (Option Nat)}{vs:List V}{ds:List D}{es:List D}{fp:Nat->List Addr}{r:RV}{H H':Hp}{J J':Addr->Prop}{ρ:En}{σ:L2.St}{v:V}(A:ArgsG K H J ks vs ds fp)(s:ST K H J ⟨psOf ks vs,fp⟩ ρ σ H' J')
 (q:RtAt K H ⟨psOf ks vs,fp⟩ ρ σ H' J' v r) (e:outSl ks ρ=some es):∃fp',PostG K H J ks vs fp r es v H' J' fp':=by
 have main:∀fp',Ow K H ⟨psOf ks vs,fp⟩ ρ σ H' J' fp'->ResG K H H' J' fp' v r->PostG K H J ks vs fp r es v H' J' fp':=fun fp' w hr=>
  ⟨fun b o hb h=>s.same b o (fun⟨i,hi⟩ =>hb i hi) h,s.al,s.j0,s.jn,s.ja,fun i n hk=>by
   have qa:=A.at' i
   rw[hk] at qa;obtain⟨a,e0,h1,_,_⟩:=qa;obtain⟨h2,d,h3⟩:=s.ps (i,a,n) (mem_psOf.mpr ⟨hk,h1⟩);have h2:σ[i]?=some (some (.ref a)):=h2
   have h3:ρ[i]?=some (.par n d):=h3
   have o:=w.at' i
   rw[h3] at o;obtain⟨⟨v',e1,ru⟩,hb⟩:=o;rw[h2] at e1;cases e1;exact⟨a,d,h1,zem e hk h3,ru,fun b hb'=>(hb b hb').symm⟩,w.nd,w.nj,w.dj,hr⟩
 cases r with
 | told d=>
   obtain⟨fp',w⟩:=s.ow;exact⟨fp',main fp' w q⟩
 | new n d=>
   obtain⟨B,fp',w,ru,nd,hb,dj⟩:=q;exact⟨fp',main fp' w ⟨B,ru,nd,hb,dj⟩⟩
end
theorem RpU.isRef {K:W.Frag}{H:Hp}{J:Addr->Prop}{n:Nat}{v:V}{d:D}{A:List Addr}(h:RpU K H J (n+1) v d A):∃a,v=.ref a:=by
 cases h <;> exact⟨_,rfl⟩
abbrev FAG:=En->Option (List (Option D)×En)
def ArgV (K:W.Frag)(H:Hp)(J:Addr->Prop)(u:Option (Option V)):List V->List (Option D)->Prop
 | [],[]=>True
 | v::vs,none::as=>u=some (some v)/\ArgV K H J u vs as
 | v::vs,some d::as=>Rp K H J v d/\ArgV K H J u vs as
 | _,_=>False
def GoAG (K:W.Frag)(i:Nat)(t:TA)(f:FAG):Prop:=∀Hz Jz O ρ σ H J as ρ' Q,ST K Hz Jz O ρ σ H J->f ρ=some (as,ρ')->(∀vs H' J',ST K Hz Jz O ρ' σ H' J'->Keep K H J H' J'->ArgV K H' J' (σ[i]?) vs as->Q vs H')->t σ H Q
def VAG (X:Cx)(i:Nat)(es:List Expr)(f:FAG):Prop:=∃t,PA X es t/\GoAG X.K i t f
theorem ArgV.keep {K:W.Frag}{H H':Hp}{J J':Addr->Prop}{u:Option (Option V)}(k:Keep K H J H' J'):∀{vs:List V}{as:List (Option D)},ArgV K H J u vs as->ArgV K H' J' u vs as
 | [],[],_=>trivial
 | v::vs,none::as,h=>⟨h.1,ArgV.keep k h.2⟩
 | v::vs,some d::as,h=>⟨h.1.keep k,ArgV.keep k h.2⟩
 | [],_::_,h=>h.elim
 | _::_,[],h=>h.elim
theorem ArgV.length {K:W.Frag}{H:Hp}{J:Addr->Prop}{u:Option (Option V)}:∀{vs:List V}{as:List (Option D)},ArgV K H J u vs as->vs.length=as.length
 | [],[],_=>rfl
 | v::vs,none::as,h=>by simp[ArgV.length h.2]
 | v::vs,some d::as,h=>by simp[ArgV.length h.2]
 | [],_::_,h=>h.elim
 | _::_,[],h=>h.elim
theorem ArgV.get {K:W.Frag}{H:Hp}{J:Addr->Prop}{u:Option (Option V)}:∀{vs:List V}{as:List (Option D)}{j:Nat}{o:Option D},ArgV K H J u vs as->as[j]?=some o->∃v,vs[j]?=some v/\match o with | none=>u=some (some v) | some d=>Rp K H J v d
 | [],[],_,_,_,e=>by simp at e
 | v::vs,none::as,0,o,h,e=>by simp at e;subst e;exact⟨v,rfl,h.1⟩
 | v::vs,some d::as,0,o,h,e=>by simp at e;subst e;exact⟨v,rfl,h.1⟩
 | v::vs,none::as,j+1,o,h,e=>by simpa using ArgV.get (j:=j) (o:=o) h.2 (by simpa using e)
 | v::vs,some d::as,j+1,o,h,e=>by simpa using ArgV.get (j:=j) (o:=o) h.2 (by simpa using e)
 | [],_::_,_,_,h,_=>h.elim
 | _::_,[],_,_,h,_=>h.elim
section
variable {X:Cx}{K:W.Frag}{e:Expr}{es:List Expr}{fa:FX}{fl:FAG}{pos p:Pos}{i:Nat}
def agNil:FAG:=fun ρ=>some ([],ρ)
def agOwn (i:Nat)(f:FAG):FAG:=fun ρ=>if(ownD (ρ[i]?)).isSome=true then(f ρ).bind fun q=>some (none::q.1,q.2) else none
def agX (g:FX)(f:FAG):FAG:=fun ρ=>(g ρ).bind fun q=>(f q.2).bind fun r=>some (some q.1::r.1,r.2)
theorem zbW:VAG X i [] agNil:=⟨_,zco,fun Hz Jz O ρ σ H J ds ρ' Q s e w=>by cases e;exact w [] H J s Keep.refl trivial⟩
theorem zeM (ha:VX X e fa)(hr:VAG X i es fl)(hs:starEach (e::es) X.env=(false,eval e X.env)::starEach es X.env:=by rfl):VAG X i (e::es) (agX fa fl):=by
 obtain⟨t,p,g⟩:=ha;obtain⟨t2,p2,g2⟩:=hr;refine⟨_,zbb p p2 hs,?_⟩;intro Hz Jz O ρ σ H J ds ρ' Q s e w;obtain⟨⟨x,ρ1⟩,ex,e⟩:=bind_some e;obtain⟨⟨xs,ρ2⟩,exs,e⟩:=bind_some e;cases e;refine g Hz Jz O ρ σ H J x _ _ s ex fun v1 H1 J1 s1 k1 r1=>?_
 refine g2 Hz Jz O ρ1 σ H1 J1 xs _ _ s1 exs fun vs H2 J2 s2 k2 r2=>?_
 exact w _ H2 J2 s2 (k1.trans k2) ⟨r1.keep k2,r2⟩
theorem zbX {x:Str}(hr:VAG X i es fl)(hN:X.N[i]?=some x:=by rfl)(hv:Vis X.env.scope x:=by first | exact Or.inl rfl | exact Or.inr (Or.inl rfl) | exact Or.inr (Or.inr rfl))(hd:(x == ("__debug__" : Str))=false:=by decide)(hcd:(x == ("__classdict__" : Str))=false:=by decide)
 (hs:starEach (.Name x p::es) X.env=(false,eval (.Name x p) X.env)::starEach es X.env:=by rfl):VAG X i (.Name x p::es) (agOwn i fl):=by
 obtain⟨t2,p2,g2⟩:=hr;refine⟨_,zbb (zb0 hN hv hd hcd) p2 hs,?_⟩;intro Hz Jz O ρ σ H J ds ρ' Q s e w;unfold agOwn at e;by_cases ho:(ownD (ρ[i]?)).isSome=true
 ·rw[if_pos ho] at e;obtain⟨⟨xs,ρ2⟩,exs,e⟩:=bind_some e;cases e;obtain⟨⟨n,d⟩,hq⟩:=Option.isSome_iff_exists.mp ho;obtain⟨v,A,hv,_⟩:=s.rd hq;refine⟨v,hv,?_⟩;refine g2 Hz Jz O ρ σ H J xs _ _ s exs fun vs H2 J2 s2 k2 r2=>?_
  exact w _ H2 J2 s2 k2 ⟨hv,r2⟩
 ·rw[if_neg ho] at e;cases e
def agK (n:Nat):Option D->Option Nat
 | none=>some n
 | some _=>none
def xCallG (ks:List (Option Nat))(p i n:Nat)(F:List D->Option (RV×List D))(f:FAG):FR:=fun ρ=>(f ρ).bind fun q=>
 if q.1.map (agK n)=ks then match ownD (q.2[i]?) with
  | some (m,d)=>if m=n then(F (q.1.map fun o=>o.getD d)).bind fun r=>(r.2[p]?).bind fun e=>some (r.1,setO q.2 i e) else none
  | none=>none
 else none
theorem zgE {ρ:En}{i j:Nat}{d:D}(h:j≠i):(setO ρ i d)[j]?=ρ[j]?:=by
 unfold setO;exact List.getElem?_set_ne (Ne.symm h)
theorem zkl {ks:List (Option Nat)}{q n:Nat}{F:List D->Option (RV×List D)}{t:TA}(hp:ks[q]?=some (some n))(h1:∀(j m:Nat),ks[j]?=some (some m)->j=q)(hn:n≠0)(g:GoAG K i t fl)(E:XK):GoR K (zim (spG K ks F) [] E t) (xCallG ks q i n F fl):=by
 intro Hz Jz O ρ σ H J r ρ' Q s e w;obtain⟨⟨as,ρ1⟩,e1,e⟩:=bind_some e;have eA:(if as.map (agK n)=ks then match ownD (ρ1[i]?) with
  | some (m,d)=>if m=n then(F (as.map fun o=>o.getD d)).bind fun r=>(r.2[q]?).bind fun e=>some (r.1,setO ρ1 i e) else none
  | none=>none
 else none)=some (r,ρ'):=e
 by_cases hk:as.map (agK n)=ks
 ·rw[if_pos hk] at eA;cases ho:ownD (ρ1[i]?) with
  | none=>rw[ho] at eA;cases eA
  | some md=>
    obtain⟨m,d⟩:=md;rw[ho] at eA;have eB:(if m=n then(F (as.map fun o=>o.getD d)).bind fun r=>(r.2[q]?).bind fun e=>some (r.1,setO ρ1 i e) else none)=some (r,ρ'):=eA
    by_cases hm:m=n
    ·rw[if_pos hm] at eB;subst hm;obtain⟨⟨r',es⟩,e2,eC⟩:=bind_some eB;obtain⟨d',e3,eD⟩:=bind_some eC;cases eD;refine g Hz Jz O ρ σ H J as ρ1 _ s e1 fun vs H1 J1 s1 k1 r1=>?_
     obtain⟨fp,ow⟩:=s1.ow;have hi:i<ρ1.length:=by
      by_cases hi:i<ρ1.length
      ·exact hi
      ·rw[List.getElem?_eq_none (by omega)] at ho;cases ho
     have hat:∃v,σ[i]?=some (some v)/\RpU K H1 J1 m v d (fp i):=by
      have o:=ow.at' i
      match z:ρ1[i]?,ho,o with
      | some (.own _ _),ho,o=>cases ho;exact o.1
      | some (.par _ _),ho,o=>cases ho;exact o.1
     obtain⟨v,hv,ru⟩:=hat
     have asq:as[q]?=some none:=by
      have:=hp
      rw[<-hk,List.getElem?_map] at this;cases z:as[q]? with
      | none=>rw[z] at this;cases this
      | some o=>rw[z] at this;cases o with
        | none=>rfl
        | some _=>simp[agK] at this
     have mpos:∃a,v=.ref a:=by
      cases m with
      | zero=>exact absurd rfl hn
      | succ m=>exact ru.isRef
     obtain⟨a,rfl⟩:=mpos;have vq:vs[q]?=some (.ref a):=by
      obtain⟨u,h1,h2⟩:=r1.get asq;have h2:σ[i]?=some (some u):=h2
      rw[hv] at h2;cases h2;exact h1
     have args:ArgsG K H1 J1 ks vs (as.map fun o=>o.getD d) (fun j=>if j=q then fp i else[]):=by
      refine⟨by rw[r1.length,<-hk,List.length_map],by rw[List.length_map,<-hk,List.length_map],fun j=>?_,fun j=>?_,fun j b hb=>?_,fun j l ne b hb=>?_⟩
      ·rw[<-hk,List.getElem?_map,List.getElem?_map];cases z:as[j]? with
       | none=>
         have:j≠q:=fun h=>by rw[h,asq] at z;cases z
         show(if j=q then fp i else[]) = []
         rw[if_neg this]
       | some o=>
         cases o with
         | none=>
           have:j=q:=h1 j m (by rw[<-hk,List.getElem?_map,z];rfl)
           subst this;exact⟨a,d,vq,rfl,by rw[if_pos rfl];exact ru⟩
         | some x=>
           have:j≠q:=fun h=>by rw[h,asq] at z;cases z
           obtain⟨u,h1,h2⟩:=r1.get z;exact⟨u,x,h1,rfl,h2,by rw[if_neg this]⟩
      ·split
       ·exact ow.nd i
       ·exact List.nodup_nil
      ·split at hb
       ·exact ow.nj i b hb
       ·cases hb
      ·split at hb
       ·rename_i z
        rw[if_neg (fun h=>ne (z.trans h.symm))];simp
       ·cases hb
     refine⟨J1,_,r',es,_,s1.ja,by rw[List.append_nil];exact args,e2,fun v' H' J' fp' pg=>?_⟩;rw[List.append_nil] at pg;obtain⟨a2,d2,h2,h3,ru2,hb2⟩:=pg.own q m hp;rw[vq] at h2;cases h2;rw[e3] at h3;cases h3;have hA:∀b:Addr,(∀j,b∉(if j=q then fp i else[]))↔b∉fp i:=fun b=>by
      constructor
      ·intro h;have:=h q;rwa [if_pos rfl] at this
      ·intro h j;split
       ·exact h
       ·simp
     have key:=s1.chgs (ρ':=setO ρ1 i d') (fp':=zhR fp i (fp' q)) (is:=fun j=>j == i) (H':=H') (J':=J') ow (by simp[setO]) (fun j hj=>?_) (fun j hj=>?_) (fun j hj=>?_) (fun j hj=>?_) (fun j l hj hl ne=>?_) (fun b o hb h=>pg.hs b o ((hA b).mpr (hb i (by simp))) h) pg.al pg.jj pg.jn pg.ja
     ·obtain⟨s2,ow2,k2⟩:=key;refine w v' H' J' s2 (k1.trans k2) ?_;have res:=pg.res
      cases r' with
      | told d0=>exact res
      | new n0 d0=>
        obtain⟨B,ruB,ndB,hB,djB⟩:=res;refine⟨B,zhR fp i (fp' q),ow2,ruB,ndB,fun b hb=>⟨(hB b hb).1,?_⟩,fun j b hb=>?_⟩
        ·cases z:Hz b with
         | none=>rfl
         | some o=>exact absurd (hB b hb).2 (s1.al b (by rw[z];simp))
        ·by_cases hj:j=i
         ·subst hj;rw[zbd];exact djB q b hb
         ·rw[zbx hj];intro hb2;obtain⟨o,ho',_⟩:=(ow.at' j).ru b hb2;rw[(hB b hb).2] at ho';cases ho'
     ·have hj':j≠i:=by simpa using hj
      exact⟨zgE hj',zbx hj'⟩
     ·have hj':j=i:=by simpa using hj
      subst hj';refine⟨m,d,d',.ref a,ho,List.getElem?_set_self hi,hv,by rw[zbd];exact ru2,fun b hb=>?_⟩;rw[zbd] at hb;have:=hb2 b hb
      rwa [if_pos rfl] at this
     ·have hj':j=i:=by simpa using hj
      subst hj';rw[zbd];exact pg.nd q
     ·have hj':j=i:=by simpa using hj
      subst hj';rw[zbd];exact pg.nj q
     ·have hj':j=i:=by simpa using hj
      have hl':l=i:=by simpa using hl
      exact absurd (hj'.trans hl'.symm) ne
    ·rw[if_neg hm] at eB;cases eB
 ·rw[if_neg hk] at eA;cases eA
def zlm (ks:List (Option Nat))(q:Nat):Bool:=(List.range ks.length).all fun j=>match ks[j]? with
 | some (some _)=>j == q
 | _=>true
theorem zi2 {ks:List (Option Nat)}{q:Nat}(h:zlm ks q=true)(j m:Nat)(hj:ks[j]?=some (some m)):j=q:=by
 have:=List.all_eq_true.mp h j (List.mem_range.mpr (List.getElem?_eq_some_iff.mp hj).1)
 rw[hj] at this;simpa using this
theorem zbY (q i n:Nat){k k':Nat}{x:Str}{ps:List Str}{ks:List (Option Nat)}{F:List D->Option (RV×List D)}(C:Cal X.prog X.w X.K X.mg X.base k x ps (spG X.K ks F))(hr:Room k' X.A)(ha:VAG X i (e::es) fl)(hp:ks[q]?=some (some n):=by rfl)(ho:zlm ks q=true:=by decide)(hn:n≠0:=by decide)(hk:k<=k':=by decide)(hg:Gl X x:=by rfl)(hdb:(x == ("__debug__" : Str))=false:=by decide)
 (he:starEach (e::es) X.env=(false,eval e X.env)::starEach es X.env:=by rfl) (hpl:(backTo pos (starEach es X.env)).any (·.1)=false:=by rfl):VR X (.Call (.Name x p) (e::es) [] pos) (xCallG ks q i n F fl):=by
 obtain⟨t,p,g⟩:=ha;exact⟨_,pc C hr p hk hg hdb he hpl,zkl hp (zi2 ho) hn g _⟩
def xCallN (ks:List (Option Nat))(F:List D->Option (RV×List D))(f:FAX):FR:=fun ρ=>(f ρ).bind fun q=>(F q.1).bind fun r=>if q.1.length=ks.length then some (r.1,q.2) else none
theorem ArgsG.plain {H:Hp}{J:Addr->Prop}{vs:List V}{ds:List D}{ks:List (Option Nat)}(r:RpL K H J vs ds)(hk:ds.length=ks.length)(hn:ks.all (·.isNone)=true):ArgsG K H J ks vs ds (fun _=>[]):=by
 refine⟨by rw[r.length,hk],hk,fun j=>?_,fun _=>List.nodup_nil,fun _ b hb=>absurd hb (by simp),fun _ _ _ b hb=>absurd hb (by simp)⟩;cases z:ks[j]? with
 | none=>rfl
 | some o=>
   have:=List.all_eq_true.mp hn o (List.mem_of_getElem? z)
   cases o with
   | some _=>cases this
   | none=>
     have hj:j<ds.length:=by rw[hk];exact(List.getElem?_eq_some_iff.mp z).1
     obtain⟨v,hv,rv⟩:=r.get (List.getElem?_eq_getElem hj);exact⟨v,ds[j],hv,List.getElem?_eq_getElem hj,rv,rfl⟩
theorem zkm {fl:FAX}{ks:List (Option Nat)}{F:List D->Option (RV×List D)}{t:TA}(hn:ks.all (·.isNone)=true)(g:GoAX K t fl)(E:XK):GoR K (zim (spG K ks F) [] E t) (xCallN ks F fl):=by
 intro Hz Jz O ρ σ H J r ρ' Q s e w;obtain⟨⟨ds,ρ1⟩,e1,eA⟩:=bind_some e;obtain⟨⟨r',es⟩,e2,eB⟩:=bind_some eA;have eB:(if ds.length=ks.length then some (r',ρ1) else none)=some (r,ρ'):=eB
 by_cases hl:ds.length=ks.length
 ·rw[if_pos hl] at eB;cases eB;refine g Hz Jz O ρ σ H J ds _ _ s e1 fun vs H1 J1 s1 k1 r1=>?_
  refine⟨J1,ds,_,es,_,s1.ja,by rw[List.append_nil];exact ArgsG.plain r1 hl hn,e2,fun v H2 J2 fp' pg=>?_⟩;have u:Up H1 J1 H2 J2:=⟨fun b o h=>pg.hs b o (fun _=>by simp) h,pg.jj,pg.jn,pg.ja⟩
  refine w v H2 J2 (s1.up u) (k1.trans u.keep) ?_;have res:=pg.res
  cases r with
  | told d0=>exact res
  | new n0 d0=>
    obtain⟨B,ruB,ndB,hB,_⟩:=res;obtain⟨fp,ow⟩:=s1.ow;refine⟨B,fp,⟨fun i=>(ow.at' i).keep u.keep fun b _=>u.same b,ow.nd,fun i b hb jb=>?_,ow.dj⟩,ruB,ndB,fun b hb=>⟨(hB b hb).1,?_⟩,fun j b hb hb2=>?_⟩
    ·rcases u.jn b jb with jb | jb
     ·exact ow.nj i b hb jb
     ·obtain⟨o,e,_⟩:=(ow.at' i).ru b hb;rw[e] at jb;cases jb
    ·cases z:Hz b with
     | none=>rfl
     | some o=>exact absurd (hB b hb).2 (s1.al b (by rw[z];simp))
    ·obtain⟨o,ho,_⟩:=(ow.at' j).ru b hb2;rw[(hB b hb).2] at ho;cases ho
 ·rw[if_neg hl] at eB;cases eB
end
section
variable {X:Cx}{K:W.Frag}{a b c e:Expr}{es:List Expr}{fa fb:FX}{fe:FE}{ft:FTX}{fl:FAX}{fr:FR}{g g2:FS}{pos p:Pos}
def gSetX (i:Nat)(f:FX):FS:=fun ρ=>(f ρ).bind fun q=>if i<q.2.length/\isPar (q.2[i]?)=false then some (.nx (q.2.set i (.val q.1))) else none
theorem zdA {i:Nat}{x:Str}{pos':Pos}(hN:X.N.Nodup)(hi:X.N[i]?=some x)(hx:Loc X.env.scope x)(h:VX X e fa)(hs:swapsWith e (some (.Name x pos')) pos.line X.env=pure false:=by rfl)(hf:X.fn x=true\/X.env.scope.names.lookup x=some .local:=by first | exact .inl rfl | exact .inr rfl | assumption) :
 VS X (.Assign [.Name x pos'] e pos) (gSetX i fa):=by
 obtain⟨t,p,q⟩:=h;refine⟨_,zgX hN hi hx p hs hf,?_⟩;intro Hz Jz O ρ σ H J o E s e w;obtain⟨⟨d,ρ1⟩,e1,eA⟩:=bind_some e;have eA:(if i<ρ1.length/\isPar (ρ1[i]?)=false then some (Out.nx (ρ1.set i (.val d))) else none)=some o:=eA
 by_cases hi:i<ρ1.length/\isPar (ρ1[i]?)=false
 ·rw[if_pos hi] at eA;cases eA;exact q Hz Jz O ρ σ H J d ρ1 _ s e1 fun v H' J' s' k r=>w _ H' J' (s'.set r hi.1 (zcC hi.2)) k
 ·rw[if_neg hi] at eA;cases eA
theorem ST.take {Hz H:Hp}{Jz J:Addr->Prop}{O:Pr}{ρ:En}{σ:L2.St}{i n:Nat}{v:V}{d:D}(s:ST K Hz Jz O ρ σ H J)(q:RtAt K Hz O ρ σ H J v (.new n d))(hi:i<ρ.length)(hp:∀n d,ρ[i]?≠some (.par n d)):ST K Hz Jz O (ρ.set i (.own n d)) (σ.set i (some v)) H J:=by
 obtain⟨A,fp,w,r,nd,hA,dj⟩:=q;refine⟨s.same,s.j0,s.jn,s.ja,by simp[s.len],fun j e h=>?_,?_,fun q hq=>?_,s.al⟩
 ·rcases zdy h with⟨rfl,he⟩ | ⟨ne,h⟩
  ·cases he
  ·rw[List.getElem?_set_ne (Ne.symm ne)];exact s.vl j e h
 ·refine⟨_,w.put (i:=i) (A:=A) Keep.refl (fun _ _ _ _ _ h=>h) (fun j _=>w.nj j) (fun j e=>List.getElem?_set_ne (Ne.symm e)) (fun j e=>List.getElem?_set_ne (Ne.symm e)) ?_ nd (fun b hb=>(hA b hb).1) (fun j _ b hb=>dj j b hb)⟩;rw[List.getElem?_set_self hi,List.getElem?_set_self (by rw[s.len];exact hi)];exact⟨⟨v,rfl,r⟩,fun b hb=>(hA b hb).2⟩
 ·have e:=s.psNe hp q hq
  rw[List.getElem?_set_ne (Ne.symm e),List.getElem?_set_ne (Ne.symm e)];exact s.ps q hq
def gOwnR (i:Nat)(f:FR):FS:=fun ρ=>(f ρ).bind fun q=>match q.1 with
 | .new n d=>if i<q.2.length/\isPar (q.2[i]?)=false then some (.nx (q.2.set i (.own n d))) else none
 | .told _=>none
theorem zi3 {i:Nat}{x:Str}{pos':Pos}(hN:X.N.Nodup)(hi:X.N[i]?=some x)(hx:Loc X.env.scope x)(h:VR X e fr)(hs:swapsWith e (some (.Name x pos')) pos.line X.env=pure false:=by rfl)(hf:X.fn x=true\/X.env.scope.names.lookup x=some .local:=by first | exact .inl rfl | exact .inr rfl | assumption) :
 VS X (.Assign [.Name x pos'] e pos) (gOwnR i fr):=by
 obtain⟨t,p,q⟩:=h;refine⟨_,zgX hN hi hx p hs hf,?_⟩;intro Hz Jz O ρ σ H J o E s e w;obtain⟨⟨r,ρ1⟩,e1,eA⟩:=bind_some e;cases r with
 | told d=>cases eA
 | new n d=>
   have eA:(if i<ρ1.length/\isPar (ρ1[i]?)=false then some (Out.nx (ρ1.set i (.own n d))) else none)=some o:=eA
   by_cases hi:i<ρ1.length/\isPar (ρ1[i]?)=false
   ·rw[if_pos hi] at eA;cases eA;exact q Hz Jz O ρ σ H J _ ρ1 _ s e1 fun v H' J' s' k r=>w _ H' J' (s'.take r hi.1 (zcC hi.2)) k
   ·rw[if_neg hi] at eA;cases eA
def isL1:Option (Nat×D)->Bool
 | some (1,.lst _)=>true
 | _=>false
theorem zmi {x:Option (Nat×D)}(h:isL1 x=true):∃ds,x=some (1,.lst ds):=by
 match x,h with
 | some (1,.lst ds),_=>exact⟨ds,rfl⟩
def gAppX (i:Nat)(f:FX):FS:=fun ρ=>if isL1 (ownD (ρ[i]?))=true then(f ρ).bind fun q=>match ownD (q.2[i]?) with
 | some (1,.lst ds)=>if ds.length<lim then some (.nx (setO q.2 i (.lst (ds++[q.1])))) else none
 | _=>none
 else none
theorem zmj {i:Nat}{t:TE}(q:GoX K t fa):GoS K (zjV (tBM K "list" zfk (tVar i) (znN t tNil))) (gAppX i fa):=by
 intro Hz Jz O ρ σ H J o E s e w;unfold gAppX at e;by_cases h0:isL1 (ownD (ρ[i]?))=true
 ·rw[if_pos h0] at e;obtain⟨ds0,z0⟩:=zmi h0;obtain⟨⟨d,ρ1⟩,e1,eA⟩:=bind_some e;obtain⟨a,vs0,ha,hv0,_,_⟩:=s.top (H':=H) (es:=[]) z0;refine⟨.ref a,ha,.inl ⟨rfl,vs0,SqL.of hv0⟩,?_⟩;refine q Hz Jz O ρ σ H J d ρ1 _ s e1 fun v H1 J1 s1 k1 r1=>?_
  split at eA
  ·rename_i ds z
   by_cases hl:ds.length<lim
   ·rw[if_pos hl] at eA;cases eA;obtain⟨a',vs',ha',hv',rl,go⟩:=s1.top (H':=H) (es:=[]) z;rw[ha] at ha';cases ha';refine⟨a,vs',v,rfl,rfl,hv',by rw[rl.length];exact Nat.lt_of_lt_of_le hl (Nat.le_of_lt zeY),?_⟩;obtain⟨s2,k2⟩:=go (vs'++[v]) (ds++[d]) (rl.append (.cons r1 .nil));exact w σ _ J1 s2 (k1.trans k2)
   ·rw[if_neg hl] at eA;cases eA
  ·cases eA
 ·rw[if_neg h0] at e;cases e
theorem zmk (i:Nat){x:Str}{xp apos cpos:Pos}(h:VX X e fa)(hN:X.N[i]?=some x:=by rfl)(hv:Vis X.env.scope x:=by first | exact Or.inl rfl | exact Or.inr (Or.inl rfl) | exact Or.inr (Or.inr rfl))(hd:(x == ("__debug__" : Str))=false:=by decide)
 (hcd:(x == ("__classdict__" : Str))=false:=by decide) (h1:starEach [e] X.env=(false,eval e X.env)::starEach [] X.env:=by rfl)
 (hbase:attributeBase (.Name x xp) "append" X.env (eval (.Name x xp) X.env)=eval (.Name x xp) X.env:=by rfl)
 (hfew:((backTo cpos (starEach [e] X.env)).all (fun x=>!x.1)&&(backToKw cpos (keywordEach [] X.env)).all (fun x=>x.1.isSome)
  && decide ([e].length+([]:List Keyword).length+(if([]:List Keyword).isEmpty then 0 else 1)<30))=true:=by rfl)
 (hline:(apos.endLine == cpos.line)=true:=by rfl) (hs:starEach [e] X.env = [(false,eval e X.env)]:=by rfl) (hsw:swapsWith (.Call (.Attribute (.Name x xp) "append" apos) [e] [] cpos) none pos.line X.env=pure false:=by rfl) :
 VS X (.Expr (.Call (.Attribute (.Name x xp) "append" apos) [e] [] cpos) pos) (gAppX i fa):=by
 obtain⟨t,p,q⟩:=h;exact⟨_,zed (papp (zb0 hN hv hd hcd) (zbb p zco h1) hbase hfew hline hs) hsw,zmj q⟩
def gPutL (i:Nat)(fk:FE)(f:FX):FS:=fun ρ=>(f ρ).bind fun q=>(fk q.2).bind fun k=>(dInt k).bind fun k=>match ownD (q.2[i]?) with
 | some (1,.lst ds)=>(ixN ds.length k).bind fun j=>some (.nx (setO q.2 i (.lst (ds.set j q.1))))
 | _=>none
theorem zi4 (i:Nat){x:Str}{xp sp:Pos}{fk:FE}(h:VX X e fa)(hk:VE X a fk)(hN:X.N[i]?=some x:=by rfl)(hv:Vis X.env.scope x:=by first | exact Or.inl rfl | exact Or.inr (Or.inl rfl) | exact Or.inr (Or.inr rfl))(hd:(x == ("__debug__" : Str))=false:=by decide)(hcd:(x == ("__classdict__" : Str))=false:=by decide)
 (ha:∀v,assign (.Subscript (.Name x xp) a sp) X.env v=(do
  let ov <-holding [v] (eval (.Name x xp) X.env)
  let iv <-holding [v,ov] (eval a X.env)
  standAt sp
  holding [v,ov,iv] (setItem ov iv v)
  release [v,ov,iv] []):=by intro _;rfl)
 (hs:swapsWithSole [.Subscript (.Name x xp) a sp] e pos.line X.env=pure false:=by rfl) (hw:swappedStores [.Subscript (.Name x xp) a sp] e X.env=pure none:=by rfl) (h1:(assignEach [.Subscript (.Name x xp) a sp] X.env).map (·.2) = [assign (.Subscript (.Name x xp) a sp) X.env]:=by rfl) :
 VS X (.Assign [.Subscript (.Name x xp) a sp] e pos) (gPutL i fk fa):=by
 obtain⟨t,p,q⟩:=h;obtain⟨tk,pk,qk⟩:=hk;refine⟨_,zif p (zk0 (zb0 hN hv hd hcd) pk zg1 ha) hs hw h1,fun Hz Jz O ρ σ H J o E s e w=>?_⟩;obtain⟨⟨d,ρ1⟩,e1,eA⟩:=bind_some e;obtain⟨k,e2,eB⟩:=bind_some eA;obtain⟨kk,e3,eC⟩:=bind_some eB;refine q Hz Jz O ρ σ H J d ρ1 _ s e1 fun v H1 J1 s1 k1 r1=>?_
 split at eC
 ·rename_i ds z
  obtain⟨j,e4,eD⟩:=bind_some eC;cases eD;obtain⟨a0,vs0,ha0,_,_,_⟩:=s1.top (H':=H) (es:=[]) z;refine⟨.ref a0,ha0,?_⟩;refine qk Hz Jz O ρ1 σ H1 J1 k _ s1 e2 fun vk H2 J2 u2 rk=>?_
  have s2:=s1.up u2
  obtain⟨a1,vs1,ha1,hv1,rl,go⟩:=s2.top (H':=H) (es:=[]) z;rw[ha0] at ha1;cases ha1;cases k with
  | int k0=>
    cases e3;cases rk;refine⟨a0,vs1,kk,j,rfl,rfl,hv1,by rw[rl.length];exact e4,?_⟩;obtain⟨s3,k3⟩:=go (vs1.set j v) (ds.set j d) (rl.set j (r1.keep u2.keep));exact w σ _ J2 s3 ((k1.trans u2.keep).trans k3)
  | _=>cases e3
 ·cases eC
end
def GoIX (K:W.Frag)(wi:TI)(f:FAX):Prop:=∀Hz Jz O ρ σ H J ds ρ' R,ST K Hz Jz O ρ σ H J->f ρ=some (ds,ρ')->(∀I H' J',ST K Hz Jz O ρ' σ H' J'->Keep K H J H' J'->Src K I H' J' ds->R I H')->wi σ H R
def VIX (X:Cx)(tg iter:Expr)(f:FAX):Prop:=∃wi,PI X tg iter wi/\GoIX X.K wi f
def gForX (fi:FAX)(tg:FG)(b:FS):FS:=fun ρ=>(fi ρ).bind fun q=>forL tg b q.1 q.2
section
variable {X:Cx}{K:W.Frag}{fi fl:FAX}{fa:FX}{g:FS}{pos p:Pos}{ft:FT}{tg a b:Expr}
theorem zml {wi:TI}{tb:TS}{tg:TG}{fg:FG}{is:List Nat}(hi:GoIX K wi fi)(hg:GoG K tg is fg)(hb:GoS K tb g):GoS K (tFor wi tg tb) (gForX fi fg g):=by
 intro Hz Jz O ρ σ H J o E s e w;obtain⟨⟨ds,ρ0⟩,e1,e⟩:=bind_some e;refine hi Hz Jz O ρ σ H J ds ρ0 _ s e1 fun I H1 J1 s1 k1 src=>?_
 refine⟨fun i m σ' H'=>m=ds.length - i/\i<=ds.length/\∃ρ' J',ST K Hz Jz O ρ' σ' H' J'/\Keep K H1 J1 H' J'/\forL fg g (ds.drop i) ρ'=some o,⟨ds.length,by simp,Nat.zero_le _,ρ0,J1,s1,Keep.refl,by simpa using e⟩,?_⟩;rintro i m σ2 H2 ⟨rfl,hil,ρ2,J2,s2,k2,e2⟩;obtain⟨stop,turn⟩:=src H2 J2 k2 s2.ja;by_cases hlt:i<ds.length
 ·right
  have hd:ds[i]?=some ds[i]:=List.getElem?_eq_getElem hlt
  generalize hdd:ds[i]=d at hd;obtain⟨go,yl⟩:=turn i d hd;have edrop:ds.drop i=d::ds.drop (i+1):=by rw[<-hdd];exact(List.getElem_cons_drop hlt).symm
  rw[edrop] at e2;unfold forL at e2;obtain⟨ρ3,eg,e2⟩:=bind_some e2;obtain⟨ob,eb,e2⟩:=bind_some e2;refine⟨go,fun σ' H'=>∃ρ' J',ST K Hz Jz O ρ' σ' H' J'/\Keep K H1 J1 H' J'/\forL fg g (ds.drop (i+1)) ρ'=some o,fun σ' H' h=>⟨ds.length - (i+1),by omega,rfl,hlt,h⟩,fun x H3 y=>?_⟩;obtain⟨J3,u3,r3⟩:=yl x H3 y;refine hg.2 Hz Jz O ρ2 σ2 H3 J3 x d ρ3 _ (s2.up u3) r3 eg fun σ4 s4=>?_
  refine hb Hz Jz O ρ3 σ4 H3 J3 ob _ s4 eb ?_;have k3:=k2.trans u3.keep
  cases ob with
  | nx ρ5=>exact fun σ5 H5 J5 s5 k5=>⟨ρ5,J5,s5,k3.trans k5,e2⟩
  | ct ρ5=>exact fun σ5 H5 J5 s5 k5=>⟨ρ5,J5,s5,k3.trans k5,e2⟩
  | bk ρ5=>cases e2;exact fun σ5 H5 J5 s5 k5=>w σ5 H5 J5 s5 ((k1.trans k3).trans k5)
  | ret d ρ5=>cases e2;exact w
 ·left
  have hi':i=ds.length:=by omega
  subst hi';rw[List.drop_length] at e2;cases e2;exact⟨stop,w σ2 H2 J2 s2 (k1.trans k2)⟩
theorem zmm {tg iter:Expr}{body:List Stmt}{is:List Nat}{fg:FG}(hi:VIX X tg iter fi)(hg:VG X tg is fg)(hb:VSs X body g)(hp:PassesOwn (model X.prog X.w) X.A X.env X.xe:=by exact PassesOwn.never)(hc:X.calm=true:=by rfl)
 (hs:∀x,foldedSetIterable iter X.env x=pure x:=by intro _;rfl):VS X (.For tg iter body [] pos) (gForX fi fg g):=by
 obtain⟨wi,p1,q1⟩:=hi;obtain⟨t,p2,q2⟩:=hg;obtain⟨tb,p3,q3⟩:=hb;exact⟨_,zk1 hp hc p1 p2 p3 hs,zml q1 q2 q3⟩
def axRng1 (f:FAX):FAX:=fun ρ=>(f ρ).bind fun q=>(a1Int q.1).bind fun j=>if -1000000<=j/\j<=1000000 then some (zba 0 j.toNat,q.2) else none
theorem zhU (B:Blt X.mg)(ha:VAX X [a] fl)(hg:Gl X "range":=by rfl)(hs:starEach [a] X.env = [(false,eval a X.env)]:=by rfl):VIX X tg (.Call (.Name "range" p) [a] [] pos) (axRng1 fl):=by
 obtain⟨t,p,g⟩:=ha;refine⟨_,zfH hg (B.get "range") p hs,?_⟩;intro Hz Jz O ρ σ H J ds ρ' R s e w;obtain⟨⟨l,ρ1⟩,e1,eA⟩:=bind_some e;obtain⟨j,e2,eB⟩:=bind_some eA;by_cases hj:-1000000<=j/\j<=1000000
 ·rw[if_pos hj] at eB;cases eB;refine g Hz Jz O ρ σ H J l ρ1 _ s e1 fun vs H1 J1 s1 k1 r1=>?_
  match l,e2,r1 with
  | [.int i],e2,r1=>
    cases e2;cases r1 with
    | cons h t=>cases t;cases h;exact⟨j,rfl,by omega,by omega,w _ H1 J1 s1 k1 (zf0 0 _)⟩
 ·rw[if_neg hj] at eB;cases eB
def keyD:D->Option Key
 | .int i=>some (.inl i)
 | .str x=>some (.inr x)
 | _=>none
theorem zom {H:Hp}{J:Addr->Prop}{v:V}{d:D}{k:Key}(r:RpW K H J v d)(h:keyD d=some k):v=kV k:=by
 cases d with
 | int i=>cases h;exact r.int
 | str x=>cases h;exact r.str
 | _=>cases h
end
section
variable {X:Cx}{K:W.Frag}{a b c e:Expr}{es:List Expr}{fa fb:FX}{fe fk fv:FE}{fl:FA}{pos p p2:Pos}
theorem ST.top2 {Hz H:Hp}{Jz J:Addr->Prop}{O:Pr}{ρ:En}{σ:L2.St}{i j:Nat}{ds es:List D}(s:ST K Hz Jz O ρ σ H J)(h0:ownD (ρ[i]?)=some (2,.lst ds))(hj:ds[j]?=some (.lst es)):∃a vs b us,σ[i]?=some (some (.ref a))/\H a=some (.lst vs)/\vs.length=ds.length/\vs[j]?=some (.ref b)/\H b=some (.lst us)/\RpL K H J us es/\
 (∀(us':List V) (es':List D),RpL K H J us' es'->ST K Hz Jz O (setO ρ i (.lst (ds.set j (.lst es')))) σ (upd H b (.lst us')) J/\Keep K H J (upd H b (.lst us')) J)/\
 (∀(H':Hp) (J':Addr->Prop) (q:Addr) (us':List V) (es':List D),Up H J H' J'->H q=none->¬J' q->H' q=some (.lst us')->RpL K H' J' us' es'->ST K Hz Jz O (setO ρ i (.lst (ds.set j (.lst es')))) σ (upd H' a (.lst (vs.set j (.ref q)))) J'/\Keep K H J (upd H' a (.lst (vs.set j (.ref q)))) J'):=by
 obtain⟨v,A,hv,r,nd,nj,go⟩:=s.chg h0;cases r with
 | lst ha rl=>
   rename_i a vs A
   obtain⟨w,A1,A2,A3,hw,rfl,rw',up⟩:=rl.split j hj;obtain⟨b,us,rfl,rfl,hb,ru⟩:=rw'.one;have hab:a≠b:=by
    rintro rfl;have:=(List.nodup_cons.mp nd).1
    exact this (by simp)
   have ndA:=(List.nodup_cons.mp nd).2
   have naA:=(List.nodup_cons.mp nd).1
   have hb13:∀x∈A1++A3,x≠b:=by
    intro x hx z;subst z;rw[List.nodup_append] at ndA;obtain⟨n1,n2,n3⟩:=ndA;rw[List.singleton_append,List.nodup_cons] at n2;rcases List.mem_append.mp hx with h | h
    ·exact n3 x h x (by simp) rfl
    ·exact n2.1 h
   refine⟨a,vs,b,us,hv,ha,rl.length,hw,hb,ru,fun us' es' re=>?_,fun H' J' q us' es' u hq njq hq' re=>?_⟩
   ·have nja:¬J b:=nj b (by simp)
    have kp:Keep K H J (upd H b (.lst us')) J:=zcS hb nja
    refine go (upd H b (.lst us')) J (.lst (ds.set j (.lst es'))) (a::(A1++([b]++A3))) (fun c o hc h=>?_) (fun c h=>?_) (fun _ h=>h) (fun _ h=>.inl h) (fun c h=>?_) ?_ nd nj (fun c hc=>.inl hc)
    ·rw[zah (fun z=>hc (by simp[z]))];exact h
    ·by_cases z:c=b
     ·subst z;rw[zai];simp
     ·rw[zah z];exact h
    ·by_cases z:c=b
     ·subst z;rw[zai];simp
     ·rw[zah z];exact s.ja c h
    ·have vset:vs.set j (V.ref b)=vs:=by
      apply List.ext_getElem?;intro k;by_cases hk:k=j
      ·subst hk;rw[hw,List.getElem?_set_self (List.getElem?_eq_some_iff.mp hw).1]
      ·rw[List.getElem?_set_ne (Ne.symm hk)]
     have:=up (upd H b (.lst us')) J (.ref b) (.lst es') [b] kp (fun c hc o ho=>by rw[zah (hb13 c hc)];exact ho) (.lst zai (RpUL.of (re.keep kp)))
     rw[vset] at this;exact .lst (by rw[zah hab];exact ha) this
   ·have haH':=u.same _ _ ha
    have hqa:q≠a:=by rintro rfl;rw[ha] at hq;cases hq
    have nja:¬J' a:=fun z=>by
     rcases u.jn a z with z | z
     ·exact nj a (by simp) z
     ·rw[ha] at z;cases z
    have kp:Keep K H' J' (upd H' a (.lst (vs.set j (.ref q)))) J':=zcS haH' nja
    have qfree:∀c∈a::(A1++([b]++A3)),c≠q:=by
     intro c hc z;subst z;rcases List.mem_cons.mp hc with rfl | hc
     ·rw[ha] at hq;cases hq
     ·obtain⟨o,e,_⟩:=rl.some c hc;rw[hq] at e;cases e
    refine(go (upd H' a (.lst (vs.set j (.ref q)))) J' (.lst (ds.set j (.lst es'))) (a::(A1++([q]++A3))) (fun c o hc h=>?_) (fun c h=>?_) u.jj u.jn (fun c h=>?_) ?_ ?_ (fun c hc=>?_) (fun c hc=>?_))
    ·rw[zah (fun z=>hc (by simp[z]))];exact u.same _ _ h
    ·by_cases z:c=a
     ·subst z;rw[zai];simp
     ·rw[zah z];cases e:H c with
      | none=>exact absurd e h
      | some o=>rw[u.same _ _ e];simp
    ·by_cases z:c=a
     ·subst z;rw[zai];simp
     ·rw[zah z];exact u.ja c h
    ·have:=up (upd H' a (.lst (vs.set j (.ref q)))) J' (.ref q) (.lst es') [q] (u.keep.trans kp) (fun c hc o ho=>by
      rw[zah (fun z=>naA (by rw[<-z];simp at hc⊢;rcases hc with hc | hc <;> simp[hc]))];exact u.same _ _ ho) (.lst (by rw[zah hqa];exact hq') (RpUL.of (re.keep kp)))
     exact .lst zai this
    ·have h1:q∉a::(A1++([b]++A3)):=fun z=>qfree q z rfl
     rw[List.nodup_append] at ndA;obtain⟨n1,n2,n3⟩:=ndA;rw[List.singleton_append,List.nodup_cons] at n2;simp only[List.mem_cons,List.mem_append,not_or,List.mem_singleton] at h1;refine List.nodup_cons.mpr ⟨?_,List.nodup_append.mpr ⟨n1,?_,?_⟩⟩
     ·simp only[List.mem_append,List.mem_singleton,not_or] at naA⊢;exact⟨naA.1,fun z=>h1.1 z.symm,naA.2.2⟩
     ·rw[List.singleton_append];exact List.nodup_cons.mpr ⟨h1.2.2.2,n2.2⟩
     ·intro x hx y hy z;subst z;rcases List.mem_append.mp hy with hy | hy
      ·rw[List.mem_singleton.mp hy] at hx;exact h1.2.1 hx
      ·exact n3 x hx x (by simp[hy]) rfl
    ·simp only[List.mem_cons,List.mem_append,List.not_mem_nil,or_false] at hc;have old:c∈a::(A1++([b]++A3))->¬J' c:=fun h z=>by
      rcases u.jn c z with z | z
      ·exact nj c h z
      ·rcases List.mem_cons.mp h with rfl | h
       ·rw[ha] at z;cases z
       ·obtain⟨o,e,_⟩:=rl.some c h;rw[z] at e;cases e
     rcases hc with rfl | hc | rfl | hc
     ·exact nja
     ·exact old (by simp[hc])
     ·exact njq
     ·exact old (by simp[hc])
    ·simp only[List.mem_cons,List.mem_append,List.not_mem_nil,or_false] at hc;rcases hc with rfl | hc | rfl | hc
     ·exact .inl (by simp)
     ·exact .inl (by simp[hc])
     ·exact .inr hq
     ·exact .inl (by simp[hc])
def eIx2 (i:Nat)(fk:FE):FE:=fun ρ=>(fk ρ).bind fun k=>(dInt k).bind fun k=>match ownD (ρ[i]?) with
 | some (2,.lst ds)=>(atI ds k).bind fun d=>match d with | .lst es=>some (.lst es) | _=>none
 | _=>none
theorem zln (i:Nat){x:Str}{xp:Pos}(hk:VE X a fk)(hN:X.N[i]?=some x:=by rfl)(hv:Vis X.env.scope x:=by first | exact Or.inl rfl | exact Or.inr (Or.inl rfl) | exact Or.inr (Or.inr rfl))(hd:(x == ("__debug__" : Str))=false:=by decide)(hcd:(x == ("__classdict__" : Str))=false:=by decide)(hs:zdw a:=by exact fun _ _=>rfl) :
 VW X (.Subscript (.Name x xp) a pos) (eIx2 i fk):=by
 obtain⟨t,p,g⟩:=hk;refine⟨_,zhK zfQ (zb0 hN hv hd hcd) p hs,?_⟩;intro Hz Jz O ρ σ H J d Q s e w;obtain⟨k,e1,eA⟩:=bind_some e;obtain⟨kk,e2,eB⟩:=bind_some eA;split at eB
 ·rename_i ds z
  obtain⟨d1,e3,eC⟩:=bind_some eB;split at eC
  ·rename_i es
   cases eC;obtain⟨v,A,hv,r⟩:=s.rd z;refine⟨v,hv,?_⟩;refine g Hz Jz O ρ σ H J k _ s e1 fun vk H1 J1 u1 rk=>?_
   cases k with
   | int k0=>
     cases e2;cases rk;have r1:=r.keep u1.keep fun b _ o=>u1.same b o
     cases r1 with
     | lst ha rl=>
       unfold atI at e3;cases q:ixN ds.length kk with
       | none=>rw[q] at e3;cases e3
       | some j=>
         rw[q] at e3;obtain⟨u,A1,A2,A3,hu,_,ru,_⟩:=rl.split j e3;refine .inl ⟨_,_,kk,u,rfl,rfl,SqL.of ha,?_,w u H1 J1 u1 (.inr ⟨A2,ru⟩)⟩;unfold atI;rw[rl.length,q];exact hu
   | _=>cases e2
  ·cases eC
 ·cases eB
def zmn (i:Nat)(fk fv:FE):FS:=fun ρ=>(fk ρ).bind fun k=>(dInt k).bind fun k=>(fv ρ).bind fun d=>match ownD (ρ[i]?) with
 | some (2,.lst ds)=>(ixN ds.length k).bind fun j=>match ds[j]? with
   | some (.lst es)=>if es.length<lim then some (.nx (setO ρ i (.lst (ds.set j (.lst (es++[d])))))) else none
   | _=>none
 | _=>none
theorem zmo (i:Nat){x:Str}{xp sp apos cpos:Pos}(hk:VE X a fk)(h:VE X e fv)(hN:X.N[i]?=some x:=by rfl)(hv:Vis X.env.scope x:=by first | exact Or.inl rfl | exact Or.inr (Or.inl rfl) | exact Or.inr (Or.inr rfl))(hd:(x == ("__debug__" : Str))=false:=by decide)
 (hcd:(x == ("__classdict__" : Str))=false:=by decide) (hpi:zdw a:=by exact fun _ _=>rfl) (h1:starEach [e] X.env=(false,eval e X.env)::starEach [] X.env:=by rfl)
 (hbase:attributeBase (.Subscript (.Name x xp) a sp) "append" X.env (eval (.Subscript (.Name x xp) a sp) X.env)=eval (.Subscript (.Name x xp) a sp) X.env:=by rfl)
 (hfew:((backTo cpos (starEach [e] X.env)).all (fun x=>!x.1)&&(backToKw cpos (keywordEach [] X.env)).all (fun x=>x.1.isSome)
  && decide ([e].length+([]:List Keyword).length+(if([]:List Keyword).isEmpty then 0 else 1)<30))=true:=by rfl)
 (hline:(apos.endLine == cpos.line)=true:=by rfl) (hs:starEach [e] X.env = [(false,eval e X.env)]:=by rfl) (hsw:swapsWith (.Call (.Attribute (.Subscript (.Name x xp) a sp) "append" apos) [e] [] cpos) none pos.line X.env=pure false:=by rfl) :
 VS X (.Expr (.Call (.Attribute (.Subscript (.Name x xp) a sp) "append" apos) [e] [] cpos) pos) (zmn i fk fv):=by
 obtain⟨tk,pk,qk⟩:=hk;obtain⟨t,p,q⟩:=h;refine⟨_,zed (papp (zhK zfQ (zb0 hN hv hd hcd) pk hpi) (zbb p zco h1) hbase hfew hline hs) hsw,?_⟩;intro Hz Jz O ρ σ H J o E s e w;obtain⟨k,e1,eA⟩:=bind_some e;obtain⟨kk,e2,eB⟩:=bind_some eA;obtain⟨d,e3,eC⟩:=bind_some eB;split at eC
 ·rename_i ds z
  obtain⟨j,e4,eD⟩:=bind_some eC;split at eD
  ·rename_i es ze
   by_cases hl:es.length<lim
   ·rw[if_pos hl] at eD;cases eD;obtain⟨v0,A0,hv0,r0⟩:=s.rd z;refine⟨v0,hv0,?_⟩;refine qk Hz Jz O ρ σ H J k _ s e1 fun vk H1 J1 u1 rk=>?_
    cases k with
    | int k0=>
      cases e2;cases rk;have s1:=s.up u1
      obtain⟨a1,vs1,b1,us1,ha1,hA1,hl1,hj1,hb1,ru1,_,_⟩:=s1.top2 z ze;rw[hv0] at ha1;cases ha1;refine .inl ⟨a1,vs1,kk,.ref b1,rfl,rfl,SqL.of hA1,by unfold atI;rw[hl1,e4];exact hj1,?_⟩;refine⟨.inl ⟨rfl,us1,SqL.of hb1⟩,?_⟩;refine q Hz Jz O ρ σ H1 J1 d _ s1 e3 fun v H2 J2 u2 r2=>?_
      have s2:=s1.up u2
      obtain⟨a2,vs2,b2,us2,ha2,hA2,hl2,hj2,hb2,ru2,go,_⟩:=s2.top2 z ze;rw[hv0] at ha2;cases ha2;have hA12:=u2.same _ _ hA1
      rw[hA2] at hA12;cases hA12;rw[hj2] at hj1;cases hj1;refine⟨b1,us2,v,rfl,rfl,hb2,by rw[ru2.length];exact Nat.lt_of_lt_of_le hl (Nat.le_of_lt zeY),?_⟩;obtain⟨s3,k3⟩:=go (us2++[v]) (es++[d]) (ru2.append (.cons r2 .nil));exact w σ _ J2 s3 ((u1.trans u2).keep.trans k3)
    | _=>cases e2
   ·rw[if_neg hl] at eD;cases eD
  ·cases eD
 ·cases eC
def zmp (i:Nat)(fk:FE)(f:FA):FS:=fun ρ=>(f ρ).bind fun es=>(fk ρ).bind fun k=>(dInt k).bind fun k=>match ownD (ρ[i]?) with
 | some (2,.lst ds)=>(ixN ds.length k).bind fun j=>match ds[j]? with
   | some (.lst _)=>some (.nx (setO ρ i (.lst (ds.set j (.lst es)))))
   | _=>none
 | _=>none
theorem zmq (i:Nat){x:Str}{xp sp:Pos}(h:VN X e fl)(hk:VE X a fk)(hN:X.N[i]?=some x:=by rfl)(hv:Vis X.env.scope x:=by first | exact Or.inl rfl | exact Or.inr (Or.inl rfl) | exact Or.inr (Or.inr rfl))(hd:(x == ("__debug__" : Str))=false:=by decide)(hcd:(x == ("__classdict__" : Str))=false:=by decide)
 (ha:∀v,assign (.Subscript (.Name x xp) a sp) X.env v=(do
  let ov <-holding [v] (eval (.Name x xp) X.env)
  let iv <-holding [v,ov] (eval a X.env)
  standAt sp
  holding [v,ov,iv] (setItem ov iv v)
  release [v,ov,iv] []):=by intro _;rfl)
 (hs:swapsWithSole [.Subscript (.Name x xp) a sp] e pos.line X.env=pure false:=by rfl) (hw:swappedStores [.Subscript (.Name x xp) a sp] e X.env=pure none:=by rfl) (h1:(assignEach [.Subscript (.Name x xp) a sp] X.env).map (·.2) = [assign (.Subscript (.Name x xp) a sp) X.env]:=by rfl) :
 VS X (.Assign [.Subscript (.Name x xp) a sp] e pos) (zmp i fk fl):=by
 obtain⟨t,p,q⟩:=h;obtain⟨tk,pk,qk⟩:=hk;refine⟨_,zif p (zk0 (zb0 hN hv hd hcd) pk zg1 ha) hs hw h1,fun Hz Jz O ρ σ H J o E s e w=>?_⟩;obtain⟨es,e1,eA⟩:=bind_some e;obtain⟨k,e2,eB⟩:=bind_some eA;obtain⟨kk,e3,eC⟩:=bind_some eB;split at eC
 ·rename_i ds z
  obtain⟨j,e4,eD⟩:=bind_some eC;split at eD
  ·rename_i es0 ze
   cases eD;refine q Hz Jz O ρ σ H J es _ s e1 fun p1 us H1 J1 u1 hp1 nj1 hq1 r1=>?_
   obtain⟨v0,A0,hv0,r0⟩:=s.rd z;refine⟨v0,hv0,?_⟩;refine qk Hz Jz O ρ σ H1 J1 k _ (s.up u1) e2 fun vk H2 J2 u2 rk=>?_
   cases k with
   | int k0=>
     cases e3;cases rk;obtain⟨a0,vs0,b0,us0,ha0,hA0,hl0,hj0,hb0,ru0,_,go⟩:=s.top2 z ze;rw[hv0] at ha0;cases ha0;have u:=u1.trans u2
     have hq2:=u2.same _ _ hq1
     have nj2:¬J2 p1:=fun z=>by
      rcases u2.jn p1 z with z | z
      ·exact nj1 z
      ·rw[hq1] at z;cases z
     refine⟨a0,vs0,kk,j,rfl,rfl,u.same _ _ hA0,by rw[hl0];exact e4,?_⟩;obtain⟨s3,k3⟩:=go H2 J2 p1 us es u hp1 nj2 hq2 (r1.keep u2.keep);exact w σ _ J2 s3 k3
   | _=>cases e3
  ·cases eD
 ·cases eC
end
section
variable {X:Cx}{K:W.Frag}{elt iter tg:Expr}{ifs:List Expr}{scope:Scope}{pos:Pos}{NC:List Str}
def TNof (K:W.Frag)(f:FA):TE:=fun σ H Q=>∃Hz Jz O ρ J d,ST K Hz Jz O ρ σ H J/\f ρ=some d/\ziL K H J d Q
theorem VN.of {X:Cx}{e:Expr}{f:FA}(h:VN X e f):PE X e (TNof X.K f):=by
 obtain⟨t,p,g⟩:=h;rintro pins s σ H Q I ⟨Hz,Jz,O,ρ,J,d,s1,e1,w⟩;exact p pins s σ H Q I (g Hz Jz O ρ σ H J d Q s1 e1 w)
def zcu (ρ:En)(g:FG)(e:FA)(d:D):Option (Option D):=(g d ρ).bind fun ρ1=>(e ρ1).bind fun x=>some (some (.lst x))
def zlo (fr:List (Option Nat))(fi:FA)(g:FG)(e:FA):FR:=fun ρ=>(fi ρ).bind fun ds=>(zdb (zcu (zbn ρ fr) g e) ds).bind fun out=>if out.length<=lim then some (.new 2 (.lst out),ρ) else none
theorem zkn {fr:List (Option Nat)}{wi:TI}{fi:FA}{g:FG}{is:List Nat}{fe:FA}(hi:GoI K wi fi)(hon:∀d ρ ρ',g d ρ=some ρ'->Only is ρ ρ')(hap:apart is fr=true) :
 GoR K (zgt fr wi (TGof K g) (TTof K tTrue) (TNof K fe)) (zlo fr fi g fe):=by
 intro Hz Jz O ρ σ H J rr ρ' Q s e w;obtain⟨ds,e1,eA⟩:=bind_some e;obtain⟨out,e2,eB⟩:=bind_some eA;by_cases hl:out.length<=lim
 ·rw[if_pos hl] at eB;cases eB;refine hi Hz Jz O ρ σ H J ds _ s e1 fun I H1 J1 u1 src=>?_
  intro Da hD;have hD0:Hz Da=none:=s.free (u:=u1) hD
  have nJ1:¬J1 Da:=fun j=>u1.ja Da j hD
  refine⟨fun i m ys σ2 H2=>m=ds.length - i/\i<=ds.length/\∃J2 dn rs A,ST K Hz Jz O.blk (zbn ρ fr) σ2 H2 J2/\Up H1 J1 H2 J2/\¬J2 Da/\RpUL K H2 J2 1 ys dn A/\A.Nodup/\(∀b∈A,¬J2 b/\H1 b=none/\b≠Da)/\out=dn++rs/\zdb (zcu (zbn ρ fr) g fe) (ds.drop i)=some rs,⟨ds.length,by simp,Nat.zero_le _,?_⟩,?_⟩
  ·have un:=Up.new u1.ja hD (.lst [])
   exact⟨J1,[],out,[],((s.up u1).up un).pick fr,un,nJ1,.nil,List.nodup_nil,by simp,rfl,by simpa using e2⟩
  ·rintro i m ys σ2 H2 ⟨rfl,hil,J2,dn,rs,A,s2,u2,nj2,r2,nd2,hA2,eo,ec⟩ hys;obtain⟨stop,turn⟩:=src H2 J2 u2.keep s2.ja;by_cases hlt:i<ds.length
   ·right
    have hd:ds[i]?=some ds[i]:=List.getElem?_eq_getElem hlt
    generalize hdd:ds[i]=d at hd;obtain⟨go,yl⟩:=turn i d hd;have edrop:ds.drop i=d::ds.drop (i+1):=by rw[<-hdd];exact(List.getElem_cons_drop hlt).symm
    rw[edrop] at ec;obtain⟨o,eo1,ec1⟩:=bind_some (show((zcu (zbn ρ fr) g fe d).bind fun o=>(zdb (zcu (zbn ρ fr) g fe) (ds.drop (i+1))).bind fun xs=>some (match o with | some x=>x::xs | none=>xs))=some rs from ec);obtain⟨rs',er,ec2⟩:=bind_some ec1;obtain⟨ρ1,eg,eo2⟩:=bind_some eo1;obtain⟨x,ex,eo3⟩:=bind_some eo2;cases eo3;cases ec2;refine⟨go,fun zs σ' H'=>∃J2 dn rs A,ST K Hz Jz O.blk (zbn ρ fr) σ' H' J2/\Up H1 J1 H' J2/\¬J2 Da/\RpUL K H' J2 1 zs dn A/\A.Nodup/\(∀b∈A,¬J2 b/\H1 b=none/\b≠Da)/\out=dn++rs/\zdb (zcu (zbn ρ fr) g fe) (ds.drop (i+1))=some rs,fun zs σ' H' h=>⟨ds.length - (i+1),by omega,rfl,hlt,h⟩,fun xv H3 y=>?_⟩;obtain⟨J3,u3,r3⟩:=yl xv H3 y;have wk:Weak (zbn ρ fr) ρ1:=ziX (hon _ _ _ eg) hap
    refine⟨Hz,Jz,O.blk,zbn ρ fr,J3,d,ρ1,s2.up u3,r3,eg,fun σ4 s4=>?_⟩;refine⟨Hz,Jz,O.blk,ρ1,J3,true,s4,rfl,fun H5 J5 u5=>?_⟩;have s5:=s4.up u5
    refine⟨fun _=>?_,fun z=>by cases z⟩;refine⟨Hz,Jz,O.blk,ρ1,J5,x,s5,ex,fun q vs H6 J6 u6 hq nq hq6 r6=>?_⟩;have u26:=(u3.trans u5).trans u6
    have old:∀{b:Addr}{o:HO},H2 b=some o->¬J2 b->¬J6 b:=fun {b o} hb nb jb=>by
     rcases u26.jn b jb with jb | jb
     ·exact nb jb
     ·rw[hb] at jb;cases jb
    have nj6:¬J6 Da:=old hys nj2
    have hy6:H6 Da=some (.lst ys):=u26.same _ _ hys
    have kA:Keep K H6 J6 (upd H6 Da (.lst (ys++[.ref q]))) J6:=zcS hy6 nj6
    have hqD:q≠Da:=fun z=>by
     subst z;have:=(u3.trans u5).same _ _ hys
     rw[this] at hq;cases hq
    have hqA:q∉A:=fun z=>by
     obtain⟨o,eo,_⟩:=r2.some q z;rw[(u3.trans u5).same _ _ eo] at hq;cases hq
    refine⟨hy6,?_,J6,dn++[.lst x],rs',A++[q],?_,(u2.trans u26).at (ys:=ys) hD,nj6,?_,?_,fun b hb=>?_,by rw[eo];simp,er⟩
    ·have:(dn++.lst x::rs').length<=lim:=by rw[<-eo];exact hl
     rw[List.length_append,List.length_cons] at this;rw[r2.length];exact Nat.lt_of_lt_of_le (by omega:dn.length<lim) (Nat.le_of_lt zeY)
    ·exact((s5.up u6).weak wk rfl).at (zcR ρ fr) hy6 nj6 hD0
    ·have ra:RpUL K H6 J6 1 ys dn A:=r2.keep u26.keep fun b _ o=>u26.same b o
     have rb:RpUL K H6 J6 1 [.ref q] [.lst x] [q]:=by
      have:=RpUL.cons (n:=1) (RpU.lst hq6 (RpUL.of r6)) (RpUL.nil (K:=K) (H:=H6) (J:=J6))
      simpa using this
     refine(ra.append rb).keep kA fun b hb o ho=>?_
     rw[zah];exact ho;rcases List.mem_append.mp hb with hb | hb
     ·exact(hA2 b hb).2.2
     ·rw[List.mem_singleton.mp hb];exact hqD
    ·refine List.nodup_append.mpr ⟨nd2,by simp,fun a ha b hb z=>?_⟩;rw[List.mem_singleton.mp hb] at z;exact hqA (z▸ha)
    ·rcases List.mem_append.mp hb with hb | hb
     ·obtain⟨o,eo,_⟩:=r2.some b hb;exact⟨old eo (hA2 b hb).1,(hA2 b hb).2⟩
     ·rw[List.mem_singleton.mp hb];exact⟨nq,(u2.trans (u3.trans u5)).same.free hq,hqD⟩
   ·left
    have hi':i=ds.length:=by omega
    subst hi';rw[List.drop_length] at ec;cases ec;refine⟨stop,?_⟩;rw[List.append_nil] at eo;subst eo;have u:=u1.trans u2
    obtain⟨fp,ow⟩:=s.ow;refine w (.ref Da) H2 J2 (s.up u) u.keep ⟨Da::A,fp,⟨fun i=>(ow.at' i).keep u.keep fun b _=>u.same b,ow.nd,fun i b hb jb=>?_,ow.dj⟩,.lst hys r2,?_,fun b hb=>?_,fun i b hb hb2=>?_⟩
    ·rcases u.jn b jb with jb | jb
     ·exact ow.nj i b hb jb
     ·obtain⟨o,e,_⟩:=(ow.at' i).ru b hb;rw[e] at jb;cases jb
    ·exact List.nodup_cons.mpr ⟨fun z=>(hA2 Da z).2.2 rfl,nd2⟩
    ·rcases List.mem_cons.mp hb with rfl | hb
     ·exact⟨nj2,hD0⟩
     ·exact⟨(hA2 b hb).1,s.free (u:=u1) (hA2 b hb).2.1⟩
    ·obtain⟨o,e,_⟩:=(ow.at' i).ru b hb2;have e1:=u1.same _ _ e
     rcases List.mem_cons.mp hb with rfl | hb
     ·rw[hD] at e1;cases e1
     ·rw[(hA2 b hb).2.1] at e1;cases e1
 ·rw[if_neg hl] at eB;cases eB
end
section
variable {X:Cx}{K:W.Frag}{H H' H1 H2 Hz:Hp}{J J' J1 J2 Jz:Addr->Prop}{ρ ρ' ρ2:En}{σ σ2:L2.St}{O:Pr}{fp:Nat->List Addr}
end
section
variable {X:Cx}{K:W.Frag}
end
def putKD (ks:List Key)(ds:List D)(j:Key)(d:D):List Key×List D:=if ks.any (fun k=>decide (k=j))=true then(ks,(ks.zip ds).map fun p=>if p.1=j then d else p.2) else(ks++[j],ds++[d])
section
variable {X:Cx}{K:W.Frag}{a b c e:Expr}{es:List Expr}{fa fb:FX}{fe fk fv:FE}{fl:FA}{fr:FR}{pos p p2:Pos}
def gPutD (i:Nat)(fk:FE)(f:FX):FS:=fun ρ=>(f ρ).bind fun q=>(fk q.2).bind fun k=>(keyD k).bind fun k=>match ownD (q.2[i]?) with
 | some (1,.dct ks ds)=>if ks.length<lim then some (.nx (setO q.2 i (.dct (putKD ks ds k q.1).1 (putKD ks ds k q.1).2))) else none
 | _=>none
def aRevR (f:FA):FA:=fun ρ=>(f ρ).bind fun l=>(a1Int l).bind fun j=>if 0<=j/\j<=1000000 then some (zba 0 j.toNat).reverse else none
theorem zko {H:Hp}{J:Addr->Prop}(n:Nat):Src K (Itd ((n:Int) - 1) n) H J (zba 0 n).reverse:=by
 intro H2 J2 k ja;have hl:(zba 0 n).length=n:=by simp[zba]
 rw[List.length_reverse,hl];refine⟨Nat.le_refl _,fun i d hd=>?_⟩;have hi:i<n:=by
  have:=(List.getElem?_eq_some_iff.mp hd).1
  rwa [List.length_reverse,hl] at this
 refine⟨hi,fun x H3 y=>?_⟩;obtain⟨rfl,rfl⟩:=y;rw[List.getElem?_reverse (by rw[hl];exact hi),hl] at hd;unfold zba at hd;rw[List.getElem?_map,List.getElem?_range (by omega)] at hd;cases hd;refine⟨J2,Up.refl ja,?_⟩;have e:(n:Int) - 1 - (i:Int)=0+((n - 1 - i:Nat):Int):=by omega
 rw[e];exact .int _
theorem zpt {tg:Expr}{pos2:Pos}(B:Blt X.mg)(ha:VA X [a] fl)(hg:Gl X "range":=by rfl)(hg2:Gl X "reversed":=by rfl)(hs:starEach [a] X.env = [(false,eval a X.env)]:=by rfl)
 (hs2:starEach [.Call (.Name "range" p) [a] [] pos] X.env = [(false,eval (.Call (.Name "range" p) [a] [] pos) X.env)]:=by rfl):VI X tg (.Call (.Name "reversed" p2) [.Call (.Name "range" p) [a] [] pos] [] pos2) (aRevR fl):=by
 obtain⟨t,p,g⟩:=ha;refine⟨_,zl7 hg (B.get "range") hg2 (B.get "reversed") p hs hs2,?_⟩;intro Hz Jz O ρ σ H J ds R s e w;obtain⟨l,e1,eA⟩:=bind_some e;obtain⟨j,e2,eB⟩:=bind_some eA;by_cases hj:0<=j/\j<=1000000
 ·rw[if_pos hj] at eB;cases eB;refine g Hz Jz O ρ σ H J _ _ s e1 fun vs H1 J1 u1 r1=>?_
  match l,e2,r1 with
  | [.int i],e2,r1=>
    cases e2;cases r1 with
    | cons h t=>
      cases t;cases h;have ej:j - 1=((j.toNat:Nat):Int) - 1:=by omega
      refine⟨j,rfl,by omega,by omega,?_⟩;rw[ej];exact w _ H1 J1 u1 (zko _)
 ·rw[if_neg hj] at eB;cases eB
def Itv (K:W.Frag)(a:Addr)(n:Nat):It:=
 ⟨fun i H=>i<n/\∃xs x,SqL K H a xs/\xs.length=n/\xs[n - 1 - i]?=some x,fun i H x H'=>H'=H/\∀xs,SqL K H a xs->xs[n - 1 - i]?=some x,fun i _=>n<=i⟩
theorem zkp {P:Program}{w:World}{K:W.Frag}{tg:Expr}(a it:Addr)(n:Nat):Turn P w K tg (Itv K a n) [it] it (fun i h=>i<=n/\h.IsRevIter it a ((n:Int) - 1 - (i:Int))) where
 mem:=by simp
 obj:=fun i h st b hb=>by
  have e:b=it:=by simpa using hb
  subst e;obtain⟨_,o,e,c,d⟩:=st;exact⟨o,e,fun v z=>by rw[d] at z;cases z⟩
 keep:=fun i h h' st k=>⟨st.1,st.2.at fun o e=>k it (by simp) o e⟩
 item:=by
  intro X hP hw hK hc i pins s σ H E I hf st hg;subst hP hw hK;obtain⟨hlt,xs,x,hq,hn,hx⟩:=hg;obtain⟨its,rv,p,hz⟩:=I.list hq;obtain⟨u,hu,ru⟩:=rv.get hx;obtain⟨f0,f1,f2,f3,f4,f5⟩:=hf it (by simp);have e1:(n:Int) - 1 - (i:Int)=((n - 1 - i:Nat):Int):=by omega
  have st':=st.2
  rw[e1] at st';refine wpAny_pyNext_rev_item st' p.isList (x:=u) (by simpa using hu) fun h' st2 sb=>?_
  have I1:Inv X pins σ H {s with heap:=h'}:=I.turned (t':=s.toks) (fun b o hb e=>(sb.2 b hb).trans e) f0 f1 f3 f4 f5
  obtain⟨o,e,c,d⟩:=id st2;have e2:((n - 1 - i:Nat):Int) - 1=(n:Int) - 1 - ((i+1:Nat):Int):=by omega
  rw[e2] at st2;exact⟨u,rfl,zig (s:={s with heap:=h'}) e c d (by decide) ⟨x,H,I1,ru,⟨rfl,fun ys hy=>by rw[I.list_inj hy hq];exact hx⟩,⟨hlt,st2⟩,fun b hb=>(hf b hb).1⟩⟩
 done:=by
  intro X hP hw hK hc i pins s σ H E I hf st hg;subst hP hw hK;obtain⟨f0,f1,f2,f3,f4,f5⟩:=hf it (by simp);have hi:n<=i:=hg
  have e1:(n:Int) - 1 - (i:Int) = -1:=by have:=st.1;omega
  have st':=st.2
  rw[e1] at st';exact wpAny_pyNext_rev_end (I.ok.hd hc) st' fun h' eb=>⟨rfl,I.turned (t':=s.toks) (fun b o hb e=>eb b o hb e) f0 f1 f3 f4 f5⟩
 self:=fun _ _ _ _ _ st h=>wpAny_pyIter_revIter st.2 h
def zpu (K:W.Frag)(ta:TA):TI:=fun σ H R=>ta σ H fun vs H1=>∃a xs,vs = [.ref a]/\SqL K H1 a xs/\R (Itv K a xs.length) H1
theorem zmr {tg:Expr}{ta:TA}(hg:Gl X "reversed")(hm:X.mg "reversed"=none)(ha:PA X [a] ta)(hs:starEach [a] X.env = [(false,eval a X.env)]:=by rfl):PI X tg (.Call (.Name "reversed" p) [a] [] pos) (zpu X.K ta):=by
 intro pins s σ H R I h;refine wpAny_Call_Name_kw (zc4 I hg hm boot_reversed ?_ (by decide) (by decide));refine PyProof.Rows.callWith_type1 (thn (ha pos pins s σ H _ I h) fun us s1 ⟨vs,H1,I1,r1,q1⟩ =>?_) hs rfl;obtain⟨a,xs,rfl,hq,q⟩:=q1;cases r1 with
 | cons r rr=>
   cases rr;cases r;obtain⟨its,rv,pl,hz⟩:=I1.list hq;refine call_reversed_list pl.isList ?_;have e0:((its.toArray.size:Nat):Int) - 1=(xs.length:Int) - 1 - ((0:Nat):Int):=by simp[rv.length]
   rw[e0];have st:(s1.heap.push (revObj a ((xs.length:Int) - 1 - ((0:Nat):Int)))).IsRevIter s1.heap.objs.size a ((xs.length:Int) - 1 - ((0:Nat):Int)):=⟨_,Heap.get?_push_size _ rfl,rfl,rfl⟩
   refine wpAny_pyIter_revIter st ?_;refine⟨s1.heap.objs.size,[s1.heap.objs.size],_,_,H1,rfl,I1.kept (t':=s1.toks) fun b o e=>Heap.get?_push_of_some _ e,zkp a _ xs.length,⟨Nat.zero_le _,st⟩,fun b hb=>?_,q⟩;have e:b=s1.heap.objs.size:=by simpa using hb
   subst e;exact I1.fpOk (Nat.le_refl _) (I1.hok.fresh (Nat.le_refl _))
def zon:List D->Option (List D)
 | [.lst ds]=>some ds
 | _=>none
def zpv (f:FA):FA:=fun ρ=>(f ρ).bind fun l=>(zon l).bind fun ds=>some ds.reverse
theorem zms {tg:Expr}(B:Blt X.mg)(ha:VA X [a] fl)(hg:Gl X "reversed":=by rfl)(hs:starEach [a] X.env = [(false,eval a X.env)]:=by rfl):VI X tg (.Call (.Name "reversed" p) [a] [] pos) (zpv fl):=by
 obtain⟨t,p,g⟩:=ha;refine⟨_,zmr hg (B.get "reversed") p hs,?_⟩;intro Hz Jz O ρ σ H J ds R s e w;obtain⟨l,e1,eA⟩:=bind_some e;obtain⟨xs,e2,eB⟩:=bind_some eA;cases eB;refine g Hz Jz O ρ σ H J _ _ s e1 fun vs H1 J1 u1 r1=>?_
 match l,e2,r1 with
 | [.lst _],e2,r1=>
   cases e2;cases r1 with
   | cons h t=>
     cases t;cases h with
     | lst h j r=>
       rename_i p vs
       refine⟨p,vs,rfl,SqL.of h,w _ H1 J1 u1 fun H2 J2 k ja=>?_⟩;have h2:=k.jo _ _ j h
       rw[List.length_reverse,<-r.length];refine⟨Nat.le_refl _,fun i d hd=>?_⟩;have hi:i<vs.length:=by
        have:=(List.getElem?_eq_some_iff.mp hd).1
        rwa [List.length_reverse,<-r.length] at this
       rw[List.getElem?_reverse (by rw[<-r.length];exact hi),<-r.length] at hd;obtain⟨v,hv,rv⟩:=r.get hd;refine⟨⟨hi,vs,v,SqL.of h2,rfl,hv⟩,fun x H3 y=>?_⟩;obtain⟨rfl,y⟩:=y;have e:=y _ (SqL.of h2)
       rw[hv] at e;cases e;exact⟨J2,Up.refl ja,rv.keep k⟩
end
section
variable {X:Cx}{K:W.Frag}{a b c e:Expr}{es:List Expr}{fa fb:FX}{fe fk fv:FE}{fl:FA}{fr:FR}{pos p p2:Pos}
def isL2:Option (Nat×D)->Bool
 | some (2,.lst _)=>true
 | _=>false
def xPop (i:Nat):FX:=fun ρ=>match ownD (ρ[i]?) with
 | some (1,.lst ds)=>(ds[ds.length - 1]?).bind fun d=>some (d,setO ρ i (.lst ds.dropLast))
 | _=>none
def zlp (i:Nat)(f:FX):FX:=fun ρ=>if isL1 (ownD (ρ[i]?))=true then(f ρ).bind fun q=>(dInt q.1).bind fun k=>match ownD (q.2[i]?) with
 | some (1,.lst ds)=>if -1000000<=k/\k<=1000000 then(seqIndex? k ds.length).bind fun j=>(ds[j]?).bind fun d=>some (d,setO q.2 i (.lst (ds.eraseIdx j))) else none
 | _=>none
 else none
end
section
variable {X:Cx}{K:W.Frag}{fa:FX}{fr:FR}
theorem zmt {i:Nat}{t:TE}(q:GoR K t fr):GoS K (tAsg t (zeH i)) (gOwnR i fr):=by
 intro Hz Jz O ρ σ H J o E s e w;obtain⟨⟨r,ρ1⟩,e1,eA⟩:=bind_some e;cases r with
 | told d=>cases eA
 | new n d=>
   have eA:(if i<ρ1.length/\isPar (ρ1[i]?)=false then some (Out.nx (ρ1.set i (.own n d))) else none)=some o:=eA
   by_cases hi:i<ρ1.length/\isPar (ρ1[i]?)=false
   ·rw[if_pos hi] at eA;cases eA;exact q Hz Jz O ρ σ H J _ ρ1 _ s e1 fun v H' J' s' k r=>w _ H' J' (s'.take r hi.1 (zcC hi.2)) k
   ·rw[if_neg hi] at eA;cases eA
theorem zkq (N:List Str)(st:Stmt){i:Nat}{x:Str}{elt iter tg:Expr}{scope:Scope}{pos pos' cp:Pos}{NC:List Str}(fr:List (Option Nat)){fi:FA}{g:FG}{is:List Nat}{fe:FA}(hND:X.N.Nodup)(hix:X.N[i]?=some x)(hx:Loc X.env.scope x)(hcalm:X.calm=true)(hi:VI X tg iter fi)
 (hcells:∀x,X.env.scope.names.lookup x=some .cell->∃c,X.env.cells.lookup x=some c) (hfk:X.env.scope.kind=.function) (hN:X.N=N) (hsc:X.env.scope.names=(zad st).names)
 (hfree':∀y∈scope.names,y.2=.free->(zad st).names.lookup y.1=some .cell) (hcell:∀y∈scope.names,y.2≠.cell) (hkind:scope.kind=.function) (hnames:∀y∈scope.names,y.2=.local->scope.names.lookup y.1=some .local)
 (hfr':zeL N (zad st).names scope.names NC fr=true) (hlen:fr.length=NC.length) (hap:apart is fr=true)
 (hg:∀cl C s0 H0 ex pn,VG (cxC X scope cl NC C s0 H0 ex pn) tg is g) (he:∀cl C s0 H0 ex pn,VN (cxC X scope cl NC C s0 H0 ex pn) elt fe)
 (hs:∀x,foldedSetIterable iter X.env x=pure x:=by intro _;rfl) (hsw:swapsWith (.ListComp elt [⟨tg,iter,[],0⟩] scope cp) (some (.Name x pos')) pos.line X.env=pure true:=by rfl)
 (hf:X.fn x=true\/X.env.scope.names.lookup x=some .local:=by first | exact .inl rfl | exact .inr rfl | assumption) :
 VS X (.Assign [.Name x pos'] (.ListComp elt [⟨tg,iter,[],0⟩] scope cp) pos) (gOwnR i (zlo fr fi g fe)):=by
 obtain⟨wi,pi,gi⟩:=hi;obtain⟨_,_,hon,_⟩:=hg [] 0 X.s₀ X.Hz [] [];have p:=zl8 N st (i:=i) (pos:=pos) (pos':=pos') (cp:=cp) fr hND hix hx hcalm pi hcells hfk hN hsc hfree' hcell hkind hnames hfr' hlen (fun cl C s0 H0 ex pn=>show PG (cxC X scope cl NC C s0 H0 ex pn) tg (TGof X.K g) from(hg cl C s0 H0 ex pn).of) (fun cl C s0 H0 ex pn=>show PTs (cxC X scope cl NC C s0 H0 ex pn) [] (TTof X.K tTrue) from zct) (fun cl C s0 H0 ex pn=>show PE (cxC X scope cl NC C s0 H0 ex pn) elt (TNof X.K fe) from(he cl C s0 H0 ex pn).of) hs hsw hf
 exact⟨_,p,zmt (zkn gi hon hap)⟩
end
def zmu (ρ:En)(i:Nat):En:=if isPar (ρ[i]?)=false then ρ.set i .un else ρ
def dropE (is:List Nat)(ρ:En):En:=is.foldl zmu ρ
theorem ST.dropE {K:W.Frag}{Hz H:Hp}{Jz J:Addr->Prop}{O:Pr}{σ:L2.St}:∀(is:List Nat) {ρ:En},ST K Hz Jz O ρ σ H J->ST K Hz Jz O (dropE is ρ) σ H J
 | [],_,s=>s
 | i::is,ρ,s=>by
   refine ST.dropE is (ρ:=zmu ρ i) ?_;unfold zmu;by_cases h:isPar (ρ[i]?)=false
   ·rw[if_pos h];exact s.drop fun n d z=>by rw[z] at h;cases h
   ·rw[if_neg h];exact s
def zoo (is:List Nat)(g:FS):FS:=fun ρ=>g (dropE is ρ)
section
variable {X:Cx}{sts:List Stmt}{g:FS}
theorem zaL (is:List Nat)(h:VSs X sts g):VSs X sts (zoo is g):=by
 obtain⟨t,p,q⟩:=h;exact⟨t,p,fun Hz Jz O ρ σ H J o E s e w=>q Hz Jz O _ σ H J o E (s.dropE is) e w⟩
end
def EvS {R A:Type}(k:Out->Option R)(φ:A->Option R)(g:FS)(ρ:En)(a:Option A):Prop:=∀r,a.bind φ=some r->(g ρ).bind k=some r
def Step {α:Type}(g:FS)(ρ:En)(x:Option α)(ρ':α->En):Prop:=∀d,x=some d->g ρ=some (.nx (ρ' d))
def okS (i:Nat)(ρ:En):Bool:=decide (i<ρ.length) && !isPar (ρ[i]?)
theorem zen {i:Nat}{ρ:En}(h:okS i ρ=true):i<ρ.length/\isPar (ρ[i]?)=false:=by
 unfold okS at h;simpa using h
section
variable {R A α S:Type}{k:Out->Option R}{φ:A->Option R}{g g2 a b:FS}{ρ:En}{x:Option α}{ρ':α->En}{c:FT}{e:FE}{fl:FA}
theorem zac {β γ:Type}{x:Option β}{f:β->Option γ}{r:γ}(h:x.bind f=some r):∃y,x=some y/\f y=some r:=by
 cases x with
 | none=>cases h
 | some y=>exact⟨y,rfl,h⟩
theorem zaf {K:α->Option A}(s:Step g ρ x ρ')(h:∀d,EvS k φ g2 (ρ' d) (K d)):EvS k φ (gSeq g g2) ρ (x.bind K):=fun r e=>by
 obtain⟨y,e,e2⟩:=zac e;obtain⟨d,e0,e⟩:=zac e;unfold gSeq;rw[s d e0];exact h d r (by rw[e];exact e2)
theorem zaG {a:Option A}(h:∀r,a.bind φ=some r->k (.nx ρ)=some r):EvS k φ gNx ρ a:=fun r e=>h r e
theorem zcv {a:Option A}(h:EvS k φ g ρ a):EvS k φ (gSeq gNx g) ρ a:=h
theorem ze0 (i:Nat){a:Option A}(h:EvS k φ g (frzE i ρ) a):EvS k φ (fun ρ=>g (frzE i ρ)) ρ a:=h
theorem za5 (is:List Nat){a:Option A}(h:EvS k φ g (dropE is ρ) a):EvS k φ (zoo is g) ρ a:=h
theorem zpw {a' b':Option A}(h1:EvS k φ a ρ a')(h2:EvS k φ b ρ b'):EvS k φ (gIf c a b) ρ ((c ρ).bind fun t=>if t then a' else b'):=fun r e=>by
 obtain⟨y,e,e2⟩:=zac e;obtain⟨t,e0,e⟩:=zac e;unfold gIf;rw[e0,zOB];cases t with
 | true=>exact h1 r (by rw[if_pos rfl] at e;rw[e];exact e2)
 | false=>exact h2 r (by rw[if_neg (by decide)] at e;rw[e];exact e2)
def kx (k:Out->Option R):Out->Option R
 | .nx _=>none
 | o=>k o
theorem zop {r:R}(h:(a ρ).bind (kx k)=some r):(gSeq a g ρ).bind k=some r:=by
 unfold gSeq;cases z:a ρ with
 | none=>rw[z] at h;cases h
 | some o=>rw[z] at h;cases o <;> first | cases h | exact h
theorem zbs {a' b':Option A}(h1:EvS (kx k) φ a ρ a')(h2:EvS k φ (gSeq b g) ρ b'):EvS k φ (gSeq (gIf c a b) g) ρ ((c ρ).bind fun t=>if t then a' else b'):=fun r e=>by
 obtain⟨y,e,e2⟩:=zac e;obtain⟨t,e0,e⟩:=zac e;cases t with
 | true=>
   have:=zop (g:=g) (h1 r (by rw[if_pos rfl] at e;rw[e];exact e2))
   unfold gSeq gIf at *;rw[e0];exact this
 | false=>
   have:=h2 r (by rw[if_neg (by decide)] at e;rw[e];exact e2)
   unfold gSeq gIf at *;rw[e0];exact this
theorem zi5 {a':Option A}(h:a'=none):EvS k φ gNo ρ a':=fun r e=>by rw[h] at e;cases e
theorem zau {K:D->Option A}(h:∀d r,(K d).bind φ=some r->k (.ret (.told d) ρ)=some r):EvS k φ (gRet e) ρ ((e ρ).bind K):=fun r z=>by
 obtain⟨y,z,z2⟩:=zac z;obtain⟨d,e0,z⟩:=zac z;unfold gRet;rw[e0];exact h d r (by rw[z];exact z2)
theorem zmv {i n:Nat}{d:D}{a':Option A}(hi:ρ[i]?=some (.own n d))(h:∀r,a'.bind φ=some r->k (.ret (.new n d) (ρ.set i .un))=some r):EvS k φ (gRetO i) ρ a':=fun r z=>by
 unfold gRetO;rw[hi];exact h r z
theorem zgF {K:List D->Option A}(h:∀ds r,(K ds).bind φ=some r->k (.ret (.new 1 (.lst ds)) ρ)=some r):EvS k φ (gRetN fl) ρ ((fl ρ).bind K):=fun r z=>by
 obtain⟨y,z,z2⟩:=zac z;obtain⟨d,e0,z⟩:=zac z;unfold gRetN;rw[e0];exact h d r (by rw[z];exact z2)
theorem zax {i:Nat}(h:okS i ρ=true):Step (gSet i e) ρ (e ρ) fun d=>ρ.set i (.val d):=fun d z=>by
 unfold gSet;rw[z,zOB,if_pos (zen h)]
theorem zgG:Step (gEx e) ρ (e ρ) fun _=>ρ:=fun d z=>by unfold gEx;rw[z];rfl
theorem zdS {i:Nat}(h:okS i ρ=true):Step (gOwn i fl) ρ (fl ρ) fun ds=>ρ.set i (.own 1 (.lst ds)):=fun d z=>by
 unfold gOwn;rw[z,zOB,if_pos (zen h)]
def appL (xs:List D)(d:D):Option (List D):=if xs.length<lim then some (xs++[d]) else none
def extL (xs:List D)(d:D):Option (List D):=match d with | .lst es=>if(xs++es).length<=lim then some (xs++es) else none | _=>none
theorem zeo {i:Nat}{xs:List D}(h:ownD (ρ[i]?)=some (1,.lst xs)):Step (gApp i e) ρ ((e ρ).bind (appL xs)) fun ys=>setO ρ i (.lst ys):=fun d z=>by
 obtain⟨y,e0,z⟩:=zac z;unfold gApp;rw[e0,zOB,h];unfold appL at z;split at z
 ·rename_i q;cases z;exact if_pos q
 ·cases z
theorem zi6 {i:Nat}{xs:List D}(h:ownD (ρ[i]?)=some (1,.lst xs)):Step (gExt i e) ρ ((e ρ).bind (extL xs)) fun ys=>setO ρ i (.lst ys):=fun d z=>by
 obtain⟨y,e0,z⟩:=zac z;unfold gExt;rw[e0,zOB,h];unfold extL at z;cases y <;> try cases z
 rename_i es
 have z:(if(xs++es).length<=lim then some (xs++es) else none)=some d:=z
 split at z
 ·rename_i q;cases z;exact if_pos q
 ·cases z
def k0:Out->Option En
 | .nx ρ=>some ρ
 | _=>none
def kL:Out->Option En
 | .nx ρ=>some ρ
 | .ct ρ=>some ρ
 | _=>none
theorem zhV {emb:S->En}{a' b':Option S}(h1:EvS k0 (fun s=>some (emb s)) a ρ a')(h2:EvS k0 (fun s=>some (emb s)) b ρ b'):Step (gIf c a b) ρ ((c ρ).bind fun t=>if t then a' else b') emb:=fun s z=>by
 have:=zpw (c:=c) h1 h2 (emb s) (by rw[z];rfl)
 obtain⟨o,e1,e2⟩:=zac this;rw[e1];cases o <;> cases e2
 rfl
end
def Tg {α:Type}(tg:FG)(d:D)(ρ:En)(x:Option α)(ρ':α->En):Prop:=∀y,x=some y->tg d ρ=some (ρ' y)
section
variable {d:D}{ρ:En}
theorem tg_n {i:Nat}(h:okS i ρ=true):Tg (gN i) d ρ (some d) fun d=>ρ.set i (.val d):=fun y e=>by
 cases e;unfold gN;rw[if_pos (zen h)]
def un2:D->Option (D×D)
 | .tup [a,b]=>some (a,b)
 | _=>none
def un4:D->Option (D×D×D×D)
 | .tup [a,b,c,d]=>some (a,b,c,d)
 | _=>none
theorem zkr {d:D}{y:D×D}(h:un2 d=some y):d=.tup [y.1,y.2]:=by
 unfold un2 at h;split at h
 ·cases h;rfl
 ·cases h
theorem zks {d:D}{y:D×D×D×D}(h:un4 d=some y):d=.tup [y.1,y.2.1,y.2.2.1,y.2.2.2]:=by
 unfold un4 at h;split at h
 ·cases h;rfl
 ·cases h
theorem zep {i:Nat}{d:D}{ρ:En}(h:okS i ρ=true):gN i d ρ=some (ρ.set i (.val d)):=by unfold gN;rw[if_pos (zen h)]
theorem tg_2 {i j:Nat}(h1:okS i ρ=true)(h2:∀x,okS j (ρ.set i (.val x))=true):Tg (gT 2 (gCons' (gN i) (gCons' (gN j) gNil'))) d ρ (un2 d) fun y=>(ρ.set i (.val y.1)).set j (.val y.2):=fun y e=>by
 rw[zkr e];show((gN i y.1 ρ).bind fun ρ1=>(gN j y.2 ρ1).bind fun ρ2=>gNil' [] ρ2)=_
 rw[zep h1,zOB,zep (h2 _)];rfl
theorem tg_4 {i j l m:Nat}(h1:okS i ρ=true)(h2:∀x,okS j (ρ.set i (.val x))=true)(h3:∀x y,okS l ((ρ.set i (.val x)).set j (.val y))=true)(h4:∀x y z,okS m (((ρ.set i (.val x)).set j (.val y)).set l (.val z))=true):Tg (gT 4 (gCons' (gN i) (gCons' (gN j) (gCons' (gN l) (gCons' (gN m) gNil'))))) d ρ (un4 d) fun y=>(((ρ.set i (.val y.1)).set j (.val y.2.1)).set l (.val y.2.2.1)).set m (.val y.2.2.2):=fun y e=>by
 rw[zks e];show((gN i y.1 ρ).bind fun ρ1=>(gN j y.2.1 ρ1).bind fun ρ2=>(gN l y.2.2.1 ρ2).bind fun ρ3=>(gN m y.2.2.2 ρ3).bind fun ρ4=>gNil' [] ρ4)=_
 rw[zep h1,zOB,zep (h2 _),zOB,zep (h3 _ _),zOB,zep (h4 _ _ _)];rfl
theorem zi7 {α:Type}{e:FE}{tg:FG}{x:D->Option α}{ρ':α->En}(h:∀d,Tg tg d ρ (x d) ρ'):Step (gAsg e tg) ρ ((e ρ).bind x) ρ':=fun y z=>by
 obtain⟨d,e0,z⟩:=zac z;unfold gAsg;rw[e0,zOB,h d y z];rfl
end
def zaN {S:Type}(f:S->D->Option S):S->List D->Option S
 | s,[]=>some s
 | s,d::ds=>(f s d).bind fun s=>zaN f s ds
theorem zi8 {α S:Type}{ρ:En}{fi:FA}{tg:FG}{b:FS}{x:D->Option α}{emb:S->En}{ρ1:S->α->En}{step:S->α->Option S}{s0:S}(h0:emb s0=ρ)(ht:∀s d,Tg tg d (emb s) (x d) (ρ1 s))(hb:∀s y,EvS kL (fun s=>some (emb s)) b (ρ1 s y) (step s y)) :
 Step (gFor fi tg b) ρ ((fi ρ).bind (zaN (fun s d=>(x d).bind (step s)) s0)) emb:=fun s z=>by
 have key:∀(ds:List D) (s0:S),zaN (fun s d=>(x d).bind (step s)) s0 ds=some s->forL tg b ds (emb s0)=some (.nx (emb s)):=by
  intro ds;induction ds with
  | nil=>intro s0 q;cases q;rfl
  | cons d ds ih=>
    intro s0 q;obtain⟨s1,e1,q1⟩:=zac q;obtain⟨y,e2,e5⟩:=zac e1;have hb1:=hb s0 y (emb s1) (by rw[e5];rfl)
    obtain⟨o,e3,e4⟩:=zac hb1;unfold forL;rw[ht s0 d y e2,zOB,e3,zOB];cases o <;> cases e4 <;> exact ih _ q1
 obtain⟨ds,e0,z1⟩:=zac z;unfold gFor;rw[e0,zOB,<-h0];exact key ds s0 z1
inductive Fl (S A:Type) where
 | nx (s:S) | bk (s:S) | ret (a:A)
def zdf {S A:Type}(f:S->D->Option (Fl S A)):S->List D->Option (Fl S A)
 | s,[]=>some (.nx s)
 | s,d::ds=>(f s d).bind fun o=>match o with
   | .nx s=>zdf f s ds
   | .bk s=>some (.nx s)
   | .ret a=>some (.ret a)
def kR {R:Type}(k:Out->Option R):Out->Option (Fl En R)
 | .nx ρ=>some (.nx ρ)
 | .ct ρ=>some (.nx ρ)
 | .bk ρ=>some (.bk ρ)
 | .ret v ρ=>(k (.ret v ρ)).map .ret
def fR {S A R:Type}(φ:A->Option R)(emb:S->En):Fl S A->Option (Fl En R)
 | .nx s=>some (.nx (emb s))
 | .bk s=>some (.bk (emb s))
 | .ret a=>(φ a).map .ret
theorem zlq {α S A R:Type}{k:Out->Option R}{φ:A->Option R}{ρ:En}{fi:FA}{tg:FG}{b g:FS}{x:D->Option α}{emb:S->En}{ρ1:S->α->En}{step:S->α->Option (Fl S A)}{K:S->Option A}{s0:S}(h0:emb s0=ρ)(ht:∀s d,Tg tg d (emb s) (x d) (ρ1 s))(hb:∀s y,EvS (kR k) (fR φ emb) b (ρ1 s y) (step s y))(hk:∀s,EvS k φ g (emb s) (K s)) :
 EvS k φ (gSeq (gFor fi tg b) g) ρ ((fi ρ).bind fun ds=>(zdf (fun s d=>(x d).bind (step s)) s0 ds).bind fun o=>match o with | .nx s=>K s | .bk s=>K s | .ret a=>some a):=fun r z=>by
 have key:∀(ds:List D) (s0:S) (v:A) (o:Fl S A),zdf (fun s d=>(x d).bind (step s)) s0 ds=some o->(match o with | .nx s=>K s | .bk s=>K s | .ret a=>some a)=some v->φ v=some r->((forL tg b ds (emb s0)).bind fun o=>match o with | .nx ρ'=>g ρ' | .bk ρ'=>some (.bk ρ') | .ct ρ'=>some (.ct ρ') | .ret d ρ'=>some (.ret d ρ')).bind k=some r:=by
  intro ds;induction ds with
  | nil=>
    intro s0 v o q1 q2 q3;cases q1;exact hk s0 r (by rw[show K s0=some v from q2];exact q3)
  | cons d ds ih=>
    intro s0 v o q1 q2 q3;obtain⟨o1,e1,q4⟩:=zac q1;obtain⟨y,e2,e5⟩:=zac e1;unfold forL;rw[ht s0 d y e2,zOB];cases o1 with
    | nx s1=>
      have hb1:=hb s0 y (.nx (emb s1)) (by rw[e5];rfl)
      obtain⟨ob,e3,e4⟩:=zac hb1;rw[e3,zOB];have ih:=ih s1 v o q4 q2 q3
      cases ob with
      | nx ρ2=>cases e4;exact ih
      | ct ρ2=>cases e4;exact ih
      | bk ρ2=>cases e4
      | ret v ρ2=>
        have e4:(k (.ret v ρ2)).map Fl.ret=some (Fl.nx (emb s1)):=e4
        cases h:k (.ret v ρ2) <;> rw[h] at e4 <;> cases e4
    | bk s1=>
      cases q4;have q2:K s1=some v:=q2
      have hb1:=hb s0 y (.bk (emb s1)) (by rw[e5];rfl)
      obtain⟨ob,e3,e4⟩:=zac hb1;rw[e3,zOB];cases ob with
      | nx ρ2=>cases e4
      | ct ρ2=>cases e4
      | bk ρ2=>cases e4;exact hk s1 r (by rw[q2];exact q3)
      | ret v ρ2=>
        have e4:(k (.ret v ρ2)).map Fl.ret=some (Fl.bk (emb s1)):=e4
        cases h:k (.ret v ρ2) <;> rw[h] at e4 <;> cases e4
    | ret a=>
      cases q4;cases q2;have hb1:=hb s0 y (.ret r) (by rw[e5];show(φ _).map Fl.ret=_;rw[q3];rfl)
      obtain⟨ob,e3,e4⟩:=zac hb1;rw[e3,zOB];cases ob with
      | nx ρ2=>cases e4
      | ct ρ2=>cases e4
      | bk ρ2=>cases e4
      | ret v ρ2=>
        have e4:(k (.ret v ρ2)).map Fl.ret=some (Fl.ret r):=e4
        cases h:k (.ret v ρ2) with
        | none=>rw[h] at e4;cases e4
        | some r'=>rw[h] at e4;cases e4;exact h
 obtain⟨v,z1,z2⟩:=zac z;obtain⟨ds,e0,z3⟩:=zac z1;obtain⟨o,z4,z5⟩:=zac z3;unfold gSeq gFor;rw[e0,zOB,<-h0];exact key ds s0 v o z4 z5 z2
def aC (x:Option D)(xs:Option (List D)):Option (List D):=x.bind fun d=>xs.bind fun ds=>some (d::ds)
def aN:Option (List D):=some []
def zbk (f:D->Option (Option D))(ds:List D):Option (List D):=(zdb f ds).bind fun out=>if out.length<=lim then some out else none
def zoq (l:List D):Option (List D):=(a1Tup l).bind fun ds=>some (zdW ds)
def rngA (l:List D):Option (List D):=(a1Int l).bind fun j=>if -1000000<=j/\j<=1000000 then some (zba 0 j.toNat) else none
def zpx (l:List D):Option (List D):=(zon l).bind fun ds=>some ds.reverse
def mkLs (ds:List D):Option (List D):=if ds.length<=lim then some ds else none
def flK {S A:Type}(K:S->Option A):Fl S A->Option A
 | .nx s=>K s
 | .bk s=>K s
 | .ret a=>some a
section
variable {α S A R:Type}{k:Out->Option R}{φ:A->Option R}{ρ:En}{fi:FA}{b g:FS}{emb:S->En}{s0:S}
theorem zdB {i:Nat}{step:S->D->Option S}(h0:emb s0=ρ)(hi:∀s,okS i (emb s)=true)(hb:∀s d,EvS kL (fun s=>some (emb s)) b ((emb s).set i (.val d)) (step s d)) :
 Step (gFor fi (gN i) b) ρ ((fi ρ).bind (zaN step s0)) emb:=
 zi8 (x:=fun d=>some d) (step:=step) h0 (fun s d=>tg_n (hi s)) hb
theorem zi9 {i j:Nat}{step:S->D×D->Option S}(h0:emb s0=ρ)(hi:∀s,okS i (emb s)=true)(hj:∀s x,okS j ((emb s).set i (.val x))=true)(hb:∀s y,EvS kL (fun s=>some (emb s)) b (((emb s).set i (.val y.1)).set j (.val y.2)) (step s y)) :
 Step (gFor fi (gT 2 (gCons' (gN i) (gCons' (gN j) gNil'))) b) ρ ((fi ρ).bind (zaN (fun s d=>(un2 d).bind (step s)) s0)) emb:=
 zi8 (x:=un2) (step:=step) h0 (fun s d=>tg_2 (hi s) (hj s)) hb
theorem zfr {i:Nat}{step:S->D->Option (Fl S A)}{K:S->Option A}(h0:emb s0=ρ)(hi:∀s,okS i (emb s)=true)(hb:∀s d,EvS (kR k) (fR φ emb) b ((emb s).set i (.val d)) (step s d))(hk:∀s,EvS k φ g (emb s) (K s)) :
 EvS k φ (gSeq (gFor fi (gN i) b) g) ρ ((fi ρ).bind fun ds=>(zdf step s0 ds).bind (flK K)):=fun r z=>
 zlq (x:=fun d=>some d) (step:=step) h0 (fun s d=>tg_n (hi s)) hb hk r (by
  rw[<-z];congr 1)
theorem zmw {i j:Nat}{step:S->D×D->Option (Fl S A)}{K:S->Option A}(h0:emb s0=ρ)(hi:∀s,okS i (emb s)=true)(hj:∀s x,okS j ((emb s).set i (.val x))=true)(hb:∀s y,EvS (kR k) (fR φ emb) b (((emb s).set i (.val y.1)).set j (.val y.2)) (step s y))(hk:∀s,EvS k φ g (emb s) (K s)) :
 EvS k φ (gSeq (gFor fi (gT 2 (gCons' (gN i) (gCons' (gN j) gNil'))) b) g) ρ ((fi ρ).bind fun ds=>(zdf (fun s d=>(un2 d).bind (step s)) s0 ds).bind (flK K)):=fun r z=>
 zlq (x:=un2) (step:=step) h0 (fun s d=>tg_2 (hi s) (hj s)) hb hk r (by
  rw[<-z];congr 1)
end
def zpy (x k v:D):Option D:=(keyD k).bind fun k=>match x with
 | .dct ks ds=>if ks.length<lim then some (.dct (putKD ks ds k v).1 (putKD ks ds k v).2) else none
 | _=>none
theorem zpz {i:Nat}{ρ:En}{fk f:FE}{x:D}(h:ownD (ρ[i]?)=some (1,x)):Step (gPutD i fk (xE f)) ρ ((f ρ).bind fun v=>(fk ρ).bind fun k=>zpy x k v) fun y=>setO ρ i y:=fun d z=>by
 obtain⟨v,e0,z1⟩:=zac z;obtain⟨kk,e1,z2⟩:=zac z1;obtain⟨key,e2,z3⟩:=zac z2;unfold gPutD xE;rw[e0,zOB,zOB];show(fk ρ).bind _=_
 rw[e1,zOB,e2,zOB];show(match ownD (ρ[i]?) with | some (1,.dct ks ds)=>_ | _=>_)=_
 rw[h];cases x <;> try cases z3
 rename_i ks ds
 have z3:(if ks.length<lim then some (D.dct (putKD ks ds key v).1 (putKD ks ds key v).2) else none)=some d:=z3
 split at z3
 ·rename_i q;cases z3;exact if_pos q
 ·cases z3
def zor (xs:List D)(k v:D):Option (List D):=(dInt k).bind fun k=>(ixN xs.length k).bind fun j=>some (xs.set j v)
theorem zmx {i:Nat}{ρ:En}{fk f:FE}{xs:List D}(h:ownD (ρ[i]?)=some (1,.lst xs)):Step (gPutL i fk (xE f)) ρ ((f ρ).bind fun v=>(fk ρ).bind fun k=>zor xs k v) fun ys=>setO ρ i (.lst ys):=fun d z=>by
 obtain⟨v,e0,z1⟩:=zac z;obtain⟨kk,e1,z2⟩:=zac z1;obtain⟨key,e2,z3⟩:=zac z2;obtain⟨j,e3,z4⟩:=zac z3;cases z4;unfold gPutL xE;rw[e0,zOB,zOB];show(fk ρ).bind _=_
 rw[e1,zOB,e2,zOB];show(match ownD (ρ[i]?) with | some (1,.lst ds)=>_ | _=>_)=_
 rw[h];show(ixN xs.length key).bind _=_
 rw[e3];rfl
theorem zmy {i n:Nat}{ρ:En}{f:FR}{x:D}(hf:f ρ=some (.new n x,ρ))(h:okS i ρ=true):Step (gOwnR i f) ρ (some ()) fun _=>ρ.set i (.own n x):=fun d z=>by
 unfold gOwnR;rw[hf,zOB];exact if_pos (zen h)
def kF:Out->Option D
 | .ret (.told d) _=>some d
 | .ret (.new _ d) _=>some d
 | .nx _=>some .non
 | _=>none
section
variable {P:Program}{w:World}{K:W.Frag}{mg:Str->Option Value}{base:Heap}
theorem za4 {x qual:Str}{st:Stmt}{f:Addr}{fd:FuncData}{N ps:List Str}{k:Nat}{c:List D->Option D}(F:Fun K x qual st f fd)(S:FnScope N ps (zad st))(hlen:∀ds d,c ds=some d->ds.length=ps.length)
 (hbody:∀(cdv:Value) (A:Around) (outer:List Env) (s:Shared) (H:Hp) (E:XK),Room k (A.deeper (envOfC qual (zad st) s.heap.objs.size f cdv))->∃g,VSs (cxOf CX0 P w K mg base N qual (zad st) f cdv A outer s H E).nox (zbc st) g/\∀ds,ds.length=ps.length->EvS kF some g (ds.map SV.val++List.replicate (N.length - ps.length) .un) (c ds)):FnOk P w K mg base CX0 (k+1) f fd ps (spF K c):=by
 refine F.ok S (fun vs H Q E h=>?_) (fun cdv A outer s H vs Q E hr h=>?_)
 ·obtain⟨J,ds,d,ja,r,e,w⟩:=h;rw[r.length];exact hlen ds d e
 ·obtain⟨J,ds,d,ja,r,e,w⟩:=h;have hl:=hlen ds d e
  obtain⟨g,⟨t,p,q⟩,ev⟩:=hbody cdv A outer s H E hr;refine⟨t,p,?_⟩;have e:=ev ds hl d (by rw[e];rfl)
  rw[<-hl] at e;have s0:=zhe (N:=N) ja r
  cases z:g (ds.map SV.val++List.replicate (N.length - ds.length) .un) with
  | none=>rw[z] at e;cases e
  | some o=>
    rw[z] at e;refine q H J Pr.no _ _ H J o _ s0 z ?_;cases o with
    | nx ρ'=>cases e;exact fun σ' H' J' s' k'=>w .non H' J' s'.out .non
    | ret r ρ'=>
      cases r with
      | told d'=>cases e;exact fun v σ' H' J' s' r'=>w v H' J' s'.out r'
      | new n d'=>
        cases e;rintro v σ' H' J' s' ⟨B,fp,_,ru,_,hb,_⟩;have u:=s'.out
        refine w v H' (fun b=>J' b\/b∈B) ⟨u.same,fun a h=>.inl (u.jj a h),fun a h=>?_,fun a h=>?_⟩ (ru.rp (fun _ h=>.inl h) (fun b hb=>.inr hb))
        ·rcases h with h | h
         ·exact u.jn a h
         ·exact .inr (hb a h).2
        ·rcases h with h | h
         ·exact u.ja a h
         ·obtain⟨o,e,_⟩:=ru.some a h;rw[e];simp
    | bk _=>cases e
    | ct _=>cases e
end
def c0 (b:Option D):List D->Option D | []=>b | _=>none
def c1 (b:D->Option D):List D->Option D | [x]=>b x | _=>none
def c2 (b:D->D->Option D):List D->Option D | [x,y]=>b x y | _=>none
def c3 (b:D->D->D->Option D):List D->Option D | [x,y,z]=>b x y z | _=>none
def c4 (b:D->D->D->D->Option D):List D->Option D | [x,y,z,u]=>b x y z u | _=>none
def c5 (b:D->D->D->D->D->Option D):List D->Option D | [x,y,z,u,v]=>b x y z u v | _=>none
def c6 (b:D->D->D->D->D->D->Option D):List D->Option D | [x,y,z,u,v,t]=>b x y z u v t | _=>none
theorem zcM {b:D->Option D}:∀ds d,c1 b ds=some d->ds.length=1:=fun ds d h=>by unfold c1 at h;split at h;rfl;cases h
theorem zbw {b:D->D->Option D}:∀ds d,c2 b ds=some d->ds.length=2:=fun ds d h=>by unfold c2 at h;split at h;rfl;cases h
theorem ze1 {b:D->D->D->Option D}:∀ds d,c3 b ds=some d->ds.length=3:=fun ds d h=>by unfold c3 at h;split at h;rfl;cases h
section
variable {R:Type}{k:Out->Option R}{φ:D->Option R}{g:FS}{n:List SV}
theorem zfs {b:D->Option D}(h:∀x,EvS k φ g (.val x::n) (b x)):∀ds:List D,ds.length=1->EvS k φ g (ds.map SV.val++n) (c1 b ds)
 | [x],_=>h x
theorem zcV {b:D->D->Option D}(h:∀x y,EvS k φ g (.val x::.val y::n) (b x y)):∀ds:List D,ds.length=2->EvS k φ g (ds.map SV.val++n) (c2 b ds)
 | [x,y],_=>h x y
theorem zhW {b:D->D->D->Option D}(h:∀x y z,EvS k φ g (.val x::.val y::.val z::n) (b x y z)):∀ds:List D,ds.length=3->EvS k φ g (ds.map SV.val++n) (c3 b ds)
 | [x,y,z],_=>h x y z
end
mutual
inductive Rh (h:Heap):Value->D->Prop
 | non:Rh h .none .non
 | bl (b:Bool):Rh h (.bool b) (.bl b)
 | int (i:Int) (t:Tok):Rh h (.int i t) (.int i)
 | str (x:Str) (t:Tok):Rh h (.str x t) (.str x)
 | tup {l:Addr}{us:List Value}{ds:List D}(p:h.IsTuple l us.toArray) (r:RhL h us ds):Rh h (.ref l) (.tup ds)
 | lst {l:Addr}{us:List Value}{ds:List D}(p:h.IsList l us.toArray) (r:RhL h us ds):Rh h (.ref l) (.lst ds)
inductive RhL (h:Heap):List Value->List D->Prop
 | nil:RhL h [] []
 | cons {u:Value}{d:D}{us:List Value}{ds:List D}(a:Rh h u d) (t:RhL h us ds):RhL h (u::us) (d::ds)
end
mutual
def ndD:D->Bool
 | .dct _ _=>false
 | .scr _=>false
 | .tup ds=>ndL ds
 | .lst ds=>ndL ds
 | _=>true
def ndL:List D->Bool
 | []=>true
 | d::ds=>ndD d&&ndL ds
end
mutual
def depD:D->Nat
 | .tup ds=>depL ds+1
 | .lst ds=>depL ds+1
 | _=>0
def depL:List D->Nat
 | []=>0
 | d::ds=>max (depD d) (depL ds)
end
mutual
def eqOk:D->D->Bool
 | .non,.non=>true
 | .non,.int _=>true
 | .non,.str _=>true
 | .int _,.non=>true
 | .str _,.non=>true
 | .int _,.int _=>true
 | .str _,.str _=>true
 | .int _,.str _=>true
 | .str _,.int _=>true
 | .bl _,.bl _=>true
 | .tup xs,.tup ys=>zft xs ys
 | .lst xs,.lst ys=>zft xs ys
 | .non,.tup _=>true
 | .tup _,.non=>true
 | .non,.lst _=>true
 | .lst _,.non=>true
 | _,_=>false
def zft:List D->List D->Bool
 | x::xs,y::ys=>eqOk x y&&zft xs ys
 | _,_=>true
end
section
variable {X:Cx}{pins:List (Addr×Obj)}{σ:L2.St}{H:Hp}{J:Addr->Prop}{s:Shared}
mutual
theorem Rp.rh (I:Inv X pins σ H s){v:V}{d:D}:Rp X.K H J v d->ndD d=true->∀{u:Value},RelV v u->Rh s.heap u d
 | .non,_,_,q=>by cases q;exact .non
 | .bl b,_,_,q=>by cases q;exact .bl b
 | .int i,_,_,q=>by obtain⟨t,rfl⟩:=q;exact .int i t
 | .str x,_,_,q=>by obtain⟨t,rfl⟩:=q;exact .str x t
 | .tup h r,n,_,q=>by
   cases q;obtain⟨its,rv,pt,_⟩:=I.tuple h;exact .tup pt (RpL.rh I r n rv)
 | .lst h j r,n,_,q=>by
   cases q;obtain⟨its,rv,pt,_⟩:=I.list (SqL.of h);exact .lst pt.isList (RpL.rh I r n rv)
 | .dct h j ek ev r,n,_,q=>by cases n
 | .scr p,n,_,q=>by cases n
theorem RpL.rh (I:Inv X pins σ H s){vs:List V}{ds:List D}:RpL X.K H J vs ds->ndL ds=true->∀{us:List Value},Vals vs us->RhL s.heap us ds
 | .nil,_,us,q=>by cases q;exact .nil
 | .cons h t,n,us,q=>by
   have n:(ndD _&&ndL _)=true:=n
   rw[Bool.and_eq_true] at n;cases q with
   | cons q1 q2=>exact .cons (Rp.rh I h n.1 q1) (RpL.rh I t n.2 q2)
end
theorem RpW.rh (I:Inv X pins σ H s){v:V}{d:D}(r:RpW X.K H J v d)(n:ndD d=true){u:Value}(q:RelV v u):Rh s.heap u d:=by
 rcases r with r | ⟨A,r⟩
 ·exact r.rh I n q
 ·have w:RpW X.K H J v d:=.inr ⟨A,r⟩
  cases r with
  | lst h r=>
    obtain⟨p,vs,e,hp,rl⟩:=w.lst;cases e;cases q;obtain⟨its,rv,pt,_⟩:=I.list (SqL.of hp);exact .lst pt.isList (RpL.rh I rl n rv)
  | dct h ek ev r=>cases n
end
section
variable {h:Heap}
theorem RhL.length:∀{us:List Value}{ds:List D},RhL h us ds->us.length=ds.length
 | _,_,.nil=>rfl
 | _,_,.cons _ t=>by simp[RhL.length t]
theorem RhL.get:∀{us:List Value}{ds:List D},RhL h us ds->∀(i:Nat) (hi:i<us.length) (hj:i<ds.length),Rh h us[i] ds[i]
 | _,_,.cons a _,0,_,_=>a
 | _,_,.cons _ t,i+1,hi,hj=>RhL.get t i (by simpa using hi) (by simpa using hj)
theorem zeq {l:Addr}{us ws:List Value}(p:h.IsTuple l us.toArray)(q:h.IsTuple l ws.toArray):us=ws:=by
 obtain⟨o,e,_,_,d⟩:=p;obtain⟨o',e',_,_,d'⟩:=q;rw[e] at e';cases e';rw[d] at d';injection d' with d1 _
 simpa using congrArg Array.toList d1
theorem ze2 {l:Addr}{us ws:List Value}(p:h.IsList l us.toArray)(q:h.IsList l ws.toArray):us=ws:=by
 obtain⟨o,e,_,_,d⟩:=p;obtain⟨o',e',_,_,d'⟩:=q;rw[e] at e';cases e';rw[d] at d';injection d' with d1 _
 simpa using congrArg Array.toList d1
theorem zcN {l:Addr}{us ws:Array Value}(p:h.IsTuple l us)(q:h.IsList l ws):False:=by
 obtain⟨o,e,c,_⟩:=p;obtain⟨o',e',c',_⟩:=q;rw[e] at e';cases e';rw[c] at c';simp at c'
mutual
theorem Rh.inj:∀{d e:D}{u:Value},Rh h u d->Rh h u e->d=e
 | _,_,_,.non,q=>by cases q;rfl
 | _,_,_,.bl b,q=>by cases q;rfl
 | _,_,_,.int i t,q=>by cases q;rfl
 | _,_,_,.str x t,q=>by cases q;rfl
 | _,_,_,.tup p r,q=>by
   cases q with
   | tup p' r'=>cases zeq p p';rw[RhL.inj r r']
   | lst p' r'=>exact(zcN p p').elim
 | _,_,_,.lst p r,q=>by
   cases q with
   | lst p' r'=>cases ze2 p p';rw[RhL.inj r r']
   | tup p' r'=>exact(zcN p' p).elim
theorem RhL.inj:∀{ds es:List D}{us:List Value},RhL h us ds->RhL h us es->ds=es
 | _,_,_,.nil,q=>by cases q;rfl
 | _,_,_,.cons a t,q=>by
   cases q with
   | cons a' t'=>rw[Rh.inj a a',RhL.inj t t']
end
end
theorem zer:∀{xs ys:List D},zft xs ys=true->∀(i:Nat) (hi:i<xs.length) (hj:i<ys.length),eqOk xs[i] ys[i]=true
 | x::xs,y::ys,h,i,hi,hj=>by
   have h:(eqOk x y&&zft xs ys)=true:=h
   rw[Bool.and_eq_true] at h;cases i with
   | zero=>exact h.1
   | succ i=>exact zer h.2 i (by simpa using hi) (by simpa using hj)
theorem zd2:∀{xs:List D}(i:Nat) (hi:i<xs.length),depD xs[i]<=depL xs
 | x::xs,i,hi=>by
   cases i with
   | zero=>exact Nat.le_max_left _ _
   | succ i=>exact Nat.le_trans (zd2 i (by simpa using hi)) (Nat.le_max_right _ _)
theorem zbR (xs ys:List D):((List.range (min xs.length ys.length)).all (fun j=>decide (xs[j]?=ys[j]?))&&xs.length == ys.length)=decide (xs=ys):=by
 rw[Bool.eq_iff_iff];simp only[Bool.and_eq_true,List.all_eq_true,List.mem_range,decide_eq_true_eq,beq_iff_eq];constructor
 ·rintro⟨a,b⟩;refine List.ext_getElem? fun j=>?_
  by_cases hj:j<min xs.length ys.length
  ·exact a j hj
  ·rw[List.getElem?_eq_none (by omega),List.getElem?_eq_none (by omega)]
 ·rintro rfl;exact⟨fun _ _=>rfl,rfl⟩
theorem zb1 {p:Prop}[Decidable p](h:¬p):false=decide p:=(decide_eq_false h).symm
theorem zja {xs ys:List D}(j:Nat)(h1:j<xs.length)(h2:j<ys.length):decide (xs[j]=ys[j])=decide (xs[j]?=ys[j]?):=by
 rw[List.getElem?_eq_getElem h1,List.getElem?_eq_getElem h2];exact zaA ⟨fun z=>by rw[z],fun z=>Option.some.inj z⟩
theorem zff (i j:Int):decide (D.int i=D.int j)=(i == j):=by rw[Bool.beq_eq_decide_eq];exact zaA ⟨fun z=>by cases z;rfl,fun z=>by rw[z]⟩
theorem zfg (i j:Str):decide (D.str i=D.str j)=(i == j):=by rw[Bool.beq_eq_decide_eq];exact zaA ⟨fun z=>by cases z;rfl,fun z=>by rw[z]⟩
theorem zgZ (i j:Bool):decide (D.bl i=D.bl j)=(i == j):=by rw[Bool.beq_eq_decide_eq];exact zaA ⟨fun z=>by cases z;rfl,fun z=>by rw[z]⟩
section
variable {A:Around}{s:Shared}
theorem zhg {v:Value}{e:D}(hu:A.units<cLine)(rv:Rh s.heap v e)(ho:eqOk .non e=true):SeqAt.EqAt A s .none v (decide (D.non=e)):=by
 cases rv with
 | non=>exact SeqAt.EqAt.same _
 | bl b=>cases ho
 | int i t=>rw[<-zb1 (fun z=>by cases z)];exact SeqAt.EqAt.none_int _ _
 | str x t=>rw[<-zb1 (fun z=>by cases z)];exact SeqAt.EqAt.none_str _ _
 | tup p r=>rw[<-zb1 (fun z=>by cases z)];exact SeqAt.EqAt.none_tuple p hu
 | lst p r=>rw[<-zb1 (fun z=>by cases z)];exact SeqAt.EqAt.none_list p hu
theorem zjb {v:Value}{e:D}{b:Bool}(rv:Rh s.heap v e)(ho:eqOk (.bl b) e=true):SeqAt.EqAt A s (.bool b) v (decide (D.bl b=e)):=by
 cases rv with
 | bl c=>rw[zgZ];exact SeqAt.EqAt.bool_bool _ _
 | non=>cases ho
 | int i t=>cases ho
 | str x t=>cases ho
 | tup p r=>cases ho
 | lst p r=>cases ho
theorem zfh {v:Value}{e:D}{b:Int}{u:Tok}(rv:Rh s.heap v e)(ho:eqOk (.int b) e=true):SeqAt.EqAt A s (.int b u) v (decide (D.int b=e)):=by
 cases rv with
 | int i t=>rw[zff];exact SeqAt.EqAt.int_int _ _ _ _
 | non=>rw[<-zb1 (fun z=>by cases z)];exact SeqAt.EqAt.int_none _ _
 | bl c=>cases ho
 | str x t=>rw[<-zb1 (fun z=>by cases z)];exact SeqAt.EqAt.int_str _ _ _ _
 | tup p r=>cases ho
 | lst p r=>cases ho
theorem zhh {v:Value}{e:D}{b:Str}{u:Tok}(rv:Rh s.heap v e)(ho:eqOk (.str b) e=true):SeqAt.EqAt A s (.str b u) v (decide (D.str b=e)):=by
 cases rv with
 | str i t=>rw[zfg];exact SeqAt.EqAt.str_str _ _ _ _
 | non=>rw[<-zb1 (fun z=>by cases z)];exact SeqAt.EqAt.str_none _ _
 | bl c=>cases ho
 | int x t=>rw[<-zb1 (fun z=>by cases z)];exact SeqAt.EqAt.str_int _ _ _ _
 | tup p r=>cases ho
 | lst p r=>cases ho
theorem zos {l l':Addr}{us us':List Value}{ds ds':List D}(hu:A.units<cLine)(p:s.heap.IsTuple l us.toArray)(p':s.heap.IsTuple l' us'.toArray)(r:RhL s.heap us ds)(r':RhL s.heap us' ds')
 (he:∀j (h1:j<us.toArray.size) (h2:j<us'.toArray.size),SeqAt.EqAt A.in1 s us.toArray[j] us'.toArray[j] (decide (ds[j]?=ds'[j]?))):SeqAt.RcAt A s (.ref l) (.ref l') (decide (D.tup ds=D.tup ds')):=by
 have q:=SeqAt.RcAt.tuples p p' hu he
 rw[List.size_toArray,List.size_toArray,r.length,r'.length,zbR] at q;rw[zaA (show D.tup ds=D.tup ds'↔ds=ds' from⟨fun z=>by cases z;rfl,fun z=>by rw[z]⟩)];exact q
theorem zot {l l':Addr}{us us':List Value}{ds ds':List D}(hu:A.units<cLine)(p:s.heap.IsList l us.toArray)(p':s.heap.IsList l' us'.toArray)(r:RhL s.heap us ds)(r':RhL s.heap us' ds')
 (he:∀j (h1:j<us.toArray.size) (h2:j<us'.toArray.size),SeqAt.EqAt A.in1 s us.toArray[j] us'.toArray[j] (decide (ds[j]?=ds'[j]?))):SeqAt.RcAt A s (.ref l) (.ref l') (decide (D.lst ds=D.lst ds')):=by
 rw[zaA (show D.lst ds=D.lst ds'↔ds=ds' from⟨fun z=>by cases z;rfl,fun z=>by rw[z]⟩)];by_cases hz:ds.length=ds'.length
 ·have hsz:us.toArray.size=us'.toArray.size:=by simp only[List.size_toArray];rw[r.length,r'.length,hz]
  have q:=SeqAt.RcAt.lists p p' hsz hu he
  have e1:=zbR ds ds'
  rw[hz,Nat.min_self,beq_self_eq_true,Bool.and_true,<-hz] at e1;rw[List.size_toArray,r.length,e1] at q;exact q
 ·have q:=SeqAt.RcAt.lists_lengths p p' (by simp only[List.size_toArray,r.length,r'.length];simpa using hz) hu
  rw[decide_eq_false (fun z=>hz (by rw[z]))];exact q
end
theorem zjc:∀(n:Nat) {A:Around}{s:Shared}{u v:Value}{d e:D},depD d<=n->A.units+n<cLine->Rh s.heap u d->Rh s.heap v e->eqOk d e=true->SeqAt.EqAt A s u v (decide (d=e)):=by
 intro n;induction n with
 | zero=>
   intro A s u v d e hn hu ru rv ho;cases ru with
   | non=>exact zhg (by omega) rv ho
   | bl b=>exact zjb rv ho
   | int i t=>exact zfh rv ho
   | str x t=>exact zhh rv ho
   | tup p r=>exact absurd hn (Nat.not_succ_le_zero _)
   | lst p r=>exact absurd hn (Nat.not_succ_le_zero _)
 | succ n ih=>
   intro A s u v d e hn hu ru rv ho;have hu0:A.units<cLine:=by omega
   have he:∀{us us':List Value}{ds ds':List D}(r:RhL s.heap us ds) (r':RhL s.heap us' ds') (hd:depL ds<=n) (ho:zft ds ds'=true),∀j (h1:j<us.toArray.size) (h2:j<us'.toArray.size),SeqAt.EqAt A.in1 s us.toArray[j] us'.toArray[j] (decide (ds[j]?=ds'[j]?)):=fun {us us' ds ds'} r r' hd ho j h1 h2=>by
    simp only[List.size_toArray] at h1 h2;have g1:j<ds.length:=by rw[<-r.length];exact h1
    have g2:j<ds'.length:=by rw[<-r'.length];exact h2
    have q:=ih (A:=A.in1) (Nat.le_trans (zd2 j g1) hd) (show A.units+1+n<cLine by omega) (r.get j h1 g1) (r'.get j h2 g2) (zer ho j g1 g2)
    rw[zja j g1 g2] at q;exact q
   cases ru with
   | non=>exact zhg hu0 rv ho
   | bl b=>exact zjb rv ho
   | int i t=>exact zfh rv ho
   | str x t=>exact zhh rv ho
   | tup p r=>
     rename_i l us ds
     have hd:depL ds<=n:=Nat.le_of_succ_le_succ hn
     cases rv with
     | tup p' r'=>
       rename_i l' us' ds'
       by_cases hl:l=l'
       ·subst hl;cases zeq p p';rw[r.inj r',decide_eq_true rfl];exact SeqAt.EqAt.same _
       ·exact SeqAt.EqAt.of_refs hl (zos hu0 p p' r r' (he r r' hd ho))
     | non=>rw[<-zb1 (fun z=>by cases z)];exact SeqAt.EqAt.tuple_none p hu0
     | bl c=>cases ho
     | int i t=>cases ho
     | str x t=>cases ho
     | lst p' r'=>cases ho
   | lst p r=>
     rename_i l us ds
     have hd:depL ds<=n:=Nat.le_of_succ_le_succ hn
     cases rv with
     | lst p' r'=>
       rename_i l' us' ds'
       by_cases hl:l=l'
       ·subst hl;cases ze2 p p';rw[r.inj r',decide_eq_true rfl];exact SeqAt.EqAt.same _
       ·exact SeqAt.EqAt.of_refs hl (zot hu0 p p' r r' (he r r' hd ho))
     | non=>rw[<-zb1 (fun z=>by cases z)];exact SeqAt.EqAt.list_none p hu0
     | bl c=>cases ho
     | int i t=>cases ho
     | str x t=>cases ho
     | tup p' r'=>cases ho
end VD
namespace VD
open PySem PySem.Spec PyProof PyProof.Rows L2
section
variable {A:Around}{s:Shared}{u v:Value}{d e:D}
theorem zkt {n:Nat}(hu:A.units+1+n<cLine){us us':List Value}{ds ds':List D}(r:RhL s.heap us ds)(r':RhL s.heap us' ds')(hd:depL ds<=n)(ho:zft ds ds'=true):∀j (h1:j<us.toArray.size) (h2:j<us'.toArray.size),SeqAt.EqAt A.in1 s us.toArray[j] us'.toArray[j] (decide (ds[j]?=ds'[j]?)):=fun j h1 h2=>by
 simp only[List.size_toArray] at h1 h2;have g1:j<ds.length:=by rw[<-r.length];exact h1
 have g2:j<ds'.length:=by rw[<-r'.length];exact h2
 have q:=zjc n (A:=A.in1) (Nat.le_trans (zd2 j g1) hd) hu (r.get j h1 g1) (r'.get j h2 g2) (zer ho j g1 g2)
 rw[zja j g1 g2] at q;exact q
theorem zou {n:Nat}(hu:A.units+1+n<cLine)(hn:depD d<=n+1)(ru:Rh s.heap u d)(rv:Rh s.heap v e)(ho:eqOk d e=true):SeqAt.RcAt A s u v (decide (d=e)):=by
 have hu0:A.units<cLine:=by omega
 cases ru with
 | non=>
   cases rv with
   | non=>exact SeqAt.RcAt.none_none
   | bl b=>cases ho
   | int i t=>rw[<-zb1 (fun z=>by cases z)];exact SeqAt.RcAt.none_int _ _
   | str x t=>rw[<-zb1 (fun z=>by cases z)];exact SeqAt.RcAt.none_str _ _
   | tup p r=>rw[<-zb1 (fun z=>by cases z)];exact SeqAt.RcAt.none_tuple p hu0
   | lst p r=>rw[<-zb1 (fun z=>by cases z)];exact SeqAt.RcAt.none_list p hu0
 | bl b=>
   cases rv with
   | bl c=>rw[zgZ];exact SeqAt.RcAt.bool_bool _ _
   | non=>cases ho
   | int i t=>cases ho
   | str x t=>cases ho
   | tup p r=>cases ho
   | lst p r=>cases ho
 | int i t=>
   cases rv with
   | int i t=>rw[zff];exact SeqAt.RcAt.int_int _ _ _ _
   | non=>rw[<-zb1 (fun z=>by cases z)];exact SeqAt.RcAt.int_none _ _
   | str x t=>rw[<-zb1 (fun z=>by cases z)];exact SeqAt.RcAt.int_str _ _ _ _
   | bl b=>cases ho
   | tup p r=>cases ho
   | lst p r=>cases ho
 | str x t=>
   cases rv with
   | str i t=>rw[zfg];exact SeqAt.RcAt.str_str _ _ _ _
   | non=>rw[<-zb1 (fun z=>by cases z)];exact SeqAt.RcAt.str_none _ _
   | int x t=>rw[<-zb1 (fun z=>by cases z)];exact SeqAt.RcAt.str_int _ _ _ _
   | bl b=>cases ho
   | tup p r=>cases ho
   | lst p r=>cases ho
 | tup p r=>
   cases rv with
   | tup p' r'=>exact zos hu0 p p' r r' (zkt hu r r' (Nat.le_of_succ_le_succ hn) ho)
   | non=>rw[<-zb1 (fun z=>by cases z)];exact SeqAt.RcAt.tuple_none p hu0
   | int i t=>cases ho
   | bl b=>cases ho
   | str x t=>cases ho
   | lst p r=>cases ho
 | lst p r=>
   cases rv with
   | lst p' r'=>exact zot hu0 p p' r r' (zkt hu r r' (Nat.le_of_succ_le_succ hn) ho)
   | non=>rw[<-zb1 (fun z=>by cases z)];exact SeqAt.RcAt.list_none p hu0
   | int i t=>cases ho
   | bl b=>cases ho
   | str x t=>cases ho
   | tup p r=>cases ho
theorem zeN {p:Prop}[Decidable p](h:¬p):true = !decide p:=by rw[decide_eq_false h];rfl
theorem zku {n:Nat}(hu:A.units+1+n<cLine)(hn:depD d<=n+1)(ru:Rh s.heap u d)(rv:Rh s.heap v e)(ho:eqOk d e=true):SeqAt.RcNeAt A s u v (!decide (d=e)):=by
 have hu0:A.units<cLine:=by omega
 cases ru with
 | non=>
   cases rv with
   | non=>rw[decide_eq_true rfl];exact SeqAt.RcNeAt.none_none
   | bl b=>cases ho
   | int i t=>rw[<-zeN (fun z=>by cases z)];exact SeqAt.RcNeAt.none_int _ _
   | str x t=>rw[<-zeN (fun z=>by cases z)];exact SeqAt.RcNeAt.none_str _ _
   | tup p r=>rw[<-zeN (fun z=>by cases z)];exact SeqAt.RcNeAt.none_tuple p hu0
   | lst p r=>rw[<-zeN (fun z=>by cases z)];exact SeqAt.RcNeAt.none_list p hu0
 | bl b=>
   cases rv with
   | bl c=>rw[zgZ];exact SeqAt.RcNeAt.bool_bool _ _
   | non=>cases ho
   | int i t=>cases ho
   | str x t=>cases ho
   | tup p r=>cases ho
   | lst p r=>cases ho
 | int i t=>
   cases rv with
   | int i t=>rw[zff];exact SeqAt.RcNeAt.int_int _ _ _ _
   | non=>rw[<-zeN (fun z=>by cases z)];exact SeqAt.RcNeAt.int_none _ _
   | str x t=>rw[<-zeN (fun z=>by cases z)];exact SeqAt.RcNeAt.int_str _ _ _ _
   | bl b=>cases ho
   | tup p r=>cases ho
   | lst p r=>cases ho
 | str x t=>
   cases rv with
   | str i t=>rw[zfg];exact SeqAt.RcNeAt.str_str _ _ _ _
   | non=>rw[<-zeN (fun z=>by cases z)];exact SeqAt.RcNeAt.str_none _ _
   | int x t=>rw[<-zeN (fun z=>by cases z)];exact SeqAt.RcNeAt.str_int _ _ _ _
   | bl b=>cases ho
   | tup p r=>cases ho
   | lst p r=>cases ho
 | tup p r=>
   cases rv with
   | tup p' r'=>
     rename_i us ds l' us' ds'
     have q:=SeqAt.RcNeAt.tuples p p' hu0 (zkt hu r r' (Nat.le_of_succ_le_succ hn) ho)
     rw[List.size_toArray,List.size_toArray,r.length,r'.length,zbR] at q;rw[zaA (show D.tup ds=D.tup ds'↔ds=ds' from⟨fun z=>by cases z;rfl,fun z=>by rw[z]⟩)];exact q
   | non=>rw[<-zeN (fun z=>by cases z)];exact SeqAt.RcNeAt.tuple_none p hu0
   | int i t=>cases ho
   | bl b=>cases ho
   | str x t=>cases ho
   | lst p r=>cases ho
 | lst p r=>
   cases rv with
   | lst p' r'=>
     rename_i us ds l' us' ds'
     rw[zaA (show D.lst ds=D.lst ds'↔ds=ds' from⟨fun z=>by cases z;rfl,fun z=>by rw[z]⟩)];by_cases hz:ds.length=ds'.length
     ·have hsz:us.toArray.size=us'.toArray.size:=by simp only[List.size_toArray];rw[r.length,r'.length,hz]
      have q:=SeqAt.RcNeAt.lists p p' hsz hu0 (zkt hu r r' (Nat.le_of_succ_le_succ hn) ho)
      have e1:=zbR ds ds'
      rw[hz,Nat.min_self,beq_self_eq_true,Bool.and_true,<-hz] at e1;rw[List.size_toArray,r.length,e1] at q;exact q
     ·have q:=SeqAt.RcNeAt.lists_lengths p p' (by simp only[List.size_toArray,r.length,r'.length];simpa using hz) hu0
      rw[decide_eq_false (fun z=>hz (by rw[z]))];exact q
   | non=>rw[<-zeN (fun z=>by cases z)];exact SeqAt.RcNeAt.list_none p hu0
   | int i t=>cases ho
   | bl b=>cases ho
   | str x t=>cases ho
   | tup p r=>cases ho
end
def eqC (d e:D):Bool:=eqOk d e&&ndD d&&ndD e&&decide (depD d<=40)
def dEqG (neg:Bool)(d e:D):Option D:=if eqC d e=true then some (.bl (if neg then !decide (d=e) else decide (d=e))) else none
def rEqG (K:W.Frag)(neg:Bool):R2:=fun x y H Q=>∃J d e,RpW K H J x d/\RpW K H J y e/\eqC d e=true/\Q (.bl (if neg then !decide (d=e) else decide (d=e))) H
theorem zhi {d e:D}(h:eqC d e=true):eqOk d e=true/\ndD d=true/\ndD e=true/\depD d<=40:=by
 unfold eqC at h;simp only[Bool.and_eq_true,decide_eq_true_eq] at h;exact⟨h.1.1.1,h.1.1.2,h.1.2,h.2⟩
section
variable {X:Cx}{K:W.Frag}{k:Nat}
theorem zcW (hr:Room k X.A):OpR X (compareOp .Eq) (rEqG X.K false):=by
 intro pins s σ H x y v u Q I rx ry ⟨J,d,e,r1,r2,hc,q⟩;obtain⟨ho,n1,n2,hd⟩:=zhi hc;have:=hr.units
 exact zou (n:=40) (by omega) (by omega) (r1.rh I n1 rx) (r2.rh I n2 ry) ho _ _ _ _ ⟨.bl _,H,I,rfl,q⟩
theorem zmz (hr:Room k X.A):OpR X (compareOp .NotEq) (rEqG X.K true):=by
 intro pins s σ H x y v u Q I rx ry ⟨J,d,e,r1,r2,hc,q⟩;obtain⟨ho,n1,n2,hd⟩:=zhi hc;have:=hr.units
 exact zku (n:=40) (by omega) (by omega) (r1.rh I n1 rx) (r2.rh I n2 ry) ho _ _ _ _ ⟨.bl _,H,I,rfl,q⟩
theorem zbm (neg:Bool):Im2 K (rEqG K neg) (dEqG neg):=by
 intro H J x y d e d' Q ja hx hy hF w;unfold dEqG at hF;by_cases hc:eqC d e=true
 ·rw[if_pos hc] at hF;cases hF;exact⟨J,d,e,hx,hy,hc,w _ H J (Up.refl ja) (.bl _)⟩
 ·rw[if_neg hc] at hF;cases hF
end
def inC (x:D)(ds:List D):Bool:=ndD x&&ds.all fun y=>eqC y x
def hasK (ks:List Key)(j:Key):Bool:=ks.any fun k=>decide (k=j)
def dInG (neg:Bool):D->D->Option D
 | x,.lst ds=>if inC x ds=true then some (.bl (if neg then !decide (x∈ds) else decide (x∈ds))) else none
 | x,.tup ds=>if inC x ds=true then some (.bl (if neg then !decide (x∈ds) else decide (x∈ds))) else none
 | x,.dct ks _=>(keyD x).bind fun j=>some (.bl (if neg then !hasK ks j else hasK ks j))
 | _,_=>none
def zmA (K:W.Frag)(neg:Bool):R2:=fun x y H Q=>∃J d ds p vs,RpW K H J x d/\y=.ref p/\(SqL K H p vs\/SqT K H p vs)/\RpL K H J vs ds/\inC d ds=true/\Q (.bl (if neg then !decide (d∈ds) else decide (d∈ds))) H
open Classical in
noncomputable def zf4 (h:Heap)(u:Value):D:=if q:∃d,Rh h u d then q.choose else .non
theorem zf5 {h:Heap}{u:Value}{d:D}(r:Rh h u d):zf4 h u=d:=by
 unfold zf4;have q:∃d,Rh h u d:=⟨d,r⟩
 rw[dif_pos q];exact q.choose_spec.inj r
theorem RhL.mem {h:Heap}:∀{us:List Value}{ds:List D},RhL h us ds->∀u∈us,∃d∈ds,Rh h u d
 | _,_,.cons a t,u,hu=>by
   rcases List.mem_cons.mp hu with rfl | hu
   ·exact⟨_,List.mem_cons_self,a⟩
   ·obtain⟨d,hd,r⟩:=RhL.mem t u hu;exact⟨d,List.mem_cons_of_mem _ hd,r⟩
theorem RhL.map {h:Heap}:∀{us:List Value}{ds:List D},RhL h us ds->us.map (zf4 h)=ds
 | _,_,.nil=>rfl
 | _,_,.cons a t=>by rw[List.map_cons,zf5 a,RhL.map t]
theorem zgH:∀{ds:List D},(∀d∈ds,ndD d=true)->ndL ds=true
 | [],_=>rfl
 | d::ds,h=>by
   show(ndD d&&ndL ds)=true
   rw[h d List.mem_cons_self,zgH fun e he=>h e (List.mem_cons_of_mem _ he)];rfl
theorem zd3 {h:Heap}{us:List Value}{ds:List D}(r:RhL h us ds)(x:D):us.toArray.any (fun y=>decide (zf4 h y=x))=decide (x∈ds):=by
 rw[List.any_toArray,<-r.map,Bool.eq_iff_iff];simp only[List.any_eq_true,decide_eq_true_eq,List.mem_map]
section
variable {X:Cx}{K:W.Frag}{k:Nat}
theorem zd4 {A:Around}{s:Shared}{us:List Value}{ds:List D}{x:Value}{d:D}(hu:A.units+1+40<cLine)(r:RhL s.heap us ds)(rx:Rh s.heap x d)(hc:∀y∈ds,eqC y d=true):∀y,y∈us.toArray->SeqAt.EqAt A.in1 s y x (decide (zf4 s.heap y=d)):=fun y hy=>by
 obtain⟨e,he,re⟩:=r.mem y (by simpa using hy);obtain⟨ho,_,_,hd⟩:=zhi (hc e he);rw[zf5 re];exact zjc 40 (A:=A.in1) hd hu re rx ho
theorem zlr {x:D}{ds:List D}(h:inC x ds=true):ndD x=true/\(∀y∈ds,eqC y x=true)/\ndL ds=true:=by
 unfold inC at h;rw[Bool.and_eq_true,List.all_eq_true] at h;exact⟨h.1,h.2,zgH fun y hy=>(zhi (h.2 y hy)).2.1⟩
theorem zov (hr:Room k X.A):OpR X (compareOp .In) (zmA X.K false):=by
 intro pins s σ H x y v u Q I rx ry ⟨J,d,ds,p,vs,r1,e,hq,rl,hc,q⟩;subst e;cases ry;have hu:=hr.units
 obtain⟨n1,hc,n2⟩:=zlr hc;rcases hq with hq | hq
 ·obtain⟨its,rv,pl,hz⟩:=I.list hq;refine SeqAt.in_listAt _ pl.isList (zd4 (by omega) (rl.rh I n2 rv) (r1.rh I n1 rx) hc) ⟨.bl _,H,I,rfl,?_⟩;rw[zd3 (rl.rh I n2 rv)];exact q
 ·obtain⟨its,rv,pl,hz⟩:=I.tuple hq;refine SeqAt.in_tupleAt _ pl (zd4 (by omega) (rl.rh I n2 rv) (r1.rh I n1 rx) hc) ⟨.bl _,H,I,rfl,?_⟩;rw[zd3 (rl.rh I n2 rv)];exact q
theorem zjd (hr:Room k X.A):OpR X (compareOp .NotIn) (zmA X.K true):=by
 intro pins s σ H x y v u Q I rx ry ⟨J,d,ds,p,vs,r1,e,hq,rl,hc,q⟩;subst e;cases ry;have hu:=hr.units
 obtain⟨n1,hc,n2⟩:=zlr hc;rcases hq with hq | hq
 ·obtain⟨its,rv,pl,hz⟩:=I.list hq;refine SeqAt.notIn_listAt _ pl.isList (zd4 (by omega) (rl.rh I n2 rv) (r1.rh I n1 rx) hc) ⟨.bl _,H,I,rfl,?_⟩;rw[zd3 (rl.rh I n2 rv)];exact q
 ·obtain⟨its,rv,pl,hz⟩:=I.tuple hq;refine SeqAt.notIn_tupleAt _ pl (zd4 (by omega) (rl.rh I n2 rv) (r1.rh I n1 rx) hc) ⟨.bl _,H,I,rfl,?_⟩;rw[zd3 (rl.rh I n2 rv)];exact q
def rInD (neg:Bool):R2:=fun x y H Q=>∃a ov,y=.ref a/\DGet H a x ov/\Q (.bl (if neg then !ov.isSome else ov.isSome)) H
def rInG (K:W.Frag)(neg:Bool):R2:=fun x y H Q=>zmA K neg x y H Q\/rInD neg x y H Q
theorem zpA (hr:Room k X.A):OpR X (compareOp .In) (rInD false):=by
 intro pins s σ H x y v u Q I rx ry ⟨a,ov,e,g,q⟩;subst e;obtain rfl:u=Value.ref a:=ry;exact d_in (zao hr) I g rx fun s3 I3=>⟨.bl ov.isSome,H,I3,rfl,q⟩
theorem zkv (hr:Room k X.A):OpR X (compareOp .NotIn) (rInD true):=by
 intro pins s σ H x y v u Q I rx ry ⟨a,ov,e,g,q⟩;subst e;obtain rfl:u=Value.ref a:=ry;exact zl5 (zao hr) I g rx fun s3 I3=>⟨.bl (!ov.isSome),H,I3,rfl,q⟩
theorem zkw (hr:Room k X.A):OpR X (compareOp .In) (rInG X.K false):=(zov hr).or (zpA hr)
theorem zhj (hr:Room k X.A):OpR X (compareOp .NotIn) (rInG X.K true):=(zjd hr).or (zkv hr)
theorem zje {kvs:List (Key×V)}{j:Key}:(valV kvs j).isSome=hasK (kvs.map (·.1)) j:=by
 unfold valV hasK;rw[Option.isSome_map,List.any_map,Bool.eq_iff_iff,List.find?_isSome,List.any_eq_true];rfl
theorem ze3 (neg:Bool):Im2 K (rInG K neg) (dInG neg):=by
 intro H J x y d e d' Q ja hx hy hF w;cases e with
 | lst ds=>
   have hF:(if inC d ds=true then some (D.bl (if neg then !decide (d∈ds) else decide (d∈ds))) else none)=some d':=hF
   by_cases hc:inC d ds=true
   ·rw[if_pos hc] at hF;cases hF;obtain⟨p,vs,rfl,h1,r1⟩:=hy.lst;exact .inl ⟨J,d,ds,p,vs,hx,rfl,.inl (SqL.of h1),r1,hc,w _ H J (Up.refl ja) (.bl _)⟩
   ·rw[if_neg hc] at hF;cases hF
 | tup ds=>
   have hF:(if inC d ds=true then some (D.bl (if neg then !decide (d∈ds) else decide (d∈ds))) else none)=some d':=hF
   by_cases hc:inC d ds=true
   ·rw[if_pos hc] at hF;cases hF;obtain⟨p,vs,rfl,h1,r1⟩:=hy.tup;exact .inl ⟨J,d,ds,p,vs,hx,rfl,.inr h1,r1,hc,w _ H J (Up.refl ja) (.bl _)⟩
   ·rw[if_neg hc] at hF;cases hF
 | dct ks ds=>
   obtain⟨j,ej,hF⟩:=zac (show((keyD d).bind fun j=>some (D.bl (if neg then !hasK ks j else hasK ks j)))=some d' from hF);cases hF;obtain⟨p,kvs,vs,rfl,h1,h2,h3,rl⟩:=hy.dct;refine .inr ⟨p,valV kvs j,rfl,?_,?_⟩
   ·rw[zom hx ej];exact DGet.k h1
   ·rw[zje,h2];exact w _ H J (Up.refl ja) (.bl _)
 | _=>cases hF
end
end VD
namespace Mn
open PySem PySem.Spec PyProof PyProof.Rows
open Sem (wp)
def CmpUp (prog:Program)(w:World)(A:Around)(P:Nat->Value->Prop)(bt:Nat->Nat->Bool)(Kp:Heap->Prop)(n:Nat):Prop:=
 ∀j vi vj (s:Shared) (Q:Value->Shared->Prop) (E:Value->Shared->Prop),j+1<n->Kp s.heap->P (j+1) vi->P (argBest bt j) vj->Q (.bool (bt (j+1) (argBest bt j))) s->wpAny (model prog w) A (richCompare .Lt vi vj) Q E s
section
variable {prog:Program}{w:World}{A:Around}{R:Result->Shared->Prop}{I:Addr}{fp wr:List Addr}{n:Nat}{P:Nat->Value->Prop}{St:Nat->Heap->Prop}
theorem zj7 (W:Walks prog w A.in1 I fp wr n P St)(bt:Nat->Nat->Bool){Kp:Heap->Prop}(hcmp:CmpUp prog w A.in1 P bt Kp n)(S:Addr)(hSf:S∉fp)(kw:List (Str×Value))
 (hkp:∀h h',(∀b o,b∉wr->b≠S->h.get? b=some o->h'.get? b=some o)->Kp h->Kp h') :
 ∀(k j:Nat) (s:Shared) (vb:Value) (c:Nat),n - (j+1)=k->j+1<=n->Kp s.heap->St (j+1) s.heap->P (argBest bt j) vb->
 s.heap.get? S=some {cls:=.type "list",dict:=none,data:=.seq #[vb,vb] c,slots:=#[]}->
 (∀v h' tk,P (argBest bt (n - 1)) v->(∀b o,b∉wr->b≠S->s.heap.get? b=some o->h'.get? b=some o)->R (.ok (.ret v)) {s with heap:=h',toks:=tk})->
 codeAny (model prog w) A (.builtin "min.loop" ⟨[.ref I,.none,.ref S],kw⟩) R s:=by
 have hSw:S∉wr:=fun h=>hSf (W.sub _ h)
 have hname:(toString "min"++toString ".loop" : String) = "min.loop":=by decide
 intro k;induction k with
 | zero=>
   intro j s vb c hk hj hK hst hPb hS hR;have hin:j+1=n:=by omega
   refine codeAny_builtin F.entry_min_loop ?_;rw[Around.under_plainId F.plain_min_loop _];show wpAny _ A.in1 (seqItems? (.ref S) >>= _) _ _ s
   refine wpAny_bind (wpAny_seqItems hS rfl ?_);show wpAny _ A.in1 (tryCatch (pyNext (.ref I)) _ >>= _) _ _ s
   refine wpAny_bind (wpAny_tryCatch (W.done s _ _ (hin▸hst) fun h' tk hk'=>?_));have hS':=hk' S _ hSw hS
   show wpAny _ A.in1 (updateSeq S (fun _=>#[]) >>= _) _ _ _
   refine wpAny_bind ?_;refine wpAny_updateSeq hS' rfl (wpAny_bind (wpAny_letGo (wpAny_pure ?_)));refine hR vb _ tk (by rw[<-hin];exact hPb) fun b o hbw hbS e=>(Heap.get?_update_other _ _ (Ne.symm hbS)).trans (hk' b o hbw e)
 | succ k ih=>
   intro j s vb c hk hj hK hst hPb hS hR;have hlt:j+1<n:=by omega
   refine codeAny_builtin F.entry_min_loop ?_;rw[Around.under_plainId F.plain_min_loop _];show wpAny _ A.in1 (seqItems? (.ref S) >>= _) _ _ s
   refine wpAny_bind (wpAny_seqItems hS rfl ?_);show wpAny _ A.in1 (tryCatch (pyNext (.ref I)) _ >>= _) _ _ s
   refine wpAny_bind (wpAny_tryCatch (W.item (j+1) s _ _ hlt hst fun v h' tk hP hst' hk'=>?_));have hS':=hk' S _ hSw hS
   have hK':Kp h':=hkp _ _ (fun b o h1 _ e=>hk' b o h1 e) hK
   show wpAny _ A.in1 (tryCatch (holding [v,v] (richCompare .Lt v vb >>= _)) _ >>= _) _ _ _
   refine wpAny_bind (wpAny_tryCatch (wpAny_holding (wpAny_bind (hcmp j v vb _ _ _ hlt hK' hP hPb ?_))));refine wpAny_bind (wpAny_holding (wpAny_truthy_bool ?_));refine wpAny_bind (wpAny_letGo (wpAny_pure ?_));cases hb:bt (j+1) (argBest bt j) with
   | true=>
     simp only[if_true];refine wpAny_bind ?_;refine wpAny_updateSeq hS' rfl (wpAny_bind (wpAny_letGo ?_));rw[hname];refine wpAny_pure ⟨plainId_quiet F.plain_min_loop _,ih (j+1) _ v _ (by omega) hlt (hkp _ _ (fun b o _ hbS e=>(Heap.get?_update_other _ _ (Ne.symm hbS)).trans e) hK') (W.frame _ _ _ hst' fun b hbf o e=>?_) (by simp only[argBest,hb,if_true];exact hP) (Heap.get?_update_self _ hS' rfl)
      fun v' h'' tk'' hP' hk''=>?_⟩
     ·exact(Heap.get?_update_other _ _ (fun h:S=b=>hSf (by rw[h];exact hbf))).trans e
     ·exact hR v' h'' tk'' hP' fun b o hbw hbS e=>hk'' b o hbw hbS ((Heap.get?_update_other _ _ (Ne.symm hbS)).trans (hk' b o hbw e))
   | false=>
     simp only[Bool.false_eq_true,if_false];refine wpAny_bind (wpAny_letGo ?_);rw[hname];refine wpAny_pure ⟨plainId_quiet F.plain_min_loop _,ih (j+1) _ vb c (by omega) hlt hK' hst' (by simp only[argBest,hb,Bool.false_eq_true,if_false];exact hPb) hS' fun v' h'' tk'' hP' hk''=>?_⟩;exact hR v' h'' tk'' hP' fun b o hbw hbS e=>hk'' b o hbw hbS (hk' b o hbw e)
theorem zls (W:Walks prog w A.in1 I fp wr n P St)(bt:Nat->Nat->Bool){Kp:Heap->Prop}(hcmp:CmpUp prog w A.in1 P bt Kp n)(S:Addr)(hSf:S∉fp)(kw:List (Str×Value))(hn:0<n)
 (hkp:∀h h',(∀b o,b∉wr->b≠S->h.get? b=some o->h'.get? b=some o)->Kp h->Kp h') {s:Shared}{c:Nat}(hK:Kp s.heap) (hst:St 0 s.heap)
 (hS:s.heap.get? S=some {cls:=.type "list",dict:=none,data:=.seq #[] c,slots:=#[]})
 (hR:∀v h' tk,P (argBest bt (n - 1)) v->(∀b o,b∉wr->b≠S->s.heap.get? b=some o->h'.get? b=some o)->R (.ok (.ret v)) {s with heap:=h',toks:=tk}) :
 codeAny (model prog w) A (.builtin "min.loop" ⟨[.ref I,.none,.ref S],kw⟩) R s:=by
 have hSw:S∉wr:=fun h=>hSf (W.sub _ h)
 have hname:(toString "min"++toString ".loop" : String) = "min.loop":=by decide
 refine codeAny_builtin F.entry_min_loop ?_;rw[Around.under_plainId F.plain_min_loop _];show wpAny _ A.in1 (seqItems? (.ref S) >>= _) _ _ s
 refine wpAny_bind (wpAny_seqItems hS rfl ?_);show wpAny _ A.in1 (tryCatch (pyNext (.ref I)) _ >>= _) _ _ s
 refine wpAny_bind (wpAny_tryCatch (W.item 0 s _ _ (by omega) hst fun v h' tk hP hst' hk'=>?_));have hS':=hk' S _ hSw hS
 have hK':Kp h':=hkp _ _ (fun b o h1 _ e=>hk' b o h1 e) hK
 show wpAny _ A.in1 (updateSeq S (fun _=>#[v,v]) >>= _) _ _ _
 refine wpAny_bind ?_;refine wpAny_updateSeq hS' rfl ?_;rw[hname];refine wpAny_pure ⟨plainId_quiet F.plain_min_loop _,zj7 W bt hcmp S hSf kw hkp _ 0 _ v _ rfl (by omega) (hkp _ _ (fun b o _ hbS e=>(Heap.get?_update_other _ _ (Ne.symm hbS)).trans e) hK') (W.frame _ _ _ hst' fun b hbf o e=>?_) hP (Heap.get?_update_self _ hS' rfl) fun v' h'' tk'' hP' hk''=>?_⟩
 ·exact(Heap.get?_update_other _ _ (fun h:S=b=>hSf (by rw[h];exact hbf))).trans e
 ·exact hR v' h'' tk'' hP' fun b o hbw hbS e=>hk'' b o hbw hbS ((Heap.get?_update_other _ _ (Ne.symm hbS)).trans (hk' b o hbw e))
end
section
variable {prog:Program}{w:World}{A:Around}{E:Value->Shared->Prop}{s:Shared}
theorem znr {l:Addr}{items:Array Value}{d:Value}{Q:Value->Shared->Prop}(hh:A.handled=none)(hl:s.heap.IsList l items)(bt:Nat->Nat->Bool){Kp:Heap->Prop}(hcmp:CmpUp prog w A.in1 (fun i v=>items[i]?=some v) bt Kp items.size)(hn:0<items.size)(hK:Kp s.heap)
 (hkp:∀h h',(∀b o,b<s.heap.objs.size->h.get? b=some o->h'.get? b=some o)->Kp h->Kp h')
 (h1:∀v h' tk,items[argBest bt (items.size - 1)]?=some v->(∀b o,s.heap.get? b=some o->h'.get? b=some o)->Q v {s with heap:=h',toks:=tk}) :
 wpAny (model prog w) A (call (.builtin "min") [.ref l] [("default",d)]) Q E s:=by
 have hname:(toString "min"++toString ".loop" : String) = "min.loop":=by decide
 have hlt:l<s.heap.objs.size:=by obtain⟨_,e,_⟩:=hl;exact Heap.lt_size e
 refine zfX F.kind_min F.plain_min F.entry_min (zhQ _ _) ?_;show wpAny _ A.in1 (Builtin.Builtins.bindParams "min" ["key","default"] 0 ⟨[],[("default",d)]⟩ >>= _) _ _ s
 refine wpAny_bind (wpAny_of_eq (show Builtin.Builtins.bindParams "min" ["key","default"] 0 ⟨[],[("default",d)]⟩=pure [none,some d] from rfl) ?_);refine wpAny_bind (wpAny_pure ?_);refine wpAny_bind (wpAny_pyIter_list hl ?_);refine wpAny_bind (wpAny_newObj_type ?_);rw[hname];have hz:(s.heap.push {cls:=.type "list_iterator",data:=.fields #[.ref l,.int 0 0]}).objs.size=s.heap.objs.size+1:=Heap.size_push ..
 have hS1:(s.heap.push {cls:=.type "list_iterator",data:=.fields #[.ref l,.int 0 0]}).objs.size≠s.heap.objs.size:=by rw[hz];exact Nat.succ_ne_self _
 have hS2:∀b,b<s.heap.objs.size->b≠(s.heap.push {cls:=.type "list_iterator",data:=.fields #[.ref l,.int 0 0]}).objs.size:=fun b hb z=>by
  rw[z,hz] at hb;exact absurd hb (Nat.not_lt_of_lt (Nat.lt_succ_self _))
 have up:∀b o,s.heap.get? b=some o->((s.heap.push {cls:=.type "list_iterator",data:=.fields #[.ref l,.int 0 0]}).push {cls:=.type "list",dict:=none,data:=.seq ([]:List Value).toArray}).get? b=some o:=fun b o e=>Heap.get?_push_of_some _ (Heap.get?_push_of_some _ e)
 refine wpAny_pure ⟨plainId_quiet F.plain_min_loop _,zls (c:=0) (Walks.list (A:=A.in1) hh s.heap.objs.size l (Nat.ne_of_lt hlt) items) bt hcmp ((s.heap.push {cls:=.type "list_iterator",data:=.fields #[.ref l,.int 0 0]}).objs.size) ?_ _ hn (fun h h' hk=>hkp h h' fun b o hb e=>hk b o ?_ ?_ e) ?_ ?_ ?_ ?_⟩
 ·intro z;rcases List.mem_cons.mp z with z | z
  ·exact hS1 z
  ·exact hS2 _ hlt (List.mem_singleton.mp z).symm
 ·intro z;exact absurd hb (by rw[List.mem_singleton.mp z];exact Nat.lt_irrefl _)
 ·exact hS2 _ hb
 ·exact hkp _ _ (fun b o _ e=>up b o e) hK
 ·exact⟨⟨_,Heap.get?_push_of_some _ (Heap.get?_push_size _ rfl),rfl,rfl⟩,(hl.push _).push _⟩
 ·exact Heap.get?_push_size (s.heap.push {cls:=.type "list_iterator",data:=.fields #[.ref l,.int 0 0]}) (o:={cls:=.type "list",dict:=none,data:=.seq ([]:List Value).toArray}) rfl
 ·intro v h' tk hP hk;exact h1 v h' tk hP fun b o e=>hk b o (fun z=>absurd (Heap.lt_size e) (by rw[List.mem_singleton.mp z];exact Nat.lt_irrefl _)) (hS2 _ (Heap.lt_size e)) (up b o e)
theorem call_min1K {l:Addr}{items:Array Value}{Q:Value->Shared->Prop}(hh:A.handled=none)(hl:s.heap.IsList l items)(bt:Nat->Nat->Bool){Kp:Heap->Prop}(hcmp:CmpUp prog w A.in1 (fun i v=>items[i]?=some v) bt Kp items.size)(hn:0<items.size)(hK:Kp s.heap)
 (hkp:∀h h',(∀b o,b<s.heap.objs.size->h.get? b=some o->h'.get? b=some o)->Kp h->Kp h')
 (h1:∀v h' tk,items[argBest bt (items.size - 1)]?=some v->(∀b o,s.heap.get? b=some o->h'.get? b=some o)->Q v {s with heap:=h',toks:=tk}) :
 wpAny (model prog w) A (call (.builtin "min") [.ref l]) Q E s:=by
 have hname:(toString "min"++toString ".loop" : String) = "min.loop":=by decide
 have hlt:l<s.heap.objs.size:=by obtain⟨_,e,_⟩:=hl;exact Heap.lt_size e
 refine call_function_tree F.kind_min F.plain_min F.entry_min (F.args_min1 _) ?_;show wpAny _ A.in1 (Builtin.Builtins.bindParams "min" ["key","default"] 0 ⟨[],[]⟩ >>= _) _ _ s
 refine wpAny_bind (wpAny_of_eq (show Builtin.Builtins.bindParams "min" ["key","default"] 0 ⟨[],[]⟩=pure [none,none] from rfl) ?_);refine wpAny_bind (wpAny_pure ?_);refine wpAny_bind (wpAny_pyIter_list hl ?_);refine wpAny_bind (wpAny_newObj_type ?_);rw[hname];have hz:(s.heap.push {cls:=.type "list_iterator",data:=.fields #[.ref l,.int 0 0]}).objs.size=s.heap.objs.size+1:=Heap.size_push ..
 have hS1:(s.heap.push {cls:=.type "list_iterator",data:=.fields #[.ref l,.int 0 0]}).objs.size≠s.heap.objs.size:=by rw[hz];exact Nat.succ_ne_self _
 have hS2:∀b,b<s.heap.objs.size->b≠(s.heap.push {cls:=.type "list_iterator",data:=.fields #[.ref l,.int 0 0]}).objs.size:=fun b hb z=>by
  rw[z,hz] at hb;exact absurd hb (Nat.not_lt_of_lt (Nat.lt_succ_self _))
 have up:∀b o,s.heap.get? b=some o->((s.heap.push {cls:=.type "list_iterator",data:=.fields #[.ref l,.int 0 0]}).push {cls:=.type "list",dict:=none,data:=.seq ([]:List Value).toArray}).get? b=some o:=fun b o e=>Heap.get?_push_of_some _ (Heap.get?_push_of_some _ e)
 refine wpAny_pure ⟨plainId_quiet F.plain_min_loop _,zls (c:=0) (Walks.list (A:=A.in1) hh s.heap.objs.size l (Nat.ne_of_lt hlt) items) bt hcmp ((s.heap.push {cls:=.type "list_iterator",data:=.fields #[.ref l,.int 0 0]}).objs.size) ?_ _ hn (fun h h' hk=>hkp h h' fun b o hb e=>hk b o ?_ ?_ e) ?_ ?_ ?_ ?_⟩
 ·intro z;rcases List.mem_cons.mp z with z | z
  ·exact hS1 z
  ·exact hS2 _ hlt (List.mem_singleton.mp z).symm
 ·intro z;exact absurd hb (by rw[List.mem_singleton.mp z];exact Nat.lt_irrefl _)
 ·exact hS2 _ hb
 ·exact hkp _ _ (fun b o _ e=>up b o e) hK
 ·exact⟨⟨_,Heap.get?_push_of_some _ (Heap.get?_push_size _ rfl),rfl,rfl⟩,(hl.push _).push _⟩
 ·exact Heap.get?_push_size (s.heap.push {cls:=.type "list_iterator",data:=.fields #[.ref l,.int 0 0]}) (o:={cls:=.type "list",dict:=none,data:=.seq ([]:List Value).toArray}) rfl
 ·intro v h' tk hP hk;exact h1 v h' tk hP fun b o e=>hk b o (fun z=>absurd (Heap.lt_size e) (by rw[List.mem_singleton.mp z];exact Nat.lt_irrefl _)) (hS2 _ (Heap.lt_size e)) (up b o e)
end
end Mn
namespace VD
open PySem PySem.Spec PyProof PyProof.Rows L2
mutual
def ltD:D->D->Option Bool
 | .int a,.int b=>some (decide (a<b))
 | .tup xs,.tup ys=>ltL xs ys
 | _,_=>none
def ltL:List D->List D->Option Bool
 | [],[]=>some false
 | x::xs,y::ys=>if eqOk x y=true then(if x=y then ltL xs ys else if xs.length=ys.length then ltD x y else none) else none
 | _,_=>none
end
def RlAt (A:Around)(s:Shared)(u v:Value)(b:Bool):Prop:=∀(prog:Program) (w:World) (E:Value->Shared->Prop) (Q:Value->Shared->Prop),Q (.bool b) s->wpAny (model prog w) A (richCompare .Lt u v) Q E s
theorem zow:∀(n:Nat) {A:Around}{s:Shared}{u v:Value}{d e:D}{b:Bool},depD d<=n->A.units+n<cLine->Rh s.heap u d->Rh s.heap v e->ltD d e=some b->RlAt A s u v b:=by
 intro n;induction n with
 | zero=>
   intro A s u v d e b hn hu ru rv h;cases ru with
   | int i t=>
     cases rv with
     | int j r=>cases h;exact fun prog w E Q q=>PyProof.Rows.lt_int q
     | _=>cases h
   | tup p r=>exact absurd hn (Nat.not_succ_le_zero _)
   | lst p r=>exact absurd hn (Nat.not_succ_le_zero _)
   | _=>cases h
 | succ n ih=>
   intro A s u v d e b hn hu ru rv h;cases ru with
   | int i t=>
     cases rv with
     | int j r=>cases h;exact fun prog w E Q q=>PyProof.Rows.lt_int q
     | _=>cases h
   | tup p r=>
     rename_i l us ds
     have hd:depL ds<=n:=Nat.le_of_succ_le_succ hn
     cases rv with
     | tup p' r'=>
       rename_i l' us' ds'
       have key:∀{us us':List Value}{ds ds':List D},RhL s.heap us ds->RhL s.heap us' ds'->depL ds<=n->ltL ds ds'=some b->Mn.CmpV A.in1 s us us' b:=by
        intro us us' ds;induction ds generalizing us us' with
        | nil=>
          intro ds' r r' hd h;cases ds' with
          | nil=>cases r;cases r';cases h;exact .nil
          | cons y ys=>cases h
        | cons x xs ih2=>
          intro ds' r r' hd h;cases ds' with
          | nil=>cases h
          | cons y ys=>
            cases r with
            | cons a t=>
              cases r' with
              | cons a' t'=>
                have h:(if eqOk x y=true then(if x=y then ltL xs ys else if xs.length=ys.length then ltD x y else none) else none)=some b:=h
                have hx:depD x<=n:=Nat.le_trans (Nat.le_max_left _ _) hd
                split at h
                ·rename_i ho
                 have eq:=zjc n (A:=A.in1) hx (show A.units+1+n<cLine by omega) a a' ho
                 split at h
                 ·rename_i exy
                  rw[decide_eq_true exy] at eq;exact .same eq (ih2 t t' (Nat.le_trans (Nat.le_max_right _ _) hd) h)
                 ·rename_i exy
                  rw[decide_eq_false exy] at eq;split at h
                  ·rename_i hl
                   exact .here eq (by rw[t.length,t'.length];exact hl) (ih (A:=A.in1) hx (show A.units+1+n<cLine by omega) a a' h)
                  ·cases h
                ·cases h
       have cv:=key r r' hd h
       intro prog w E Q q;obtain⟨⟨cls,dd,data,sl⟩,ho,hc,k,hdt⟩:=id p;obtain⟨⟨cls2,dd2,data2,sl2⟩,ho2,hc2,k2,hdt2⟩:=id p';simp only at hc hdt hc2 hdt2;subst hc hdt hc2 hdt2;exact richCompare_meets_room (op:=.Lt) ⟨_,ho,rfl⟩ ⟨_,ho2,rfl⟩ PySem.F.slot_tuple_lt PySem.F.entry_tuple_lt (PySem.F.args_tuple_lt_2 _ _) (Mn.lt_tuple l l' us.toArray us'.toArray k k2 dd dd2 sl sl2 b)
        ⟨ho,ho2,by simpa using cv,show Value.bool _≠Value.notImplemented/\Q (.bool _) s from⟨(fun x=>nomatch x),q⟩⟩ (by omega)
     | _=>cases h
   | _=>cases h
def zdX (lt:Nat->Nat->Option Bool):Nat->Option Nat
 | 0=>some 0
 | k+1=>(zdX lt k).bind fun m=>(lt (k+1) m).bind fun b=>some (if b then k+1 else m)
def ltIx (xs:List D)(a b:Nat):Option Bool:=(xs[a]?).bind fun x=>(xs[b]?).bind fun y=>ltD x y
def minL (xs:List D):Option D:=if xs = [] then none else(zdX (ltIx xs) (xs.length - 1)).bind fun i=>xs[i]?
def minC (xs:List D):Bool:=ndL xs&&decide (depL xs<=40)
def zkx:List D->Option D
 | [.lst xs]=>if minC xs=true then minL xs else none
 | _=>none
def btOf (xs:List D)(a b:Nat):Bool:=(ltIx xs a b).getD false
theorem zd5 {lt:Nat->Nat->Option Bool}:∀{k i:Nat},zdX lt k=some i->i<=k
 | 0,i,h=>by cases h;exact Nat.le_refl _
 | k+1,i,h=>by
   obtain⟨m,e,h⟩:=zac h;obtain⟨b,e2,h⟩:=zac h;have:=zd5 e
   cases h;split <;> omega
theorem zdC {xs:List D}:∀{k i:Nat},zdX (ltIx xs) k=some i->argBest (btOf xs) k=i/\∀j,j<k->∃b,ltIx xs (j+1) (argBest (btOf xs) j)=some b
 | 0,i,h=>by cases h;exact⟨rfl,fun j hj=>by omega⟩
 | k+1,i,h=>by
   obtain⟨m,e,h⟩:=zac h;obtain⟨b,e2,h⟩:=zac h;obtain⟨g1,g2⟩:=zdC e;cases h;refine⟨?_,fun j hj=>?_⟩
   ·unfold argBest;rw[g1];unfold btOf;rw[e2];rfl
   ·by_cases hjk:j=k
    ·subst hjk;rw[g1];exact⟨b,e2⟩
    ·exact g2 j (by omega)
theorem zmB {xs:List D}(h:minC xs=true):ndL xs=true/\depL xs<=40:=by
 unfold minC at h;rw[Bool.and_eq_true,decide_eq_true_eq] at h;exact h
def zox (K:W.Frag):List V->Hp->VK->Prop:=fun xs H Q=>∃J l vs ds i y,xs = [.ref l]/\SqL K H l vs/\RpL K H J vs ds/\minC ds=true/\ds≠[]/\zdX (ltIx ds) (ds.length - 1)=some i/\vs[i]?=some y/\Q y H
section
variable {X:Cx}{K:W.Frag}{k:Nat}
theorem Rh.heap {h h':Heap}(hk:∀b o,h.get? b=some o->h'.get? b=some o){u:Value}{d:D}:Rh h u d->Rh h' u d:=by
 have tp:∀{l:Addr}{us:Array Value},h.IsTuple l us->h'.IsTuple l us:=fun⟨o,e,r⟩ =>⟨o,hk _ _ e,r⟩
 have ls:∀{l:Addr}{us:Array Value},h.IsList l us->h'.IsList l us:=fun⟨o,e,r⟩ =>⟨o,hk _ _ e,r⟩
 intro r;refine Rh.rec (motive_1:=fun u d _=>Rh h' u d) (motive_2:=fun us ds _=>RhL h' us ds) .non .bl .int .str (fun p _ q=>.tup (tp p) q) (fun p _ q=>.lst (ls p) q) .nil (fun _ _ a b=>.cons a b) r
theorem RhL.getO {h:Heap}{us:List Value}{ds:List D}(r:RhL h us ds){i:Nat}{u:Value}(e:us[i]?=some u):∃d,ds[i]?=some d/\Rh h u d:=by
 obtain⟨hi,rfl⟩:=List.getElem?_eq_some_iff.mp e;have hj:i<ds.length:=by rw[<-r.length];exact hi
 exact⟨_,List.getElem?_eq_getElem hj,r.get i hi hj⟩
theorem zmC {A:Around}{s:Shared}{its:List Value}{ds:List D}{i:Nat}(hu:A.units+40<cLine)(r:RhL s.heap its ds)(hd:depL ds<=40)(hm:zdX (ltIx ds) (ds.length - 1)=some i) :
 Mn.CmpUp prog w A (fun i v=>its.toArray[i]?=some v) (btOf ds) (fun hp=>∀b o,s.heap.get? b=some o->hp.get? b=some o) its.toArray.size:=fun j vi vj s' Q E hj hK h1 h2 q=>by
 have h1:its[j+1]?=some vi:=by simpa using h1
 have h2:its[argBest (btOf ds) j]?=some vj:=by simpa using h2
 obtain⟨d1,e1,r1⟩:=r.getO h1;obtain⟨d2,e2,r2⟩:=r.getO h2;have hlen:=r.length
 obtain⟨b,hb⟩:=(zdC hm).2 j (by rw[List.size_toArray] at hj;omega);have hb2:=hb
 unfold ltIx at hb2;rw[e1,zOB,e2,zOB] at hb2;have hl1:depD d1<=40:=by
  obtain⟨g,rfl⟩:=List.getElem?_eq_some_iff.mp e1;exact Nat.le_trans (zd2 _ g) hd
 have q:Q (.bool b) s':=by
  have:btOf ds (j+1) (argBest (btOf ds) j)=b:=by show(ltIx ds (j+1) (argBest (btOf ds) j)).getD false=b;rw[hb];rfl
  rw[this] at q;exact q
 exact zow 40 hl1 hu (r1.heap hK) (r2.heap hK) hb2 prog w E Q q
theorem zjf (hr:Room k X.A):zb7 X (.builtin "min") (zox X.K):=by
 intro pins s σ H xs us Q I r h;obtain⟨J,l,vs,ds,i,y,rfl,hs,rl,hc,hne,hm,hy,q⟩:=h;obtain⟨u,rfl,ru⟩:=zfI r;obtain rfl:u=Value.ref l:=ru;obtain⟨its,rv,pl,hz⟩:=I.list hs;obtain⟨n1,hd⟩:=zmB hc;have rh:=rl.rh I n1 rv
 have hlen:=rh.length
 have hu:=hr.units
 have hpos:0<ds.length:=List.length_pos_iff.mpr hne
 refine Mn.call_min1K (A:=X.A) (items:=its.toArray) hr.hd pl.isList (btOf ds) (zmC (A:=X.A.in1) (show X.A.units+1+40<cLine by omega) rh hd hm) (by rw[List.size_toArray];omega) (fun b o e=>e) (fun h h' hk' hK b o e=>hk' b o (Heap.lt_size e) (hK b o e)) ?_;intro v h' tk' hv kk;rw[List.size_toArray,hlen,(zdC hm).1] at hv;have hv':its[i]?=some v:=by simpa using hv
 obtain⟨v',e1,r1⟩:=rv.get hy;rw[hv'] at e1;cases e1;exact⟨y,H,I.kept (t':=tk') kk,r1,q⟩
theorem zmD:ImC K (zox K) zkx:=by
 intro H J vs ds d Q ja r hF w;match ds,r,hF with
 | [.lst xs],r,hF=>
   obtain⟨v,rfl,rr⟩:=r.one;obtain⟨p,us,rfl,h1,rl⟩:=rr.lst;have hF:(if minC xs=true then minL xs else none)=some d:=hF
   split at hF
   ·rename_i hc
    unfold minL at hF;split at hF
    ·cases hF
    ·rename_i hne
     obtain⟨i,e,hF⟩:=zac hF;obtain⟨y,hy,ry⟩:=rl.get hF;exact⟨J,p,us,xs,i,y,rfl,SqL.of h1,rl,hc,hne,e,hy,w y H J (Up.refl ja) ry⟩
   ·cases hF
end
end VD
namespace VD
open PySem PySem.Spec PyProof PyProof.Rows L2
section
variable {X:Cx}{K:W.Frag}{k:Nat}
end
def EvX {S:Type}(f:FX)(ρ:En)(x:Option (D×S))(emb:S->En):Prop:=∀q,x=some q->f ρ=some (q.1,emb q.2)
def EvAX {S:Type}(f:FAX)(ρ:En)(x:Option (List D×S))(emb:S->En):Prop:=∀q,x=some q->f ρ=some (q.1,emb q.2)
def EvR {S:Type}(f:FR)(ρ:En)(x:Option (RV×S))(emb:S->En):Prop:=∀q,x=some q->f ρ=some (q.1,emb q.2)
def EvAG {S:Type}(f:FAG)(ρ:En)(x:Option (List (Option D)×S))(emb:S->En):Prop:=∀q,x=some q->f ρ=some (q.1,emb q.2)
section
variable {S:Type}{emb:S->En}{ρ:En}{s:S}{f g:FX}{x:Option (D×S)}{y:D×S->Option (D×S)}{e:FE}
theorem zdY (h:emb s=ρ):EvX (xE e) ρ ((e ρ).bind fun d=>some (d,s)) emb:=fun q z=>by
 obtain⟨d,e0,z⟩:=zac z;cases z;unfold xE;rw[e0,<-h];rfl
theorem zgI {F:D->D->Option D}(h1:EvX f ρ x emb)(h2:∀q,EvX g (emb q.2) (y q) emb):EvX (x2 F f g) ρ (x.bind fun q=>(y q).bind fun r=>(F q.1 r.1).bind fun d=>some (d,r.2)) emb:=fun q z=>by
 obtain⟨a,e0,z⟩:=zac z;obtain⟨b,e1,z⟩:=zac z;obtain⟨d,e2,z⟩:=zac z;cases z;unfold x2;rw[h1 a e0,zOB,h2 a b e1,zOB,e2];rfl
theorem zjg {fa:FAX}{xa:Option (List D×S)}(h1:EvAX fa ρ xa emb):EvX (xTup fa) ρ (xa.bind fun q=>(mkT q.1).bind fun d=>some (d,q.2)) emb:=fun q z=>by
 obtain⟨a,e0,z⟩:=zac z;obtain⟨d,e2,z⟩:=zac z;cases z;unfold xTup;rw[h1 a e0,zOB,e2];rfl
theorem zes {fr:FR}{xr:Option (RV×S)}(h1:EvR fr ρ xr emb):EvX (xR fr) ρ (xr.bind fun q=>some (q.1.d,q.2)) emb:=fun q z=>by
 obtain⟨a,e0,z⟩:=zac z;cases z;unfold xR;rw[h1 a e0];rfl
theorem zfu (h:emb s=ρ):EvAX axNil ρ (some ([],s)) emb:=fun q z=>by cases z;rw[<-h];rfl
theorem zjh {fl:FA}(h:emb s=ρ):EvAX (xA fl) ρ ((fl ρ).bind fun d=>some (d,s)) emb:=fun q z=>by
 obtain⟨d,e0,z⟩:=zac z;cases z;unfold xA;rw[e0,<-h];rfl
theorem za8 {ga:FAX}{ya:D×S->Option (List D×S)}(h1:EvX f ρ x emb)(h2:∀q,EvAX ga (emb q.2) (ya q) emb):EvAX (axCons f ga) ρ (x.bind fun q=>(ya q).bind fun r=>some (q.1::r.1,r.2)) emb:=fun q z=>by
 obtain⟨a,e0,z⟩:=zac z;obtain⟨b,e1,z⟩:=zac z;cases z;unfold axCons;rw[h1 a e0,zOB,h2 a b e1];rfl
theorem zky (h:emb s=ρ):EvAG agNil ρ (some ([],s)) emb:=fun q z=>by cases z;rw[<-h];rfl
theorem zkz {i:Nat}{fg:FAG}{xg:Option (List (Option D)×S)}(ho:(ownD (ρ[i]?)).isSome=true)(h:EvAG fg ρ xg emb):EvAG (agOwn i fg) ρ (xg.bind fun q=>some (none::q.1,q.2)) emb:=fun q z=>by
 obtain⟨a,e0,z⟩:=zac z;cases z;unfold agOwn;rw[if_pos ho,h a e0];rfl
theorem zoy {fg:FAG}{yg:D×S->Option (List (Option D)×S)}(h1:EvX f ρ x emb)(h2:∀q,EvAG fg (emb q.2) (yg q) emb):EvAG (agX f fg) ρ (x.bind fun q=>(yg q).bind fun r=>some (some q.1::r.1,r.2)) emb:=fun q z=>by
 obtain⟨a,e0,z⟩:=zac z;obtain⟨b,e1,z⟩:=zac z;cases z;unfold agX;rw[h1 a e0,zOB,h2 a b e1];rfl
def zmE {S:Type}(F:List D->Option (RV×List D))(ks:List (Option Nat))(p n:Nat)(get:S->D)(put:S->D->S)(x:Option (List (Option D)×S)):Option (RV×S):=x.bind fun q=>if q.1.map (agK n)=ks then(F (q.1.map fun o=>o.getD (get q.2))).bind fun r=>(r.2[p]?).bind fun e=>some (r.1,put q.2 e) else none
theorem zkA {ks:List (Option Nat)}{p i n:Nat}{F:List D->Option (RV×List D)}{fg:FAG}{xg:Option (List (Option D)×S)}{get:S->D}{put:S->D->S}(h:EvAG fg ρ xg emb)(hg:∀s,ownD ((emb s)[i]?)=some (n,get s))(hp:∀s e,setO (emb s) i e=emb (put s e)):EvR (xCallG ks p i n F fg) ρ (zmE F ks p n get put xg) emb:=fun q z=>by
 obtain⟨a,e0,z⟩:=zac z;split at z
 ·rename_i hk
  obtain⟨r,e1,z⟩:=zac z;obtain⟨e,e2,z⟩:=zac z;cases z;unfold xCallG;rw[h a e0,zOB];show(if a.1.map (agK n)=ks then match ownD ((emb a.2)[i]?) with
   | some (m,d)=>if m=n then(F (a.1.map fun o=>o.getD d)).bind fun r=>(r.2[p]?).bind fun e=>some (r.1,setO (emb a.2) i e) else none
   | none=>none
   else none)=_
  rw[if_pos hk,hg];show(if n=n then(F (a.1.map fun o=>o.getD (get a.2))).bind fun r=>(r.2[p]?).bind fun e=>some (r.1,setO (emb a.2) i e) else none)=_
  rw[if_pos rfl,e1,zOB,e2,zOB,hp]
 ·cases z
def zet {S:Type}(F:List D->Option (RV×List D))(put:D->S)(as:List D):Option (RV×S):=(F as).bind fun r=>(r.2[0]?).bind fun e=>some (r.1,put e)
theorem zbe {ks:List (Option Nat)}{i n:Nat}{F:List D->Option (RV×List D)}{fg:FAG}{as:List (Option D)}{d:D}{put:D->S}(h:fg ρ=some (as,ρ))(hk:as.map (agK n)=ks)(hg:ownD (ρ[i]?)=some (n,d))(hp:∀e,setO ρ i e=emb (put e)):EvR (xCallG ks 0 i n F fg) ρ (zet F put (as.map fun o=>o.getD d)) emb:=fun q z=>by
 obtain⟨r,e1,z⟩:=zac z;obtain⟨e,e2,z⟩:=zac z;cases z;unfold xCallG;rw[h,zOB];show(if as.map (agK n)=ks then match ownD (ρ[i]?) with
  | some (m,d)=>if m=n then(F (as.map fun o=>o.getD d)).bind fun r=>(r.2[0]?).bind fun e=>some (r.1,setO ρ i e) else none
  | none=>none
  else none)=_
 rw[if_pos hk,hg];show(if n=n then(F (as.map fun o=>o.getD d)).bind fun r=>(r.2[0]?).bind fun e=>some (r.1,setO ρ i e) else none)=_
 rw[if_pos rfl,e1,zOB,e2,zOB,hp]
theorem zeu {ks:List (Option Nat)}{F:List D->Option (RV×List D)}{fa:FAX}{xa:Option (List D×S)}(h:EvAX fa ρ xa emb):EvR (xCallN ks F fa) ρ (xa.bind fun q=>(F q.1).bind fun r=>if q.1.length=ks.length then some (r.1,q.2) else none) emb:=fun q z=>by
 obtain⟨a,e0,z⟩:=zac z;obtain⟨r,e1,z⟩:=zac z;split at z
 ·rename_i hl
  cases z;unfold xCallN;rw[h a e0,zOB];show((F a.1).bind fun r=>if a.1.length=ks.length then some (r.1,emb a.2) else none)=_
  rw[e1,zOB,if_pos hl]
 ·cases z
def zoz (xs:List D)(k:D):Option (D×List D):=(dInt k).bind fun k=>if -1000000<=k/\k<=1000000 then(seqIndex? k xs.length).bind fun j=>(xs[j]?).bind fun d=>some (d,xs.eraseIdx j) else none
theorem zoA {i:Nat}{get:S->List D}{put:S->List D->S}(ho:isL1 (ownD (ρ[i]?))=true)(h:EvX f ρ x emb)(hg:∀s,ownD ((emb s)[i]?)=some (1,.lst (get s)))(hp:∀s e,setO (emb s) i (.lst e)=emb (put s e)):EvX (zlp i f) ρ (x.bind fun q=>(zoz (get q.2) q.1).bind fun r=>some (r.1,put q.2 r.2)) emb:=fun q z=>by
 obtain⟨a,e0,z⟩:=zac z;obtain⟨r,e1,z⟩:=zac z;obtain⟨k,e2,e1⟩:=zac e1;split at e1
 ·rename_i hk
  obtain⟨j,e3,e1⟩:=zac e1;obtain⟨d,e4,e1⟩:=zac e1;cases e1;cases z;unfold zlp;rw[if_pos ho,h a e0,zOB];show((dInt a.1).bind fun k=>match ownD ((emb a.2)[i]?) with
   | some (1,.lst ds)=>if -1000000<=k/\k<=1000000 then(seqIndex? k ds.length).bind fun j=>(ds[j]?).bind fun d=>some (d,setO (emb a.2) i (.lst (ds.eraseIdx j))) else none
   | _=>none)=_
  rw[e2,zOB,hg];show(if -1000000<=k/\k<=1000000 then(seqIndex? k (get a.2).length).bind fun j=>((get a.2)[j]?).bind fun d=>some (d,setO (emb a.2) i (.lst ((get a.2).eraseIdx j))) else none)=_
  rw[if_pos hk,e3,zOB,e4,zOB,hp]
 ·cases e1
theorem zdD {i:Nat}(h:EvX f ρ x emb)(hi:∀s,okS i (emb s)=true):Step (gSetX i f) ρ x fun q=>(emb q.2).set i (.val q.1):=fun q z=>by
 unfold gSetX;rw[h q z,zOB];exact if_pos (zen (hi q.2))
theorem zmF {i:Nat}{get:S->List D}(ho:isL1 (ownD (ρ[i]?))=true)(h:EvX f ρ x emb)(hg:∀s,ownD ((emb s)[i]?)=some (1,.lst (get s))):Step (gAppX i f) ρ (x.bind fun q=>(appL (get q.2) q.1).bind fun ys=>some (ys,q.2)) fun p=>setO (emb p.2) i (.lst p.1):=fun p z=>by
 obtain⟨a,e0,z⟩:=zac z;obtain⟨ys,e1,z⟩:=zac z;cases z;unfold appL at e1;split at e1
 ·rename_i hl
  cases e1;unfold gAppX;rw[if_pos ho,h a e0,zOB];show(match ownD ((emb a.2)[i]?) with
   | some (1,.lst ds)=>if ds.length<lim then some (Out.nx (setO (emb a.2) i (.lst (ds++[a.1])))) else none
   | _=>none)=_
  rw[hg];exact if_pos hl
 ·cases e1
section
variable {R A:Type}{k:Out->Option R}{φ:A->Option R}{a b g':FS}
end
end
section
variable {S S0 α A R:Type}{emb:S->En}{emb0:S0->En}{ρ:En}{fi:FAX}{b g:FS}{tg:FG}{xa:Option (List D×S0)}{ini:S0->S}
theorem zkB (h:EvAX fi ρ xa emb0){q:List D×S0}(e:xa=some q):gForX fi tg b ρ=gFor (fun _=>some q.1) tg b (emb0 q.2):=by
 unfold gForX gFor;rw[h q e];rfl
theorem zkC {i:Nat}{step:S->D->Option S}(h:EvAX fi ρ xa emb0)(h0:∀s,emb (ini s)=emb0 s)(hi:∀s,okS i (emb s)=true)(hb:∀s d,EvS kL (fun s=>some (emb s)) b ((emb s).set i (.val d)) (step s d)) :
 Step (gForX fi (gN i) b) ρ (xa.bind fun q=>zaN step (ini q.2) q.1) emb:=fun s z=>by
 obtain⟨q,e,z⟩:=zac z;rw[zkB h e];exact zdB (fi:=fun _=>some q.1) (h0 q.2) hi hb s z
theorem zkD {fa:FAX}{x0:Option (List D×S0)}(h:EvAX fa ρ x0 emb0):EvAX (axRng1 fa) ρ (x0.bind fun q=>(rngA q.1).bind fun ds=>some (ds,q.2)) emb0:=fun q z=>by
 obtain⟨a,e0,z⟩:=zac z;obtain⟨ds,e1,z⟩:=zac z;cases z;unfold axRng1;rw[h a e0,zOB];unfold rngA at e1;obtain⟨j,e2,e1⟩:=zac e1;show((a1Int a.1).bind fun j=>if -1000000<=j/\j<=1000000 then some (zba 0 j.toNat,emb0 a.2) else none)=_
 rw[e2,zOB];split at e1
 ·rename_i hj;cases e1;exact if_pos hj
 ·cases e1
end
def kG (ks:List (Option Nat)):Out->Option (RV×List D)
 | .ret r ρ=>(outSl ks ρ).bind fun es=>some (r,es)
 | .nx ρ=>(outSl ks ρ).bind fun es=>some (.told .non,es)
 | _=>none
section
variable {P:Program}{w:World}{K:W.Frag}{mg:Str->Option Value}{base:Heap}
theorem zji {x qual:Str}{st:Stmt}{f:Addr}{fd:FuncData}{N ps:List Str}{k:Nat}{c:List D->Option (RV×List D)}(ks:List (Option Nat))(F:Fun K x qual st f fd)(S:FnScope N ps (zad st))(hks:ks.length=ps.length)
 (hbody:∀(cdv:Value) (A:Around) (outer:List Env) (s:Shared) (H:Hp) (E:XK),Room k (A.deeper (envOfC qual (zad st) s.heap.objs.size f cdv))->∃g,VSs (cxOf CX0 P w K mg base N qual (zad st) f cdv A outer s H E).nox (zbc st) g/\∀ds,ds.length=ks.length->EvS (kG ks) some g (inSl ks ds++List.replicate (N.length - ks.length) .un) (c ds)) :
 FnOk P w K mg base CX0 (k+1) f fd ps (spG K ks c):=by
 refine F.ok S (fun vs H Q E h=>?_) (fun cdv A outer s H vs Q E hr h=>?_)
 ·obtain⟨J,ds,r,es,fp,ja,a,e,w⟩:=h;rw[a.l1,hks]
 ·obtain⟨J,ds,r,es,fp,ja,a,e,w⟩:=h;obtain⟨g,⟨t,p,q⟩,ev⟩:=hbody cdv A outer s H E hr;refine⟨t,p,?_⟩;have s0:=zf3 (N:=N) ja a
  have e:=ev ds a.l2 (r,es) (by rw[e];rfl)
  cases z:g (inSl ks ds++List.replicate (N.length - ks.length) .un) with
  | none=>rw[z] at e;cases e
  | some o=>
    rw[z] at e;refine q H J _ _ _ H J o _ s0 z ?_;cases o with
    | nx ρ'=>
      obtain⟨es',e1,e⟩:=bind_some (show((outSl ks ρ').bind fun es=>some (RV.told D.non,es))=some (r,es) from e);cases e;intro σ' H' J' s' k';obtain⟨fp',pg⟩:=zkk (v:=.non) (r:=.told .non) a s' .non e1;exact w _ _ _ _ pg
    | ret r' ρ'=>
      obtain⟨es',e1,e⟩:=bind_some (show((outSl ks ρ').bind fun es=>some (r',es))=some (r,es) from e);cases e;intro v σ' H' J' s' q';obtain⟨fp',pg⟩:=zkk a s' q' e1;exact w _ _ _ _ pg
    | bk _=>cases e
    | ct _=>cases e
end
def g1 (b:D->Option (RV×List D)):List D->Option (RV×List D) | [x]=>b x | _=>none
def g2 (b:D->D->Option (RV×List D)):List D->Option (RV×List D) | [x,y]=>b x y | _=>none
def g3 (b:D->D->D->Option (RV×List D)):List D->Option (RV×List D) | [x,y,z]=>b x y z | _=>none
section
variable {R:Type}{k:Out->Option R}{φ:RV×List D->Option R}{g:FS}{n:List SV}{ks:List (Option Nat)}
theorem zpB {b:D->Option (RV×List D)}(h:∀x,EvS k φ g (inSl ks [x]++n) (b x)):∀ds:List D,ds.length=1->EvS k φ g (inSl ks ds++n) (g1 b ds)
 | [x],_=>h x
theorem zkE {b:D->D->Option (RV×List D)}(h:∀x y,EvS k φ g (inSl ks [x,y]++n) (b x y)):∀ds:List D,ds.length=2->EvS k φ g (inSl ks ds++n) (g2 b ds)
 | [x,y],_=>h x y
end
section
variable {X:Cx}{K:W.Frag}{k:Nat}
end
end VD
namespace GM
open PySem PySem.Spec PyProof PyProof.Rows L2 VD
structure Bx where
 x:Int
 y:Int
 wd:Int
 hg:Int
def Bx.d (b:Bx):D:=.tup [.int b.x,.int b.y,.int b.wd,.int b.hg]
def zeO (gap s1 l1 s2 l2:Int):Option (Int×Int×Int):=
 if gap<0 then none else some (if max s1 s2≥min (s1+l1) (s2+l2) then 1 else 0,gap,max 0 (max s1 s2 - min (s1+l1) (s2+l2)))
def near (b o:Bx)(way:Str):Option (Int×Int×Int):=
 if way = "up" then zeO (b.y - o.y - o.hg) b.x b.wd o.x o.wd
 else if way = "down" then zeO (o.y - b.y - b.hg) b.x b.wd o.x o.wd
 else if way = "left" then zeO (b.x - o.x - o.wd) b.y b.hg o.y o.hg
 else zeO (o.x - b.x - b.wd) b.y b.hg o.y o.hg
def zmG (way:Str):Prop:=way = "up"\/way = "down"\/way = "left"\/way = "right"
theorem zmH (b o:Bx):near b o "up"=zeO (b.y - o.y - o.hg) b.x b.wd o.x o.wd:=by unfold near;rw[if_pos rfl]
theorem zjj (b o:Bx):near b o "down"=zeO (o.y - b.y - b.hg) b.x b.wd o.x o.wd:=by unfold near;rw[if_neg (by decide),if_pos rfl]
theorem zjk (b o:Bx):near b o "left"=zeO (b.x - o.x - o.wd) b.y b.hg o.y o.hg:=by unfold near;rw[if_neg (by decide),if_neg (by decide),if_pos rfl]
theorem zhX (b o:Bx):near b o "right"=zeO (o.x - b.x - b.wd) b.y b.hg o.y o.hg:=by unfold near;rw[if_neg (by decide),if_neg (by decide),if_neg (by decide)]
theorem zev (i j:Int):(if j>i then j else i)=max i j:=by omega
theorem zfv (i j:Int):(if j<i then j else i)=min i j:=by omega
structure Row where
 deep:Nat
 name:Str
 box:Bx
 word:Str
 rank:Int
 head:Option Str
def zjl (ds:Nat->Nat)(cur:Nat):Nat->List Nat
 | 0=>[]
 | n+1=>if ds n<cur then zjl ds (ds n) n++[n] else zjl ds cur n
def dsOf (L:List Row)(k:Nat):Nat:=((L[k]?).map (·.deep)).getD 0
def above (L:List Row)(k:Nat):List Nat:=zjl (dsOf L) (dsOf L k) k
theorem zhY {α:Type}(f:Nat->α)(i:Nat):(List.range i).map f++[f i]=(List.range (i+1)).map f:=by rw[List.range_succ,List.map_append];rfl
def sg (c:Nat):Str:=⟨#[c]⟩
theorem zew {α:Type}{f:Nat->α}:∀(m:Nat),(∀i j,i<j->j<m->f i≠f j)->((List.range m).map f).Nodup
 | 0,_=>by simp
 | m+1,h=>by
   rw[List.range_succ,List.map_append];refine List.nodup_append.mpr ⟨zew m fun i j hi hj=>h i j hi (by omega),by simp,fun a ha b hb=>?_⟩;obtain⟨i,hi,rfl⟩:=List.mem_map.mp ha;have:=List.mem_singleton.mp hb
   subst this;exact h i m (List.mem_range.mp hi) (by omega)
inductive Tr where
 | mk (name:Str) (box:Bx) (word:Str) (rank:Int) (head:Option Str) (parts:List Tr)
namespace Tr
def name:Tr->Str | mk n _ _ _ _ _=>n
def parts:Tr->List Tr | mk _ _ _ _ _ x=>x
end Tr
def szL:Nat->List Tr->Nat
 | _,[]=>0
 | 0,_=>0
 | n+1,t::r=>1+szL n t.parts+szL (n+1) r
termination_by n ts=>(n,ts.length)
structure Pos' where
 q:List Int
 as:List Tr
 js:List Nat
 t:Tr
def posL:Nat->List Int->Nat->List Tr->List Nat->Nat->List Tr->List Pos'
 | _,_,_,_,_,_,[]=>[]
 | 0,_,_,_,_,_,_=>[]
 | n+1,o,i,as,js,off,t::r=>⟨o++[(i:Int)],as,js,t⟩ ::(posL n (o++[(i:Int)]) 0 (as++[t]) (js++[off]) (off+1) t.parts++posL (n+1) o (i+1) as js (off+1+szL n t.parts) r)
termination_by n _ _ _ _ _ ts=>(n,ts.length)
def Fits:Nat->List Tr->Prop
 | 0,ts=>ts = []
 | n+1,ts=>∀t∈ts,Fits n t.parts
def psOf (ts:List Tr):List Pos':=posL 5 [] 0 [] [] 0 ts
section
variable {ts:List Tr}{L:List Row}
end
end GM
namespace GM
open PySem PySem.Spec PyProof PyProof.Rows L2 VD
theorem zhZ {n:Nat}{i:Nat}{d:D}(h:(zba 0 n)[i]?=some d):i<n/\d=.int (i:Int):=by
 have hl:(zba 0 n).length=n:=by simp[zba]
 have hi:i<n:=by rw[<-hl];exact(List.getElem?_eq_some_iff.mp h).1
 refine⟨hi,?_⟩;unfold zba at h;rw[List.getElem?_map,List.getElem?_range hi] at h;simp at h;exact h.symm
theorem zh0 (n:Nat):(zba 0 n).length=n:=by simp[zba]
theorem zgJ {α:Type}{xs:List α}{i:Int}(h0:0<=i)(h1:i<xs.length):∃x,xs[i.toNat]?=some x/\atI xs i=some x:=by
 have hi:i.toNat<xs.length:=by omega
 refine⟨xs[i.toNat],List.getElem?_eq_getElem hi,?_⟩;have e:i=((i.toNat:Nat):Int):=by omega
 have h:=zaP (xs:=xs) (List.getElem?_eq_getElem hi)
 rw[<-e] at h;exact h
theorem zdg {α:Type}{f:List D->D->Option (List D)}(h:α->D)(p:α->Bool)(g:α->D):∀{xs:List α}{acc:List D},acc.length+xs.length<=10000->(∀acc x,x∈xs->acc.length<lim->f acc (h x)=some (if p x then acc++[g x] else acc))->zaN f acc (xs.map h)=some (acc++(xs.filter p).map g)
 | [],acc,_,_=>by show some acc=_;simp
 | x::xs,acc,hl,hf=>by
   rw[List.length_cons] at hl;show(f acc (h x)).bind _=_
   rw[hf acc x List.mem_cons_self (Nat.lt_of_le_of_lt (by omega:acc.length<=10000) (by decide)),zOB];cases hp:p x with
   | true=>
     refine Eq.trans (zdg h p g (xs:=xs) (acc:=acc++[g x]) (by rw[List.length_append,List.length_singleton];omega) fun a y hy=>hf a y (List.mem_cons_of_mem _ hy)) ?_;simp[hp]
   | false=>
     refine Eq.trans (zdg h p g (xs:=xs) (acc:=acc) (by omega) fun a y hy=>hf a y (List.mem_cons_of_mem _ hy)) ?_;simp[hp]
theorem ze4 {S A α:Type}{f:S->D->Option (Fl S A)}(h:α->D):∀{xs:List α}{s:S},(∀x,x∈xs->f s (h x)=some (.nx s))->zdf f s (xs.map h)=some (.nx s)
 | [],s,_=>rfl
 | x::xs,s,hf=>by
   show(f s (h x)).bind _=_
   rw[hf x List.mem_cons_self,zOB];exact ze4 h fun y hy=>hf y (List.mem_cons_of_mem _ hy)
theorem zcX {S A:Type}{f:S->D->Option (Fl S A)}{ds:List D}{s:S}(hf:∀x,x∈ds->f s x=some (.nx s)):zdf f s ds=some (.nx s):=by
 have:=ze4 (f:=f) (fun d:D=>d) (xs:=ds) (s:=s) hf
 rwa [List.map_id'] at this
theorem zcw {xs:List D}{d:D}(h:xs.length<lim):appL xs d=some (xs++[d]):=if_pos h
theorem zdh {α:Type}{f:D->Option (Option D)}(h:α->D)(g:α->D){xs:List α}(hl:xs.length<=10000)(hf:∀x,x∈xs->f (h x)=some (some (g x))):zbk f (xs.map h)=some (xs.map g):=by
 unfold zbk;have:zdb f (xs.map h)=some (xs.map g):=by
  clear hl
  induction xs with
  | nil=>rfl
  | cons x xs ih=>
    show(f (h x)).bind _=_
    rw[hf x List.mem_cons_self,zOB];show(zdb f (xs.map h)).bind _=_
    rw[ih fun y hy=>hf y (List.mem_cons_of_mem _ hy)];rfl
 rw[this,zOB,if_pos];rw[List.length_map];exact Nat.le_trans hl (by decide)
theorem zcx {α:Type}{f:D->Option (Option D)}(h:α->D)(p:α->Bool)(g:α->D){xs:List α}(hl:xs.length<=10000)(hf:∀x,x∈xs->f (h x)=some (if p x then some (g x) else none)):zbk f (xs.map h)=some ((xs.filter p).map g):=by
 unfold zbk;have:zdb f (xs.map h)=some ((xs.filter p).map g):=by
  clear hl
  induction xs with
  | nil=>rfl
  | cons x xs ih=>
    have ih:=ih fun y hy=>hf y (List.mem_cons_of_mem _ hy)
    show(f (h x)).bind _=_
    rw[hf x List.mem_cons_self,zOB];cases hp:p x with
    | true=>
      show(zdb f (xs.map h)).bind _=_
      rw[ih,List.filter_cons,if_pos hp];rfl
    | false=>
      rw[ih,List.filter_cons,hp];rfl
 rw[this,zOB,if_pos];rw[List.length_map];exact Nat.le_trans (List.length_filter_le _ _) (Nat.le_trans hl (by decide))
theorem zjm {α:Type}(f:α->D)(xs:List α):zdW (xs.map f)=xs.zipIdx.map fun p=>.tup [.int (p.2:Nat),f p.1]:=by
 unfold zdW;rw[List.zipIdx_map,List.map_map];rfl
theorem zb9 (x y:Str):dEqG false (.str x) (.str y)=some (.bl (decide (x=y))):=by
 show(if eqC (.str x) (.str y)=true then some (D.bl (if false=true then !decide (D.str x=D.str y) else decide (D.str x=D.str y))) else none)=_
 rw[if_pos (by rfl),if_neg (by decide),zaA (show D.str x=D.str y↔x=y from⟨fun h=>by cases h;rfl,fun h=>by rw[h]⟩)]
theorem zfw (x y:Int):dEqG false (.int x) (.int y)=some (.bl (decide (x=y))):=by
 show(if eqC (.int x) (.int y)=true then some (D.bl (if false=true then !decide (D.int x=D.int y) else decide (D.int x=D.int y))) else none)=_
 rw[if_pos (by rfl),if_neg (by decide),zaA (show D.int x=D.int y↔x=y from⟨fun h=>by cases h;rfl,fun h=>by rw[h]⟩)]
theorem zf6 {d:D}(h:eqC d d=true)(neg:Bool):dEqG neg d d=some (.bl (!neg)):=by
 unfold dEqG;rw[if_pos h,decide_eq_true rfl];cases neg <;> rfl
def lex3 (t u:Int×Int×Int):Bool:=decide (t.1<u.1)||(decide (t.1=u.1)&&(decide (t.2.1<u.2.1)||(decide (t.2.1=u.2.1)&&decide (t.2.2<u.2.2))))
def trD (t:Int×Int×Int):D:=.tup [.int t.1,.int t.2.1,.int t.2.2]
theorem trD_inj {t u:Int×Int×Int}:trD t=trD u↔t=u:=by
 constructor
 ·intro h;obtain⟨a,b,c⟩:=t;obtain⟨a',b',c'⟩:=u;cases h;rfl
 ·intro h;rw[h]
theorem zfx {a b:Int}{xs ys:List D}(hl:xs.length=ys.length):ltL (.int a::xs) (.int b::ys)=if a=b then ltL xs ys else some (decide (a<b)):=by
 rw[ltL,if_pos (by rfl)];by_cases h:a=b
 ·rw[if_pos (by rw[h]),if_pos h]
 ·rw[if_neg (by intro z;cases z;exact h rfl),if_neg h,if_pos hl,ltD]
theorem zoB (t u:Int×Int×Int):ltD (trD t) (trD u)=some (lex3 t u):=by
 obtain⟨a,b,c⟩:=t;obtain⟨a',b',c'⟩:=u;show ltL [.int a,.int b,.int c] [.int a',.int b',.int c']=_
 rw[zfx (show[D.int b,.int c].length = [D.int b',.int c'].length from rfl)];unfold lex3;by_cases h:a=a'
 ·rw[if_pos h,zfx (show[D.int c].length = [D.int c'].length from rfl)];by_cases h2:b=b'
  ·rw[if_pos h2,zfx (show([]:List D).length=([]:List D).length from rfl)];by_cases h3:c=c'
   ·rw[if_pos h3];simp[ltL,h,h2,h3]
   ·rw[if_neg h3];simp[h,h2]
  ·rw[if_neg h2];simp[h,h2]
 ·rw[if_neg h];simp[h]
theorem zmI {t u:Int×Int×Int}{n m:Int}{xs ys:List D}(hl:xs.length=ys.length)(hx:n=m->ltL xs ys=some false):ltD (.tup (trD t::.int n::xs)) (.tup (trD u::.int m::ys))=some (if t=u then decide (n<m) else lex3 t u):=by
 rw[ltD,ltL,if_pos (by rfl)];by_cases h:t=u
 ·rw[if_pos (by rw[h]),if_pos h,zfx hl];by_cases h2:n=m
  ·rw[if_pos h2,hx h2,h2];simp
  ·rw[if_neg h2]
 ·rw[if_neg (fun z=>h (trD_inj.mp z)),if_neg h,if_pos (by simp[hl]),zoB]
theorem zgK {lt lt':Nat->Nat->Option Bool}:∀{k:Nat},(∀a b,a<=k->b<=k->lt a b=lt' a b)->zdX lt k=zdX lt' k
 | 0,_=>rfl
 | k+1,h=>by
   unfold zdX;rw[zgK fun a b ha hb=>h a b (by omega) (by omega)];cases e:zdX lt' k with
   | none=>rfl
   | some m=>
     rw[zOB,zOB,h (k+1) m (Nat.le_refl _) (Nat.le_succ_of_le (zd5 e))]
theorem ze5 {lt:Nat->Nat->Option Bool}:∀{k:Nat},(∀a b,a<=k->b<=k->(lt a b).isSome=true)->∃i,zdX lt k=some i
 | 0,_=>⟨0,rfl⟩
 | k+1,h=>by
   obtain⟨m,e⟩:=ze5 (lt:=lt) (k:=k) fun a b ha hb=>h a b (by omega) (by omega)
   obtain⟨b,eb⟩:=Option.isSome_iff_exists.mp (h (k+1) m (Nat.le_refl _) (Nat.le_succ_of_le (zd5 e)));exact⟨_,by unfold zdX;rw[e,zOB,eb];rfl⟩
mutual
theorem zf7:∀{d:D},ndD d=true->eqOk d d=true
 | .non,_=>rfl
 | .bl _,_=>rfl
 | .int _,_=>rfl
 | .str _,_=>rfl
 | .tup ds,h=>zdE (ds:=ds) h
 | .lst ds,h=>zdE (ds:=ds) h
 | .dct _ _,h=>by cases h
 | .scr _,h=>by cases h
theorem zdE:∀{ds:List D},ndL ds=true->zft ds ds=true
 | [],_=>rfl
 | d::ds,h=>by
   have h:(ndD d&&ndL ds)=true:=h
   rw[Bool.and_eq_true] at h;show(eqOk d d&&zft ds ds)=true
   rw[zf7 h.1,zdE h.2];rfl
end
theorem zhk {d:D}(h:ndD d=true)(hd:depD d<=40):eqC d d=true:=by
 unfold eqC;rw[zf7 h,h,decide_eq_true hd];rfl
theorem zgL {m:Nat}:∀{ds:List D},(∀d∈ds,depD d<=m)->depL ds<=m
 | [],_=>Nat.zero_le _
 | d::ds,h=>Nat.max_le.mpr ⟨h d List.mem_cons_self,zgL fun e he=>h e (List.mem_cons_of_mem _ he)⟩
theorem zjn:∀{ds:List D},(∀d∈ds,ndD d=true)->ndL ds=true
 | [],_=>rfl
 | d::ds,h=>by
   show(ndD d&&ndL ds)=true
   rw[h d List.mem_cons_self,zjn fun e he=>h e (List.mem_cons_of_mem _ he)];rfl
theorem zjo {x:Str}{th:List Str}:dInG false (.str x) (.lst (th.map D.str))=some (.bl (decide (x∈th))):=by
 have hc:inC (.str x) (th.map D.str)=true:=by
  unfold inC;rw[Bool.and_eq_true];refine⟨rfl,List.all_eq_true.mpr fun y hy=>?_⟩;obtain⟨z,_,rfl⟩:=List.mem_map.mp hy;rfl
 show(if inC (.str x) (th.map D.str)=true then some (D.bl (if false=true then !decide (D.str x∈th.map D.str) else decide (D.str x∈th.map D.str))) else none)=_
 rw[if_pos hc,if_neg (by decide),zaA (show D.str x∈th.map D.str↔x∈th from⟨fun h=>by
  obtain⟨z,hz,e⟩:=List.mem_map.mp h;cases e;exact hz,fun h=>List.mem_map.mpr ⟨x,h,rfl⟩⟩)]
theorem zkF {xs:List D}{r:Int}(h0:0<=r)(h1:r<=xs.length):VD.cut xs none (some r)=xs.take r.toNat:=by
 unfold VD.cut HT.sIx;dsimp only[];rw[if_neg (by omega),List.drop_zero,Nat.sub_zero,Nat.min_eq_left (by omega)]
end GM
namespace GM
open PySem PySem.Spec PyProof PyProof.Rows L2 VD
end GM
namespace VD
open PySem PySem.Spec PyProof PyProof.Rows L2 PySem.W
def zh1 (n:Int):List D->Option (List Int)
 | []=>some []
 | d::ds=>(dIx d (.int n)).bind fun k=>(dInt k).bind fun z=>(zh1 n ds).bind fun zs=>some (z::zs)
def zfy (l:List (Int×D)):List (Int×D):=l.mergeSort fun a b=>decide (a.1<=b.1)
theorem zf8 (l:List (Int×D)):SO.Stb (α:=Int×D) Prod.fst l (zfy l):=by
 have tr:∀a b c:Int×D,decide (a.1<=b.1)=true->decide (b.1<=c.1)=true->decide (a.1<=c.1)=true:=fun a b c h g=>by
  simp at h g⊢;omega
 have tot:∀a b:Int×D,(decide (a.1<=b.1)||decide (b.1<=a.1))=true:=fun a b=>by simp;omega
 have pm:(zfy l).Perm l:=List.mergeSort_perm _ _
 refine⟨(List.pairwise_mergeSort tr tot l).imp fun {a b} h=>by simpa using h,fun v=>?_⟩;have s1:(l.filter fun a=>decide (a.1=v)).Sublist (zfy l):=List.sublist_mergeSort tr tot (List.pairwise_iff_forall_sublist.mpr fun {a b} h=>by
  have ha:=of_decide_eq_true (List.mem_filter.mp (h.subset (by simp:a∈[a,b]))).2
  have hb:=of_decide_eq_true (List.mem_filter.mp (h.subset (by simp:b∈[a,b]))).2
  simp[ha,hb]) List.filter_sublist
 have s2:=s1.filter fun a=>decide (a.1=v)
 rw[List.filter_filter] at s2;have e:(l.filter fun a=>decide (a.1=v)&&decide (a.1=v))=l.filter fun a=>decide (a.1=v):=by
  congr 1;funext a;simp
 rw[e] at s2;exact(s2.eq_of_length ((pm.filter _).length_eq).symm).symm
def zoC (n:Int)(ds:List D):Option (List D):=if ds.length<64 then(zh1 n ds).bind fun zs=>some ((zfy (zs.zip ds)).map (·.2)) else none
theorem ze6 {n:Int}:∀{ds:List D}{zs:List Int},zh1 n ds=some zs->zs.length=ds.length/\∀(i:Nat) (d:D),ds[i]?=some d->∃z,zs[i]?=some z/\dIx d (.int n)=some (.int z)
 | [],zs,h=>by cases h;simp
 | d::ds,zs,h=>by
   obtain⟨k,e1,h⟩:=bind_some h;obtain⟨z,e2,h⟩:=bind_some h;obtain⟨zr,e3,h⟩:=bind_some h;cases h;obtain⟨hl,hi⟩:=ze6 e3;refine⟨by simp[hl],fun i d' hd=>?_⟩;cases i with
   | zero=>
     simp at hd;subst hd;refine⟨z,rfl,?_⟩;cases k <;> cases e2
     exact e1
   | succ i=>simpa using hi i d' (by simpa using hd)
theorem zlt {k:Nat->Int}{n:Nat}{p:Array Nat}(A:SO.Asc k n p n):∀i∈p.toList,i<n:=fun i hi=>by
 obtain⟨j,hj,e⟩:=List.getElem_of_mem hi;have hj':j<p.size:=by simpa using hj
 have:=A.lo j (by rw[<-A.sz];exact hj')
 rw[SO.gD] at this;rw[<-e];simpa[hj'] using this
theorem zjp {zs:List Int}{ds:List D}{p:Array Nat}(hl:zs.length=ds.length)(A:SO.Asc (fun i=>zs.getD i 0) ds.length p ds.length):(zfy (zs.zip ds)).map (·.2)=p.toList.map fun i=>ds.getD i .non:=by
 have hz:(zs.zip ds).length=ds.length:=by rw[List.length_zip];omega
 have lt:=zlt A
 have gz:∀i,i<ds.length->(zs.zip ds).getD i (0,D.non)=(zs.getD i 0,ds.getD i D.non):=fun i hi=>by
  have h1:i<zs.length:=by omega
  have e:(zs.zip ds)[i]?=some (zs[i],ds[i]):=List.getElem?_zip_eq_some.mpr ⟨List.getElem?_eq_getElem h1,List.getElem?_eq_getElem hi⟩
  rw[List.getD_eq_getElem?_getD,e,List.getD_eq_getElem?_getD,List.getElem?_eq_getElem h1,List.getD_eq_getElem?_getD,List.getElem?_eq_getElem hi];rfl
 have A':SO.Asc (fun i=>Prod.fst ((zs.zip ds).getD i (0,D.non))) (zs.zip ds).length p (zs.zip ds).length:=by
  rw[hz];refine⟨A.toPre,fun i j hij hj=>?_⟩;have h1:p.getD i 0<ds.length:=A.lo i (by omega)
  have h2:p.getD j 0<ds.length:=A.lo j hj
  have:=A.up i j hij hj
  unfold SO.lx at this⊢;dsimp only[] at this⊢;rw[gz _ h1,gz _ h2];exact this
 rw[SO.Stb.eq (zf8 (zs.zip ds)) (SO.stb_of A'),List.map_map];refine List.map_congr_left fun i hi=>?_
 show((zs.zip ds).getD i (0,D.non)).2=_
 rw[gz i (lt i hi)]
theorem zhl {K:W.Frag}{H:Hp}{J:Addr->Prop}{xs:List V}{ds:List D}(r:RpL K H J xs ds):∀{l:List Nat},(∀i∈l,i<ds.length)->RpL K H J (l.map fun i=>xs.getD i .non) (l.map fun i=>ds.getD i .non)
 | [],_=>.nil
 | i::l,h=>by
   have hi:=h i (by simp)
   obtain⟨v,hv,rv⟩:=r.get (List.getElem?_eq_getElem hi);refine .cons ?_ (zhl r fun j hj=>h j (by simp[hj]));show Rp K H J (xs.getD i .non) (ds.getD i .non)
   rw[List.getD_eq_getElem?_getD,List.getD_eq_getElem?_getD,hv,List.getElem?_eq_getElem hi];exact rv
theorem zf9 {xs:List V}{us:List Value}(r:Vals xs us):∀{l:List Nat},(∀i∈l,i<xs.length)->Vals (l.map fun i=>xs.getD i .non) (l.map fun i=>us.getD i Value.none)
 | [],_=>.nil
 | i::l,h=>by
   have hi:=h i (by simp)
   obtain⟨v,hv,rv⟩:=r.get (List.getElem?_eq_getElem hi);refine .cons ?_ (zf9 r fun j hj=>h j (by simp[hj]));show RelV (xs.getD i .non) (us.getD i Value.none)
   rw[List.getD_eq_getElem?_getD,List.getD_eq_getElem?_getD,hv,List.getElem?_eq_getElem hi];exact rv
theorem zmJ {xs:List V}{us:List Value}(r:Vals xs us){i:Nat}{u:Value}(h:us[i]?=some u):∃x,xs[i]?=some x/\RelV x u:=by
 cases e:xs[i]? with
 | none=>have:=r.none_of e;rw[h] at this;cases this
 | some x=>
   obtain⟨v,e1,q⟩:=r.get e;rw[h] at e1;cases e1;exact⟨x,rfl,q⟩
theorem _root_.L2.Own.less {X:Cx}{pins:List (Addr×Obj)}{H:Hp}{a:Addr}{q:Addr×Obj}(w:Own X (q::pins) H a):Own X pins H a:=⟨w.hn,w.hL,w.h1,w.h2,fun p hp=>w.h3 p (by
 rcases List.mem_append.mp hp with z | z
 ·exact List.mem_append_left _ z
 ·exact List.mem_append_right _ (List.mem_cons_of_mem _ z)),w.fs⟩
structure TabX (X:Cx)(q:Str):Prop where
 ex:∃c P bm ob,X.env.code=.ref c/\CodeK X.K c P/\BMod X.base mainGlobals X.mg bm ob/\∃tp,X.Hz P=some (.tbl tp)/\tp[0]?=some (Value.str q 0)
section
variable {X:Cx}{a:Expr}{fa:FE}
def zoD (n:Int)(fa:FE):FA:=fun ρ=>(fa ρ).bind fun d=>(dLst d).bind fun ds=>zoC n ds
theorem zjq {k:Nat}{params:Arguments}{scope:Scope}{x rk q:Str}{n:Int}{p lp kp p1 p2 p3 pos:Pos}(hr:Room (k+3) X.A)(T:TabX X q)(hm:X.mg "sorted"=none)(G:GlobD X.K X.mg rk (.int n))(ha:VW X a fa)
 (hq:X.env.qual++"<lambda>"=q) (S:FnScope [x] [x] scope) (hcl:closureFor scope X.env=pure []) (hdef:defaultsOf params X.env=([],[])) (hx:scope.names.lookup x=some .local) (hk:∀env:Env,env.scope=scope->env.kindOf rk=some .globalImplicit)
 (hb:∀(f:FuncData) (u:Value),f.params=params->f.defaults=.none->f.kwdefaults=.none->bindArgs f ⟨[u],[]⟩=pure [(x,u)]) (hg:Gl X "sorted":=by rfl) (hs:starEach [a] X.env = [(false,eval a X.env)]:=by rfl)
 (hxd:(x == ("__debug__" : Str))=false:=by decide) (hxc:(x == ("__classdict__" : Str))=false:=by decide) (hrd:(rk == ("__debug__" : Str))=false:=by decide) :
 VN X (.Call (.Name "sorted" p) [a] [⟨some "key",.Lambda params (.Subscript (.Name x p1) (.Name rk p2) p3) scope lp,kp⟩] pos) (zoD n fa):=by
 obtain⟨ta,pa,ga⟩:=ha;obtain⟨c,P,bm,ob,hcd,hC,hB,tp,hT,htp⟩:=T.ex;refine⟨fun σ H Q=>∃Hz Jz O ρ J ds,ST X.K Hz Jz O ρ σ H J/\zoD n fa ρ=some ds/\ziL X.K H J ds Q,fun pins s σ H Q I hyp=>?_,fun Hz Jz O ρ σ H J ds Q st e w=>⟨Hz,Jz,O,ρ,J,ds,st,e,w⟩⟩;obtain⟨Hz,Jz,O,ρ,J,out,st,e,w⟩:=hyp;obtain⟨d,ed,e⟩:=bind_some e;obtain⟨ds,eds,e⟩:=bind_some e;have hd:d=.lst ds:=by cases d <;> cases eds;rfl
 subst hd;have e:(if ds.length<64 then(zh1 n ds).bind fun zs=>some ((zfy (zs.zip ds)).map (·.2)) else none)=some out:=e
 by_cases h64:ds.length<64
 ·rw[if_pos h64] at e;obtain⟨zs,ez,e⟩:=bind_some e;cases e;obtain⟨zl,zi⟩:=ze6 ez;refine wpAny_Call_Name_kw (zc4 I hg hm boot_sorted ?_ (by decide) (by decide));refine callWith_kw (thn ((zbb pa zco (by rw[hs];rfl)) pos pins s σ H (fun vs H1=>∃v J1,vs = [v]/\Up H J H1 J1/\RpW X.K H1 J1 v (.lst ds)) I (ga Hz Jz O ρ σ H J _ _ st ed fun v H1 J1 u r=>⟨v,J1,rfl,u,r⟩)) fun us s1 ⟨vs,H1,I1,r1,v,J1,ev,u1,rw1⟩ =>?_) (by rw[hs];rfl) (by rw[hs];rfl) rfl rfl;subst ev;obtain⟨u,rfl,ru⟩:=zfI r1;obtain⟨l,xs,rfl,hl1,rl⟩:=rw1.lst;obtain rfl:u=Value.ref l:=ru;obtain⟨more,hT1⟩:=I1.base.tbls P _ hT;have h0:(tp++more)[0]?=some (Value.str q 0):=by
   have:0<tp.size:=by
    rcases Nat.eq_zero_or_pos tp.size with z | z
    ·rw[Array.getElem?_eq_none (by omega)] at htp;cases htp
    ·exact z
   rw[Array.getElem?_append_left this];exact htp
  refine kws_cons (zj8 I1 hcd hC hB hT1 h0 hq hcl hdef fun f c' oc uo fv t pm ctv H2 s2 sm fr hc2 hd hv wf of I2=>kws_nil ?_);show wpAny _ _ (call (.builtin "sorted") [.ref l] [(Str.ofString "key",.ref f)]) _ _ _
  have I2':=wf.pinned I2 of (by intro v z;cases z)
  obtain⟨its,rv,pl,hz⟩:=I2.list (SqL.of (sm _ _ hl1));have e1:=rv.length
  have e2:=rl.length
  refine zhN (zs:=zs) I2' pl.isList (by omega) (by omega) (fun i v z pins' s' hv' hz' JJ hp=>?_) fun Da p cc s' A JJ w2 hD=>?_
  ·obtain⟨y,ey,ry⟩:=zmJ rv hv';obtain⟨dd,edd,rdd⟩:=rl.getV ey;obtain⟨z2,ez2,eix⟩:=zi i dd edd;rw[hz'] at ez2;cases ez2;obtain⟨gu,gv,g1,g2,g3⟩:=G.ex;have gi:gv=.int n:=by have:=g3 H J;cases this;rfl
   subst gi;refine wpAny_call (codeAny_mono (zl3 (N:=[x]) (ps:=[x]) (vs:=[y]) (us:=[v]) (Q:=fun v' H'=>v'=.int z/\H'=H2) (E:=fun _ _ _=>False) hr.in1.in1 JJ.env0.in1.in1 ((JJ.pin _ (List.mem_append_right _ (hp _ List.mem_cons_self))).1) ⟨c',oc,fv,t,rfl,(JJ.hok c' _ hc2).1,hd,hv⟩ S rfl (.cons ry .nil) (hb _ v rfl rfl rfl)
    (zhK zfQ (zb0 (i:=0) rfl (.inl hx) hxd hxc) (zic (hk _ rfl) g1 g2 hrd) (fun _ _=>rfl)) ?_) fun r s3 hq3=>?_)
   ·refine⟨y,rfl,?_⟩;match dd,eix with
    | .tup es,eix=>
      obtain⟨p',vs',rfl,h1,r1'⟩:=(RpW.tup (.inl rdd):∃p vs,y=.ref p/\SqT X.K H1 p vs/\RpL X.K H1 J1 vs es)
      obtain⟨vv,hvv,rvv⟩:=r1'.at (show atI es n=some (.int z) from eix)
      cases rvv;exact .inr (.inl ⟨p',vs',n,_,rfl,rfl,zg8 sm _ _ h1,hvv,rfl,rfl⟩)
    | .lst es,eix=>
      obtain⟨p',vs',rfl,h1,r1'⟩:=(RpW.lst (.inl rdd):∃p vs,y=.ref p/\H1 p=some (.lst vs)/\RpL X.K H1 J1 vs es)
      obtain⟨vv,hvv,rvv⟩:=r1'.at (show atI es n=some (.int z) from eix)
      cases rvv;exact .inl ⟨p',vs',n,_,rfl,rfl,SqL.of (sm _ _ h1),hvv,rfl,rfl⟩
    | .str es,eix=>
      have eix:(if es.length<=lim then(atI es.cps.toList n).map fun c=>D.str ⟨#[c]⟩ else none)=some (.int z):=eix
      split at eix
      ·cases hq':atI es.cps.toList n <;> rw[hq'] at eix <;> cases eix
      ·cases eix
   ·cases r with
    | error e=>exact hq3.elim
    | ok fl=>
      cases fl with
      | ret u=>
        obtain⟨v',H',J',rv',rfl,rfl⟩:=JJ.after hq3;exact⟨rv',J'⟩
      | next=>exact hq3.elim
      | brk=>exact hq3.elim
      | cont=>exact hq3.elim
  ·have hn:its.length=ds.length:=by omega
   rw[hn] at A;have lt:=zlt A
   have w3:=w2.less
   have J3:=JJ.unpin
   have hD1:H1 Da=none:=fr _ w3.hn
   have un:Up H1 J1 (upd H2 Da (.lst (p.toList.map fun i=>xs.getD i .non))) J1:=⟨fun b o q=>by rw[zah (fun z=>by rw[z,hD1] at q;cases q)];exact sm b o q,fun _ h=>h,fun _ h=>.inl h,fun b h=>by
    by_cases z:b=Da
    ·rw[z,zai];simp
    ·rw[zah z];cases q:H1 b with
     | none=>exact absurd q (u1.ja b h)
     | some o=>rw[sm b o q];simp⟩
   refine⟨.ref Da,upd H2 Da (.lst (p.toList.map fun i=>xs.getD i .non)),J3.track w3 ⟨?_,_,cc,zf9 rv fun i hi=>by rw[e2];exact lt i hi,hD⟩,rfl,w Da _ _ J1 (u1.trans un) (u1.same.free hD1) (fun j=>u1.ja Da j hD1) zai ?_⟩
   ·rw[List.length_map,Array.length_toList,A.sz,sizeLine_eq];omega
   ·rw[zjp zl A];exact zhl (rl.keep un.keep) lt
 ·rw[if_neg h64] at e;cases e
end
structure Pers (Pc:Hp->Prop):Prop where
 st:∀{fs ex:List Addr}{H H':Hp}{h h':Heap},Un fs ex H H' h h'->Pc H->Pc H'
 sm:∀{H H':Hp},Same H H'->Pc H->Pc H'
def Prs (X:Cx)(Pc:Hp->Prop):Prop:=∀pins σ H s,Inv X pins σ H s->Pc H
theorem Prs.of {X:Cx}{Pc:Hp->Prop}(p:Pers Pc)(h:Pc X.Hz):Prs X Pc:=fun _ _ _ _ I=>p.st I.base h
def pcS (Pc:Hp->Prop)(sp:Sp):Sp:=fun vs H Q E=>Pc H/\sp vs H Q E
structure Scr where
 p:Addr
 ns:List Int
def SqF (K:W.Frag)(S:Scr)(H:Hp):Prop:=(∃o,H S.p=some (.frz o (.lst (S.ns.map V.int))))\/∀H,SqL K H S.p (S.ns.map V.int)
theorem SqF.sq {K:W.Frag}{S:Scr}{H:Hp}(h:SqF K S H):SqL K H S.p (S.ns.map V.int):=by
 rcases h with⟨o,h⟩ | h
 ·exact .inl (.inr ⟨o,h⟩)
 ·exact h H
theorem SqF.of {K:W.Frag}{S:Scr}{H:Hp}(h:SqL K H S.p (S.ns.map V.int))(hf:H S.p≠none->∃o xs,H S.p=some (.frz o (.lst xs))):SqF K S H:=by
 rcases h with(h | ⟨o,h⟩) | h
 ·obtain⟨o,xs,e⟩:=hf (by rw[h];simp);rw[h] at e;cases e
 ·exact .inl ⟨o,h⟩
 ·exact .inr fun _=>.inr h
def TabH (P:Addr)(q:Str)(H:Hp):Prop:=∃tp,H P=some (.tbl tp)/\tp[0]?=some (Value.str q 0)
theorem tab0 {tp more:Array Value}{q:Str}(htp:tp[0]?=some (Value.str q 0)):(tp++more)[0]?=some (Value.str q 0):=by
 have:0<tp.size:=by
  rcases Nat.eq_zero_or_pos tp.size with z | z
  ·rw[Array.getElem?_eq_none (by omega)] at htp;cases htp
  ·exact z
 rw[Array.getElem?_append_left this];exact htp
def PcL (K:W.Frag)(S:Scr)(P:Addr)(q:Str)(H:Hp):Prop:=SqF K S H/\TabH P q H
theorem pers_F {K:W.Frag}{S:Scr}:Pers (SqF K S):=⟨fun u h=>by
 rcases h with⟨o,h⟩ | h
 ·exact .inl ⟨o,u.frzs _ _ _ h⟩
 ·exact .inr h,fun s h=>by
 rcases h with⟨o,h⟩ | h
 ·exact .inl ⟨o,s _ _ h⟩
 ·exact .inr h⟩
theorem pers_T {P:Addr}{q:Str}:Pers (TabH P q):=⟨fun u ⟨tp,h,e⟩ =>by
 obtain⟨more,h'⟩:=u.tbls _ _ h;exact⟨_,h',tab0 e⟩,fun s ⟨tp,h,e⟩ =>⟨tp,s _ _ h,e⟩⟩
theorem zcy {K:W.Frag}{S:Scr}{P:Addr}{q:Str}:Pers (PcL K S P q):=⟨fun u h=>⟨pers_F.st u h.1,pers_T.st u h.2⟩,fun s h=>⟨pers_F.sm s h.1,pers_T.sm s h.2⟩⟩
section
variable {X:Cx}{a b e:Expr}{es:List Expr}{fa fb:FE}{fl:FA}{p pos:Pos}{Pc:Hp->Prop}
theorem pcP {k k':Nat}{x:Str}{ps:List Str}{sp:Sp}{t:TA}(C:Cal X.prog X.w X.K X.mg X.base k x ps (pcS Pc sp))(hp:Prs X Pc)(hr:Room k' X.A)(ha:PA X (e::es) t)(hk:k<=k')(hg:Gl X x)(hdb:(x == ("__debug__" : Str))=false)
 (he:starEach (e::es) X.env=(false,eval e X.env)::starEach es X.env) (hpl:(backTo pos (starEach es X.env)).any (·.1)=false):PE X (.Call (.Name x p) (e::es) [] pos) (zim sp [] E0 t):=by
 obtain⟨f,fd,F,hb,hkp,hm⟩:=C.ex;intro pins s σ H Q I h;refine wpAny_Call_Name_kw (zgp I hg hm ?_ hdb);refine callWith_K (h₀:=X.base) I.ok.mod.kin hkp (thn (ha pos pins s σ H _ I h) fun us s1 ⟨vs,H1,I1,r,q⟩ =>⟨I1.kIn,?_⟩) he hpl;exact zk4 (F.mono hk) hr hb .nil znV I1 r ⟨hp _ _ _ _ I1,q⟩
theorem za0 {k k':Nat}{x:Str}{ps:List Str}{F:List D->Option D}(C:Cal X.prog X.w X.K X.mg X.base k x ps (pcS Pc (spF X.K F)))(hp:Prs X Pc)(hr:Room k' X.A)(ha:VA X (e::es) fl)(hk:k<=k':=by decide)(hg:Gl X x:=by rfl)(hdb:(x == ("__debug__" : Str))=false:=by decide)
 (he:starEach (e::es) X.env=(false,eval e X.env)::starEach es X.env:=by rfl) (hpl:(backTo pos (starEach es X.env)).any (·.1)=false:=by rfl):VE X (.Call (.Name x p) (e::es) [] pos) (eCall F fl):=by
 obtain⟨t,pa,g⟩:=ha;refine⟨_,pcP C hp hr pa hk hg hdb he hpl,?_⟩;intro Hz Jz O ρ σ H J d Q s e w;obtain⟨ds,e1,e⟩:=bind_some e;refine g Hz Jz O ρ σ H J ds _ s e1 fun vs H1 J1 u1 r1=>?_
 refine⟨J1,ds,d,u1.ja,by rw[List.append_nil];exact r1,e,fun v H2 J2 u2 r2=>w v H2 J2 (u1.trans u2) r2⟩
theorem zex {fl:FAX}{k k':Nat}{x:Str}{ps:List Str}{ks:List (Option Nat)}{F:List D->Option (RV×List D)}(C:Cal X.prog X.w X.K X.mg X.base k x ps (pcS Pc (spG X.K ks F)))(hp:Prs X Pc)(hr:Room k' X.A)(ha:VAX X (e::es) fl)(hn:ks.all (·.isNone)=true:=by rfl)(hk:k<=k':=by decide)(hg:Gl X x:=by rfl)(hdb:(x == ("__debug__" : Str))=false:=by decide)
 (he:starEach (e::es) X.env=(false,eval e X.env)::starEach es X.env:=by rfl) (hpl:(backTo pos (starEach es X.env)).any (·.1)=false:=by rfl):VR X (.Call (.Name x p) (e::es) [] pos) (xCallN ks F fl):=by
 obtain⟨t,pa,g⟩:=ha;exact⟨_,pcP C hp hr pa hk hg hdb he hpl,zkm hn g _⟩
def lenS (S:Scr):D->Option D
 | .scr q=>if q=S.p then some (.int S.ns.length) else none
 | _=>none
def ixS (S:Scr):D->D->Option D
 | .scr q,.int i=>if q=S.p then(atI S.ns i).map D.int else none
 | _,_=>none
theorem zjr {S:Scr}{d r:D}(h:lenS S d=some r):d=.scr S.p/\r=.int S.ns.length:=by
 unfold lenS at h;split at h
 ·split at h
  ·rename_i z;rw[z];cases h;exact⟨rfl,rfl⟩
  ·cases h
 ·cases h
theorem zkG {S:Scr}{x y r:D}(h:ixS S x y=some r):∃i n,x=.scr S.p/\y=.int i/\atI S.ns i=some n/\r=.int n:=by
 match x,y,h with
 | .scr q,.int i,h=>
   have h:(if q=S.p then(atI S.ns i).map D.int else none)=some r:=h
   by_cases z:q=S.p
   ·rw[if_pos z] at h;cases hi:atI S.ns i with
    | none=>rw[hi] at h;cases h
    | some n=>rw[hi] at h;cases h;exact⟨i,n,by rw[z],rfl,hi,rfl⟩
   ·rw[if_neg z] at h;cases h
theorem zmK {α β:Type}{f:α->β}{xs:List α}{i:Int}:atI (xs.map f) i=(atI xs i).map f:=by
 unfold atI;rw[List.length_map];cases ixN xs.length i with
 | none=>rfl
 | some j=>simp
theorem zjs {S:Scr}(hp:Prs X (SqF X.K S))(B:Blt X.mg)(ha:VE X a fa)(hg:Gl X "len":=by rfl)(h1:starEach [a] X.env=(false,eval a X.env)::starEach [] X.env:=by rfl):VE X (.Call (.Name "len" p) [a] [] pos) (e1 (lenS S) fa):=by
 obtain⟨ta,pa,ga⟩:=ha;refine⟨fun σ H Q=>∃Hz Jz O ρ J d,ST X.K Hz Jz O ρ σ H J/\e1 (lenS S) fa ρ=some d/\zgw X.K H J d Q,fun pins s σ H Q I hyp=>?_,fun Hz Jz O ρ σ H J d Q st e w=>⟨Hz,Jz,O,ρ,J,d,st,e,w⟩⟩;obtain⟨Hz,Jz,O,ρ,J,d,st,e,w⟩:=hyp;obtain⟨x,ex,e⟩:=bind_some e;obtain⟨rfl,rfl⟩:=zjr e;refine pb zfS B PySem.boot_len (zbb pa zco h1) (by decide +kernel) hg (by decide) (by decide) h1 rfl pins s σ H Q I ?_;refine ga Hz Jz O ρ σ H J _ _ st ex fun v H1 J1 u r=>?_
 cases r;refine⟨S.p,S.ns.map V.int,rfl,.inl (pers_F.sm u.same (hp _ _ _ _ I)).sq,?_⟩;rw[List.length_map];exact w _ H1 J1 u (.int _)
theorem zoE {S:Scr}(hp:Prs X (SqF X.K S))(ha:VE X a fa)(hb:VE X b fb)(hs:zdw b:=by exact fun _ _=>rfl):VE X (.Subscript a b pos) (e2 (ixS S) fa fb):=by
 obtain⟨ta,pa,ga⟩:=ha;obtain⟨tb,pb,gb⟩:=hb;refine⟨fun σ H Q=>∃Hz Jz O ρ J d,ST X.K Hz Jz O ρ σ H J/\e2 (ixS S) fa fb ρ=some d/\zgw X.K H J d Q,fun pins s σ H Q I hyp=>?_,fun Hz Jz O ρ σ H J d Q st e w=>⟨Hz,Jz,O,ρ,J,d,st,e,w⟩⟩;obtain⟨Hz,Jz,O,ρ,J,d,st,e,w⟩:=hyp;obtain⟨x,ex,e⟩:=bind_some e;obtain⟨y,ey,e⟩:=bind_some e;obtain⟨i,n,rfl,rfl,hi,rfl⟩:=zkG e;refine zhK ix_list pa pb hs pins s σ H Q I ?_;refine ga Hz Jz O ρ σ H J _ _ st ex fun v H1 J1 u r=>?_
 refine gb Hz Jz O ρ σ H1 J1 _ _ (st.up u) ey fun v2 H2 J2 u2 r2=>?_
 cases r;cases r2;exact⟨S.p,_,i,.int n,rfl,rfl,(pers_F.sm u2.same (pers_F.sm u.same (hp _ _ _ _ I))).sq,by rw[zmK,hi];rfl,w _ H2 J2 (u.trans u2) (.int _)⟩
end
section
variable {P:Program}{w:World}{K:W.Frag}{mg:Str->Option Value}{base:Heap}{Pc:Hp->Prop}
theorem zcz {x qual:Str}{st:Stmt}{f:Addr}{fd:FuncData}{N ps:List Str}{k:Nat}{c:List D->Option D}(pe:Pers Pc)(F:Fun K x qual st f fd)(S:FnScope N ps (zad st))(hlen:∀ds d,c ds=some d->ds.length=ps.length)
 (hbody:∀(cdv:Value) (A:Around) (outer:List Env) (s:Shared) (H:Hp) (E:XK),fd.code=cdv->Room k (A.deeper (envOfC qual (zad st) s.heap.objs.size f cdv))->Pc H->Prs (cxOf CX0 P w K mg base N qual (zad st) f cdv A outer s H E).nox Pc->∃g,VSs (cxOf CX0 P w K mg base N qual (zad st) f cdv A outer s H E).nox (zbc st) g/\∀ds,ds.length=ps.length->EvS kF some g (ds.map SV.val++List.replicate (N.length - ps.length) .un) (c ds)):FnOk P w K mg base CX0 (k+1) f fd ps (pcS Pc (spF K c)):=by
 refine F.okC S (fun vs H Q E h=>?_) (fun cdv A outer s H vs Q E hcv hr h=>?_)
 ·obtain⟨_,J,ds,d,ja,r,e,w⟩:=h;rw[r.length];exact hlen ds d e
 ·obtain⟨hPc,J,ds,d,ja,r,e,w⟩:=h;have hl:=hlen ds d e
  obtain⟨g,⟨t,p,q⟩,ev⟩:=hbody cdv A outer s H E hcv hr hPc (Prs.of pe hPc);refine⟨t,p,?_⟩;have e:=ev ds hl d (by rw[e];rfl)
  rw[<-hl] at e;have s0:=zhe (N:=N) ja r
  cases z:g (ds.map SV.val++List.replicate (N.length - ds.length) .un) with
  | none=>rw[z] at e;cases e
  | some o=>
    rw[z] at e;refine q H J Pr.no _ _ H J o _ s0 z ?_;cases o with
    | nx ρ'=>cases e;exact fun σ' H' J' s' k'=>w .non H' J' s'.out .non
    | ret r ρ'=>
      cases r with
      | told d'=>cases e;exact fun v σ' H' J' s' r'=>w v H' J' s'.out r'
      | new n d'=>
        cases e;rintro v σ' H' J' s' ⟨B,fp,_,ru,_,hb,_⟩;have u:=s'.out
        refine w v H' (fun b=>J' b\/b∈B) ⟨u.same,fun a h=>.inl (u.jj a h),fun a h=>?_,fun a h=>?_⟩ (ru.rp (fun _ h=>.inl h) (fun b hb=>.inr hb))
        ·rcases h with h | h
         ·exact u.jn a h
         ·exact .inr (hb a h).2
        ·rcases h with h | h
         ·exact u.ja a h
         ·obtain⟨o,e,_⟩:=ru.some a h;rw[e];simp
    | bk _=>cases e
    | ct _=>cases e
theorem zgM {x qual:Str}{st:Stmt}{f:Addr}{fd:FuncData}{N ps:List Str}{k:Nat}{c:List D->Option (RV×List D)}(pe:Pers Pc)(ks:List (Option Nat))(F:Fun K x qual st f fd)(S:FnScope N ps (zad st))(hks:ks.length=ps.length)
 (hbody:∀(cdv:Value) (A:Around) (outer:List Env) (s:Shared) (H:Hp) (E:XK),fd.code=cdv->Room k (A.deeper (envOfC qual (zad st) s.heap.objs.size f cdv))->Pc H->Prs (cxOf CX0 P w K mg base N qual (zad st) f cdv A outer s H E).nox Pc->∃g,VSs (cxOf CX0 P w K mg base N qual (zad st) f cdv A outer s H E).nox (zbc st) g/\∀ds,ds.length=ks.length->EvS (kG ks) some g (inSl ks ds++List.replicate (N.length - ks.length) .un) (c ds)) :
 FnOk P w K mg base CX0 (k+1) f fd ps (pcS Pc (spG K ks c)):=by
 refine F.okC S (fun vs H Q E h=>?_) (fun cdv A outer s H vs Q E hcv hr h=>?_)
 ·obtain⟨_,J,ds,r,es,fp,ja,a,e,w⟩:=h;rw[a.l1,hks]
 ·obtain⟨hPc,J,ds,r,es,fp,ja,a,e,w⟩:=h;obtain⟨g,⟨t,p,q⟩,ev⟩:=hbody cdv A outer s H E hcv hr hPc (Prs.of pe hPc);refine⟨t,p,?_⟩;have s0:=zf3 (N:=N) ja a
  have e:=ev ds a.l2 (r,es) (by rw[e];rfl)
  cases z:g (inSl ks ds++List.replicate (N.length - ks.length) .un) with
  | none=>rw[z] at e;cases e
  | some o=>
    rw[z] at e;refine q H J _ _ _ H J o _ s0 z ?_;cases o with
    | nx ρ'=>
      obtain⟨es',e1,e⟩:=bind_some (show((outSl ks ρ').bind fun es=>some (RV.told D.non,es))=some (r,es) from e);cases e;intro σ' H' J' s' k';obtain⟨fp',pg⟩:=zkk (v:=.non) (r:=.told .non) a s' .non e1;exact w _ _ _ _ pg
    | ret r' ρ'=>
      obtain⟨es',e1,e⟩:=bind_some (show((outSl ks ρ').bind fun es=>some (r',es))=some (r,es) from e);cases e;intro v σ' H' J' s' q';obtain⟨fp',pg⟩:=zkk a s' q' e1;exact w _ _ _ _ pg
    | bk _=>cases e
    | ct _=>cases e
structure TabF (K:W.Frag)(mg:Str->Option Value)(base:Heap)(fd:FuncData)(P:Addr):Prop where
 ex:∃c bm ob,fd.code=.ref c/\CodeK K c P/\BMod base mainGlobals mg bm ob
theorem zmL {X:Cx}{fd:FuncData}{P:Addr}{q:Str}(T:TabF X.K X.mg X.base fd P)(hc:fd.code=X.env.code)(h:TabH P q X.Hz):TabX X q:=by
 obtain⟨c,bm,ob,e1,e2,e3⟩:=T.ex;exact⟨c,P,bm,ob,by rw[<-hc];exact e1,e2,e3,h⟩
end
end VD
namespace L2
open PySem PySem.Spec PyProof PyProof.Rows
section
variable {X:Cx}
def rIdx (K:W.Frag):V->List V->Hp->VK->Prop:=fun x vs H Q=>∃p xs y i,x=.ref p/\vs = [y]/\SqL K H p xs/\zfj y=true/\xs.all zfj=true/\xs.findIdx? (fun z=>eqV z y)=some i/\Q (.int i) H
theorem zhm {x:V}:∀{xs:List V}{us:List Value}{i:Nat},Vals xs us->xs.all zfj=true->xs.findIdx? (fun z=>eqV z x)=some i->∃h:i<us.length,eqU x us[i]=true/\∀m (hm:m<us.length),m<i->eqU x us[m]=false
 | _,_,i,.nil,_,e=>by cases e
 | y::xs,u::us,i,.cons r t,f,e=>by
   rw[List.all_cons,Bool.and_eq_true] at f;rw[List.findIdx?_cons] at e;cases hb:eqV y x with
   | true=>
     rw[hb] at e;simp only[if_true] at e;cases e;exact⟨Nat.zero_lt_succ _,by rw[List.getElem_cons_zero,zis r f.1];exact hb,fun m _ h=>absurd h (Nat.not_lt_zero _)⟩
   | false=>
     rw[hb] at e;simp only[Bool.false_eq_true,if_false] at e;cases e2:xs.findIdx? (fun z=>eqV z x) with
     | none=>rw[e2] at e;cases e
     | some j=>
       rw[e2] at e;cases e;obtain⟨h1,h2,h3⟩:=zhm t f.2 e2;refine⟨Nat.succ_lt_succ h1,by rw[List.getElem_cons_succ];exact h2,fun m hm hl=>?_⟩;cases m with
       | zero=>rw[List.getElem_cons_zero,zis r f.1];exact hb
       | succ m=>rw[List.getElem_cons_succ];exact h3 m (Nat.lt_of_succ_lt_succ hm) (Nat.lt_of_succ_lt_succ hl)
theorem zkH:MtR X "list.index" (rIdx X.K):=by
 intro pins s σ H x vs v us Q I rx rv h;obtain⟨p,xs,y,i,rfl,rfl,hq,fy,fs,e,q⟩:=h;cases rx;obtain⟨u,rfl,ru⟩:=rv.one;obtain⟨its,r,⟨o,n,ho,hc,hd,hD⟩,hz⟩:=I.list hq;obtain⟨oc,od,oda,osl⟩:=o;cases hc;cases hd;cases hD;obtain⟨h1,h2,h3⟩:=zhm r fs e;have hl:=r.length
 rw[sizeLine_eq] at hz;refine call_meets F.slot_list_index ⟨_,ho,rfl⟩ F.entry_list_index (F.args_list_index_2 _ _)
  (SeqAt.list_indexAt p its.toArray n none osl u (eqU y) i (by rw[List.size_toArray];exact h1) (by omega) (by simpa using h2) (fun m hm hlt=>by simpa using h3 m (by simpa using hm) hlt)) ⟨ho,fun w hw=>zg2 ru fy r fs w (by simpa using hw),?_⟩
 exact⟨.int _,H,I.tok _,⟨_,rfl⟩,q⟩
end
end L2
namespace VD
open PySem PySem.Spec PyProof PyProof.Rows L2 PySem.W
section
variable {X:Cx}{a b e:Expr}{fa fb:FE}
def dIdx:D->D->Option D
 | .lst ds,x=>if zaS x=true/\ds.all zaS=true then(ds.findIdx? fun z=>decide (z=x)).map fun i=>.int i else none
 | _,_=>none
theorem zmM {x d:D}(hx:zaS x=true)(h0:zaS d=true):eqV (dV d) (dV x)=decide (d=x):=by
 rw[Bool.eq_iff_iff,decide_eq_true_eq];cases d <;> first | (cases h0;done) | (cases x <;> first | (cases hx;done) | (constructor <;> intro h <;> simp_all [eqV,dV]))
theorem zmN {x:D}{ds:List D}(hx:zaS x=true)(hd:ds.all zaS=true):(ds.map dV).findIdx? (fun z=>eqV z (dV x))=ds.findIdx? fun z=>decide (z=x):=by
 induction ds with
 | nil=>rfl
 | cons d ds ih=>
   rw[List.all_cons,Bool.and_eq_true] at hd;rw[List.map_cons,List.findIdx?_cons,List.findIdx?_cons,ih hd.2,zmM hx hd.1]
theorem zoF {o:Expr}{apos cpos:Pos}(ho:VE X o fa)(h:VE X e fb)
 (hbase:attributeBase o "index" X.env (eval o X.env)=eval o X.env:=by rfl)
 (hfew:((backTo cpos (starEach [e] X.env)).all (fun x=>!x.1)&&(backToKw cpos (keywordEach [] X.env)).all (fun x=>x.1.isSome)
  && decide ([e].length+([]:List Keyword).length+(if([]:List Keyword).isEmpty then 0 else 1)<30))=true:=by rfl)
 (hline:(apos.endLine == cpos.line)=true:=by rfl) (hs:starEach [e] X.env=(false,eval e X.env)::starEach [] X.env:=by rfl):VE X (.Call (.Attribute o "index" apos) [e] [] cpos) (e2 dIdx fa fb):=by
 obtain⟨ta,pa,ga⟩:=ho;obtain⟨tb,pb,gb⟩:=h;refine⟨_,zlR PySem.F.plainAttrs_list PySem.F.slot_list_index PySem.F.type_list_index zkH pa (zbb pb zco hs) hbase hfew hline hs rfl,fun Hz Jz O ρ σ H J d Q s e w=>?_⟩;obtain⟨x,ex,e⟩:=bind_some e;obtain⟨y,ey,e⟩:=bind_some e;refine ga Hz Jz O ρ σ H J x _ s ex fun v H1 J1 u1 r1=>?_
 cases x with
 | lst ds=>
   cases r1 with | @lst p vs _ h1' j rl=>
   refine⟨.inl ⟨rfl,vs,.inl (.inl h1')⟩,?_⟩;refine gb Hz Jz O ρ σ H1 J1 y _ (s.up u1) ey fun v2 H2 J2 u2 r2=>?_
   by_cases hc:zaS y=true/\ds.all zaS=true
   ·have e:(if zaS y=true/\ds.all zaS=true then(ds.findIdx? fun z=>decide (z=y)).map fun i=>D.int i else none)=some d:=e
    rw[if_pos hc] at e;cases hi:ds.findIdx? fun z=>decide (z=y) with
    | none=>rw[hi] at e;cases e
    | some i=>
      rw[hi] at e;cases e;cases Rp.keep u2.keep (.lst h1' j rl) with | @lst _ vs' _ h2' j' rl'=>
      have e1:=r2.flat (zej hc.1)
      have e2:=rl'.flat (zcL hc.2)
      refine⟨p,vs',v2,i,rfl,rfl,.inl (.inl h2'),?_,by rw[e2];exact zfZ (zcL hc.2),by rw[e1,e2,zmN hc.1 hc.2,hi],w _ H2 J2 (u1.trans u2) (.int _)⟩;rw[e1];have h0:=hc.1;cases y <;> first | rfl | cases h0
   ·have e:(if zaS y=true/\ds.all zaS=true then(ds.findIdx? fun z=>decide (z=y)).map fun i=>D.int i else none)=some d:=e
    rw[if_neg hc] at e;cases e
 | _=>cases e
end
end VD
namespace HT
open PySem PySem.Spec PyProof PyProof.Rows
section
variable {prog:Program}{w:World}{A:Around}{E:Value->Shared->Prop}{s:Shared}
theorem zdF {sl:Addr}{t:Tok}{Q:Int×Int×Nat->Shared->Prop}(hs:s.heap.IsSliceOf sl .none .none (.int (-1) t))(h:Q (1,-1,2) s):wpAny (model prog w) A (Builtin.Slice.sliceApplied (.ref sl) (pure ((2:Nat):Int))) Q E s:=by
 obtain⟨os,hos,hcs,hds⟩:=id hs;unfold Builtin.Slice.sliceApplied Builtin.Slice.sliceFields;refine wpAny_bind (wpAny_bind (wpAny_field hos hds (x:=.none) rfl (wpAny_bind (wpAny_field hos hds (x:=.none) rfl (wpAny_bind (wpAny_field hos hds (x:=.int (-1) t) rfl (wpAny_pure ?_)))))));refine wpAny_bind (slicePart_int ?_);show wpAny _ _ (if((-1:Int) == 0)=true then _ else _) _ _ s
 rw[if_neg (by decide)];refine wpAny_bind (slicePart_none (wpAny_bind (slicePart_none (wpAny_bind (wpAny_pure ?_)))));exact wpAny_pure h
theorem getItem_tuple_rev2 {t sl:Addr}{u v:Value}{tk:Tok}{Q:Value->Shared->Prop}(ht:IsTup s.heap t #[u,v])(hs:s.heap.IsSliceOf sl .none .none (.int (-1) tk))
 (h:Q (.ref s.heap.objs.size) {s with heap:=s.heap.push {cls:=.type "tuple",data:=.seq #[v,u]}}):wpAny (model prog w) A (getItem (.ref t) (.ref sl)) Q E s:=by
 obtain⟨os,hos,hcs,hds⟩:=id hs;have hTs:s.TypeIs (.ref sl) "slice":=⟨os,hos,hcs⟩
 have htake:sizeOk (.seq #[v,u]):=by show 2<=sizeLine;decide
 unfold getItem;try with_reducible refine wpAny_holding ?_
 first | refine wpAny_bind (wpAny_pure ?_) | skip
 refine wpAny_bind (wpAny_sequenceKey ht.typeIs (by decide) ?_);refine wpAny_bind (wpAny_callSpecial?_slot (name:=Str.ofString "__getitem__") ht.typeIs PyProof.Rows.slot_tuple_getitem
  (wpAny_call_entry PyProof.Rows.slot_tuple_getitem ht.typeIs entry_tuple_getitem ?_ (args_tuple_getitem _ _)))
 show wpAny _ _ (Builtin.Tuple.tupleItemsOf (.ref t) >>= _) _ _ s
 refine wpAny_bind (tupleItemsOf_ ht ?_);refine wpAny_bind (wpAny_typeOf hTs ?_);rw[if_pos (by decide)];refine wpAny_bind (zdF hs ?_);show wpAny _ _ (if((1:Int) == 0&&(-1:Int) == 1&&(2:Nat) == 2)=true then _ else _) _ _ s
 rw[if_neg (by decide)];show wpAny _ _ (Builtin.Tuple.tupleExact #[v,u] >>= _) _ _ s
 first
  | exact wpAny_bind (m:=Builtin.Tuple.tupleExact _) (wpAny_newObj_type (wpAny_pure ⟨_,rfl,wpAny_pure h⟩) htake)
  | exact wpAny_bind (m:=Builtin.Tuple.tupleExact _) (wpAny_newObj_type (wpAny_bind (wpAny_pure (wpAny_pure ⟨_,rfl,wpAny_pure h⟩))) htake)
  | exact wpAny_bind (wpAny_bind (m:=Builtin.Tuple.tupleExact _) (wpAny_newObj_type (wpAny_pure (wpAny_pure ⟨_,rfl,wpAny_pure h⟩)) htake))
  | exact wpAny_bind (wpAny_bind (m:=Builtin.Tuple.tupleExact _) (wpAny_newObj_type (wpAny_pure ⟨_,rfl,wpAny_pure h⟩) htake))
end
end HT
namespace L2
open PySem PySem.Spec PyProof PyProof.Rows
section
variable {X:Cx}
def zpC (K:W.Frag)(te:TE):TE:=fun σ H Q=>te σ H fun x H1=>∃a y z,x=.ref a/\SqT K H1 a [y,z]/\∀p,H1 p=none->Q (.ref p) (upd H1 p (.tup [z,y]))
theorem zmO {e:Expr}{te:TE}{p2 p3 p4 pos:Pos}{j:Nat}(he:PE X e te):PE X (.Subscript e (.Slice none none (some (.UnaryOp .USub (.Constant (.int 1) j p3) p4)) p2) pos) (zpC X.K te):=by
 intro pins s σ H Q I h;refine Subscript_ (thn (he pins s σ H _ I h) fun v s1 ⟨x,H1,I1,r1,q1⟩ =>?_);obtain⟨a,y,z,rfl,hx,q⟩:=q1;cases r1;refine wpAny_Slice ?_;rw[evalPart_none];refine wpAny_pure ?_;refine wpAny_pure ?_;rw[evalPart_some];refine UnaryOp_ (wpAny_Constant_int ?_);refine PyProof.Rows.neg_int ?_;have I4:Inv X pins σ H1 {s1 with heap:=s1.heap.push {cls:=.type "slice",data:=.fields #[.none,.none,.int (-1) (s1.toks+1)]},toks:=s1.toks+1+1}:=I1.kept (t':=s1.toks+1+1) fun b ob q=>Heap.get?_push_of_some _ q
 obtain⟨its4,r4,ht4,hz4⟩:=I4.tuple hx;obtain⟨u,w,rfl,ru,rw'⟩:=Vals.two r4;refine tail_any (ops:=[.ref a,.ref s1.heap.objs.size]) ht4.typeIs PyProof.Rows.slot_tuple_getitem.lookup ?_ (by with_unfolding_all rfl);refine HT.getItem_tuple_rev2 ht4 (Heap.IsSliceOf.new s1.heap .none .none (.int (-1) (s1.toks+1))) ?_;refine⟨.ref _,_,I4.laid (t':=s1.toks+1+1) (o:=.tup [z,y]) (fun b ob q=>Heap.get?_push_of_some _ q) (Nat.le_refl _) ?_,rfl,q _ (I4.hok.fresh (Nat.le_refl _))⟩;exact⟨by show 2<=sizeLine;decide,[w,u],.cons rw' (.cons ru .nil),IsTup.new _ _⟩
end
end L2
namespace VD
open PySem PySem.Spec PyProof PyProof.Rows L2 PySem.W
section
variable {X:Cx}{a:Expr}{fa:FE}{p2 pos:Pos}
def zmP:D->Option D
 | .tup [x,y]=>some (.tup [y,x])
 | _=>none
theorem zmQ {p3 p4:Pos}{j:Nat}(ha:VW X a fa):VE X (.Subscript a (.Slice none none (some (.UnaryOp .USub (.Constant (.int 1) j p3) p4)) p2) pos) (e1 zmP fa):=by
 obtain⟨t,p,g⟩:=ha;refine⟨_,zmO p,?_⟩;intro Hz Jz O ρ σ H J d Q s e w;obtain⟨x,e1,e⟩:=bind_some e;refine g Hz Jz O ρ σ H J x _ s e1 fun v H1 J1 u1 r1=>?_
 match x,e with
 | .tup [x,y],e=>
   cases e;obtain⟨p,vs,rfl,h1,rl⟩:=r1.tup;cases rl with | @cons v1 _ _ _ r1 rl=>
   cases rl with | @cons v2 _ _ _ r2 rl=>
   cases rl;refine⟨p,_,_,rfl,h1,fun c hc=>?_⟩;have un:=Up.new u1.ja hc (.tup [v2,v1])
   exact w _ _ _ (u1.trans un) (.tup (SqT.of zai) (RpL.keep un.keep (.cons r2 (.cons r1 .nil))))
end
end VD
namespace VD
open PySem PySem.Spec PyProof PyProof.Rows L2
def ix2C (xs:List D)(k:D):Option D:=(dInt k).bind fun k=>(atI xs k).bind fun d=>match d with | .lst es=>some (.lst es) | _=>none
def zmR (xs:List D)(es:List D)(k:D):Option (List D):=(dInt k).bind fun k=>(ixN xs.length k).bind fun j=>match xs[j]? with
 | some (.lst _)=>some (xs.set j (.lst es))
 | _=>none
def zkI (xs:List D)(k d:D):Option (List D):=(dInt k).bind fun k=>(ixN xs.length k).bind fun j=>match xs[j]? with
 | some (.lst es)=>if es.length<lim then some (xs.set j (.lst (es++[d]))) else none
 | _=>none
section
variable {ρ:En}{xs:List D}{i:Nat}{fk fv:FE}{f:FA}
theorem zmS (h:ownD (ρ[i]?)=some (2,.lst xs)):Step (zmp i fk f) ρ ((f ρ).bind fun es=>(fk ρ).bind fun k=>zmR xs es k) fun ys=>setO ρ i (.lst ys):=fun d z=>by
 obtain⟨es,e0,z⟩:=zac z;obtain⟨k,e1,z⟩:=zac z;obtain⟨kk,e2,z⟩:=zac z;obtain⟨j,e3,z⟩:=zac z;unfold zmp;rw[e0,zOB,e1,zOB,e2,zOB,h];show(ixN xs.length kk).bind _=_
 rw[e3,zOB];split at z
 ·rename_i q;cases z;first | rw[q] | rfl
 ·cases z
theorem zmT (h:ownD (ρ[i]?)=some (2,.lst xs)):Step (zmn i fk fv) ρ ((fk ρ).bind fun k=>(fv ρ).bind fun d=>zkI xs k d) fun ys=>setO ρ i (.lst ys):=fun d z=>by
 obtain⟨k,e1,z⟩:=zac z;obtain⟨x,e0,z⟩:=zac z;obtain⟨kk,e2,z⟩:=zac z;obtain⟨j,e3,z⟩:=zac z;unfold zmn;rw[e1,zOB,e2,zOB,e0,zOB,h];show(ixN xs.length kk).bind _=_
 rw[e3,zOB];split at z
 ·rename_i es q
  try rw[q]
  split at z
  ·rename_i hl;cases z;exact if_pos hl
  ·cases z
 ·cases z
end
section
variable {S:Type}{emb:S->En}{ρ:En}{s:S}{f:FX}{x:Option (D×S)}
end
def zkJ (x k v:D):Option D:=match x with
 | .lst xs=>(zor xs k v).bind fun ys=>some (.lst ys)
 | _=>none
theorem zhn {i:Nat}{ρ:En}{fk f:FE}{x:D}(h:ownD (ρ[i]?)=some (1,x)):Step (gPutL i fk (xE f)) ρ ((f ρ).bind fun v=>(fk ρ).bind fun k=>zkJ x k v) fun y=>setO ρ i y:=fun d z=>by
 obtain⟨v,e0,z1⟩:=zac z;obtain⟨kk,e1,z2⟩:=zac z1;cases x <;> try cases z2
 rename_i xs
 obtain⟨ys,e2,z3⟩:=zac z2;cases z3;exact zmx h ys (by rw[e0,zOB,e1];exact e2)
def newD {S:Type}(q:RV×S):Option (D×S):=match q.1 with
 | .new 1 x=>some (x,q.2)
 | _=>none
theorem zjt {S:Type}{emb:S->En}{ρ:En}{i:Nat}{fr:FR}{xr:Option (RV×S)}(h:EvR fr ρ xr emb)(hi:∀s,okS i (emb s)=true):Step (gOwnR i fr) ρ (xr.bind newD) fun q=>(emb q.2).set i (.own 1 q.1):=fun q z=>by
 obtain⟨⟨r,s1⟩,e0,z⟩:=zac z;unfold newD at z;split at z
 ·rename_i x hr
  cases z;have hr:r=.new 1 x:=hr
  subst hr;unfold gOwnR;rw[h _ e0,zOB];exact if_pos (zen (hi s1))
 ·cases z
def zpD (n:Int)(d:D):Option (List D):=(dLst d).bind fun ds=>zoC n ds
end VD
namespace VD
open PySem PySem.Spec PyProof PyProof.Rows L2 PySem.W
def un5:D->Option (D×D×D×D×D)
 | .tup [a,b,c,d,e]=>some (a,b,c,d,e)
 | _=>none
theorem zkK {d:D}{y:D×D×D×D×D}(h:un5 d=some y):d=.tup [y.1,y.2.1,y.2.2.1,y.2.2.2.1,y.2.2.2.2]:=by
 unfold un5 at h;split at h
 ·cases h;rfl
 ·cases h
theorem tg_5 {ρ:En}{d:D}{i j l m n:Nat}(h1:okS i ρ=true)(h2:∀x,okS j (ρ.set i (.val x))=true)(h3:∀x y,okS l ((ρ.set i (.val x)).set j (.val y))=true)(h4:∀x y z,okS m (((ρ.set i (.val x)).set j (.val y)).set l (.val z))=true)(h5:∀x y z w,okS n ((((ρ.set i (.val x)).set j (.val y)).set l (.val z)).set m (.val w))=true):Tg (gT 5 (gCons' (gN i) (gCons' (gN j) (gCons' (gN l) (gCons' (gN m) (gCons' (gN n) gNil')))))) d ρ (un5 d) fun y=>((((ρ.set i (.val y.1)).set j (.val y.2.1)).set l (.val y.2.2.1)).set m (.val y.2.2.2.1)).set n (.val y.2.2.2.2):=fun y e=>by
 rw[zkK e];show((gN i y.1 ρ).bind fun ρ1=>(gN j y.2.1 ρ1).bind fun ρ2=>(gN l y.2.2.1 ρ2).bind fun ρ3=>(gN m y.2.2.2.1 ρ3).bind fun ρ4=>(gN n y.2.2.2.2 ρ4).bind fun ρ5=>gNil' [] ρ5)=_
 rw[zep h1,zOB,zep (h2 _),zOB,zep (h3 _ _),zOB,zep (h4 _ _ _),zOB,zep (h5 _ _ _ _)];rfl
theorem zju {S:Type}{ρ:En}{fi:FA}{b:FS}{emb:S->En}{s0:S}{i j l m n:Nat}{step:S->D×D×D×D×D->Option S}(h0:emb s0=ρ)(hi:∀s,okS i (emb s)=true)(hj:∀s x,okS j ((emb s).set i (.val x))=true)(hl:∀s x y,okS l (((emb s).set i (.val x)).set j (.val y))=true)(hm:∀s x y z,okS m ((((emb s).set i (.val x)).set j (.val y)).set l (.val z))=true)(hn:∀s x y z w,okS n (((((emb s).set i (.val x)).set j (.val y)).set l (.val z)).set m (.val w))=true)
 {emb2:S->D×D×D×D×D->En}(he:∀s y,(((((emb s).set i (.val y.1)).set j (.val y.2.1)).set l (.val y.2.2.1)).set m (.val y.2.2.2.1)).set n (.val y.2.2.2.2)=emb2 s y) (hb:∀s y,EvS kL (fun s=>some (emb s)) b (emb2 s y) (step s y)) :
 Step (gFor fi (gT 5 (gCons' (gN i) (gCons' (gN j) (gCons' (gN l) (gCons' (gN m) (gCons' (gN n) gNil')))))) b) ρ ((fi ρ).bind (zaN (fun s d=>(un5 d).bind (step s)) s0)) emb:=
 zi8 (x:=un5) (step:=step) h0 (fun s d=>tg_5 (hi s) (hj s) (hl s) (hm s) (hn s)) fun s y=>by rw[he];exact hb s y
def appD (x v:D):Option D:=match x with
 | .lst xs=>(appL xs v).bind fun ys=>some (.lst ys)
 | _=>none
theorem zmU {i:Nat}{ρ:En}{f:FE}{x:D}(h:ownD (ρ[i]?)=some (1,x)):Step (gApp i f) ρ ((f ρ).bind fun v=>appD x v) fun y=>setO ρ i y:=fun d z=>by
 obtain⟨v,e0,z1⟩:=zac z;cases x <;> try cases z1
 rename_i xs
 obtain⟨ys,e2,z3⟩:=zac z1;cases z3;exact zeo h ys (by rw[e0,zOB];exact e2)
def zeP:RV×List D->Option (List D)
 | (.new 1 (.lst ds),_)=>some ds
 | _=>none
def zb2:RV×List D->Option D
 | (.told d,_)=>some d
 | _=>none
def zoG (n:Nat)(F:List D->Option (RV×List D))(fl:FA):FA:=fun ρ=>(fl ρ).bind fun l=>if l.length=n then(F l).bind zeP else none
def zoH (F:List D->Option (RV×List D))(f0:FA)(f1:FE):FE:=fun ρ=>(f0 ρ).bind fun l=>(f1 ρ).bind fun d=>(F [.lst l,d]).bind zb2
section
variable {X:Cx}{a b e e1':Expr}{es:List Expr}{fa fb:FE}{fl:FA}{p pos:Pos}{Pc:Hp->Prop}
theorem zdi {k k':Nat}{x:Str}{ps:List Str}{ks:List (Option Nat)}{F:List D->Option (RV×List D)}(C:Cal X.prog X.w X.K X.mg X.base k x ps (pcS Pc (spG X.K ks F)))(hp:Prs X Pc)(hr:Room k' X.A)(ha:VA X (e::es) fl)(hn:ks.all (·.isNone)=true:=by rfl)(hk:k<=k':=by decide)(hg:Gl X x:=by rfl)(hdb:(x == ("__debug__" : Str))=false:=by decide)
 (he:starEach (e::es) X.env=(false,eval e X.env)::starEach es X.env:=by rfl) (hpl:(backTo pos (starEach es X.env)).any (·.1)=false:=by rfl):VN X (.Call (.Name x p) (e::es) [] pos) (zoG ks.length F fl):=by
 obtain⟨t,pa,g⟩:=ha;refine⟨_,pcP C hp hr pa hk hg hdb he hpl,?_⟩;intro Hz Jz O ρ σ H J ds Q s e w;obtain⟨l,e1,e⟩:=bind_some e;by_cases hl:l.length=ks.length
 ·have e:(if l.length=ks.length then(F l).bind zeP else none)=some ds:=e
  rw[if_pos hl] at e;obtain⟨⟨r,es'⟩,e2,e⟩:=bind_some e;refine g Hz Jz O ρ σ H J l _ s e1 fun vs H1 J1 u1 r1=>?_
  refine⟨J1,l,r,es',_,u1.ja,by rw[List.append_nil];exact ArgsG.plain r1 hl hn,e2,fun v H2 J2 fp' pg=>?_⟩;have u:Up H1 J1 H2 J2:=⟨fun b o h=>pg.hs b o (fun _=>by simp) h,pg.jj,pg.jn,pg.ja⟩
  have res:=pg.res
  match r,e,res with
  | .new 1 (.lst ds'),e,res=>
    cases e;obtain⟨B,ruB,ndB,hB,_⟩:=res;cases ruB with | @lst _ q vs' _ A h r'=>
    obtain⟨r2,rfl⟩:=RpUL.zero r';have hq:=hB q (by simp)
    exact w q vs' H2 J2 (u1.trans u) (u1.same.free hq.2) hq.1 h r2
 ·have e:(if l.length=ks.length then(F l).bind zeP else none)=some ds:=e
  rw[if_neg hl] at e;cases e
theorem zd6 {f0:FA}{f1:FE}{k k':Nat}{x:Str}{ps:List Str}{F:List D->Option (RV×List D)}(C:Cal X.prog X.w X.K X.mg X.base k x ps (spG X.K [some 1,none] F))(hr:Room k' X.A)(h0:VN X e f0)(h1:VE X e1' f1)(hk:k<=k':=by decide)(hg:Gl X x:=by rfl)(hdb:(x == ("__debug__" : Str))=false:=by decide)
 (he:starEach [e,e1'] X.env=(false,eval e X.env)::starEach [e1'] X.env:=by rfl) (he1:starEach [e1'] X.env=(false,eval e1' X.env)::starEach [] X.env:=by rfl) (hpl:(backTo pos (starEach [e1'] X.env)).any (·.1)=false:=by rfl):VE X (.Call (.Name x p) [e,e1'] [] pos) (zoH F f0 f1):=by
 obtain⟨t0,p0,g0⟩:=h0;obtain⟨t1,p1,g1⟩:=h1;refine⟨_,pc C hr (zbb p0 (zbb p1 zco he1) he) hk hg hdb he hpl,?_⟩;intro Hz Jz O ρ σ H J d Q s e w;obtain⟨l,e1,e⟩:=bind_some e;obtain⟨d1,e2,e⟩:=bind_some e;obtain⟨⟨r,es'⟩,e3,e⟩:=bind_some e;refine g0 Hz Jz O ρ σ H J l _ s e1 fun q vs H1 J1 u1 hq nq h1q r1=>?_
 refine g1 Hz Jz O ρ σ H1 J1 d1 _ (s.up u1) e2 fun v1 H2 J2 u2 r2=>?_
 have h2q:H2 q=some (.lst vs):=u2.same q _ h1q
 have nq2:¬J2 q:=fun j=>by
  rcases u2.jn q j with j | j
  ·exact nq j
  ·rw[h1q] at j;cases j
 refine⟨J2,[.lst l,d1],r,es',fun i=>if i=0 then[q] else[],u2.ja,?_,e3,fun v H3 J3 fp' pg=>?_⟩
 ·refine⟨rfl,rfl,fun i=>?_,fun i=>by show(if i=0 then[q] else[]).Nodup;split <;> simp,fun i b hb=>?_,fun i j hij b hb hb2=>?_⟩
  ·match i with
   | 0=>exact⟨_,_,rfl,rfl,.lst h2q (RpUL.of (RpL.keep u2.keep r1))⟩
   | 1=>exact⟨_,_,rfl,rfl,r2,rfl⟩
   | i+2=>trivial
  ·have hb:b∈(if i=0 then[q] else[]):=hb
   split at hb
   ·rw[List.mem_singleton.mp hb];exact nq2
   ·cases hb
  ·have hb:b∈(if i=0 then[q] else[]):=hb
   have hb2:b∈(if j=0 then[q] else[]):=hb2
   split at hb
   ·split at hb2
    ·omega
    ·cases hb2
   ·cases hb
 ·have res:=pg.res
  have u:Up H J H3 J3:=by
   refine⟨fun b o h=>?_,fun b j=>pg.jj b (u2.jj b (u1.jj b j)),fun b j=>?_,pg.ja⟩
   ·refine pg.hs b o (fun i hb=>?_) (u2.same b o (u1.same b o h));have hb:b∈(if i=0 then[q] else[]):=hb
    split at hb
    ·rw[List.mem_singleton.mp hb,hq] at h;cases h
    ·cases hb
   ·rcases pg.jn b j with j | j
    ·exact(u1.trans u2).jn b j
    ·exact .inr ((u1.trans u2).same.free j)
  match r,e,res with
  | .told d',e,res=>cases e;exact w v H3 J3 u res
end
def zpE:SV->SV
 | .own _ d=>.val d
 | .par _ d=>.val d
 | s=>s
def zjv (ρ:En):En:=ρ.map zpE
theorem ST.view {K:W.Frag}{Hz H:Hp}{Jz J:Addr->Prop}{O:Pr}{ρ:En}{σ:L2.St}(s:ST K Hz Jz O ρ σ H J):∃Jv:Addr->Prop,(∀a,J a->Jv a)/\ST K H Jv Pr.no (zjv ρ) σ H Jv:=by
 obtain⟨fp,ow⟩:=s.ow;have kp:Keep K H J H (fun b=>J b\/∃i,b∈fp i):=⟨fun _ h=>.inl h,fun _ _ _ h=>h,fun _ _ h=>h⟩
 refine⟨fun b=>J b\/∃i,b∈fp i,fun _ h=>.inl h,⟨fun _ _ _ h=>h,fun _ h=>h,fun _ h=>.inl h,fun a h=>?_,by unfold zjv;rw[List.length_map];exact s.len,fun i d h=>?_,⟨fun _=>[],⟨fun i=>?_,fun _=>.nil,fun _ b hb=>(by cases hb),fun _ _ _ b hb=>(by cases hb)⟩⟩,fun q hq=>(by cases hq),fun _ h=>h⟩⟩
 ·rcases h with h | ⟨i,h⟩
  ·exact s.ja a h
  ·obtain⟨o,e,_⟩:=(ow.at' i).ru a h;rw[e];simp
 ·unfold zjv at h;rw[List.getElem?_map] at h;cases q:ρ[i]? with
  | none=>rw[q] at h;cases h
  | some z=>
    rw[q] at h;have a:=ow.at' i
    rw[q] at a;match z,h,a with
    | .val d',h,_=>
      cases h;obtain⟨v,e1,r⟩:=s.vl i _ q;exact⟨v,e1,Rp.keep kp r⟩
    | .own n d',h,a=>
      cases h;obtain⟨⟨v,e1,r⟩,_⟩:=a;exact⟨v,e1,RpU.rp (fun _ h=>.inl h) (fun b hb=>.inr ⟨i,hb⟩) r⟩
    | .par n d',h,a=>
      cases h;obtain⟨⟨v,e1,r⟩,_⟩:=a;exact⟨_,e1,RpU.rp (fun _ h=>.inl h) (fun b hb=>.inr ⟨i,hb⟩) r⟩
 ·unfold zjv;rw[List.getElem?_map];cases q:ρ[i]? with
  | none=>rfl
  | some z=>cases z <;> rfl
theorem zmV {X:Cx}{e:Expr}{f:FT}(h:VT X e f):VT X e (fun ρ=>f (zjv ρ)):=by
 obtain⟨t,p,g⟩:=h;refine⟨t,p,fun Hz Jz O ρ σ H J b Q s e w=>?_⟩;obtain⟨Jv,hj,sv⟩:=s.view;refine g H Jv Pr.no _ σ H Jv b Q sv e fun H' J' u=>w H' J ⟨u.same,fun _ h=>h,fun _ h=>.inl h,fun a h=>?_⟩
 have:=s.ja a h
 cases q:H a with
 | none=>exact absurd q this
 | some o=>rw[u.same a o q];simp
end VD
namespace GB
open PySem PySem.Spec PyProof PyProof.Rows L2 VD GM
def Po {A:Type}(o:Option A)(R:A->Prop):Prop:=∃a,o=some a/\R a
section
variable {A B:Type}{o:Option A}{k:A->Option B}{P:A->Prop}{R:B->Prop}{a:A}
theorem sx (e:o=some a)(h:Po (k a) R):Po (o.bind k) R:=by rw[e];exact h
theorem asc {C:Type}{g:B->Option C}{R:C->Prop}(h:Po (o.bind fun x=>(k x).bind g) R):Po ((o.bind k).bind g) R:=by
 cases o with
 | none=>exact h
 | some x=>exact h
theorem Po.bind (h:Po o P)(hk:∀a,P a->Po (k a) R):Po (o.bind k) R:=by
 obtain⟨a,e,p⟩:=h;exact sx e (hk a p)
end
theorem zmW {S A:Type}{f:S->D->Option S}{ds:List D}{s0:S}{k:S->Option A}{R:A->Prop}(I:Nat->S->Prop)(h0:I 0 s0)(hs:∀i s d,ds[i]?=some d->I i s->Po (f s d) (I (i+1)))(hk:∀s,I ds.length s->Po (k s) R):Po ((zaN f s0 ds).bind k) R:=by
 have key:∀(ds:List D) (b:Nat) (s:S),(∀i s d,ds[i]?=some d->I (b+i) s->Po (f s d) (I (b+i+1)))->I b s->Po (zaN f s ds) (I (b+ds.length)):=by
  intro ds;induction ds with
  | nil=>intro b s _ h;exact⟨s,rfl,h⟩
  | cons d ds ih=>
    intro b s hf h;obtain⟨s1,e1,h1⟩:=hf 0 s d rfl h;show Po ((f s d).bind fun s=>zaN f s ds) _
    refine sx e1 ?_;rw[List.length_cons,show b+(ds.length+1)=b+1+ds.length by omega];exact ih (b+1) s1 (fun i s d hd hI=>by
     rw[show b+1+i=b+(i+1) by omega] at hI⊢;exact hf (i+1) s d hd hI) h1
 have:=key ds 0 s0 (fun i s d hd hI=>by rw[Nat.zero_add] at hI⊢;exact hs i s d hd hI) h0
 rw[Nat.zero_add] at this;exact this.bind hk
structure Itm where
 nm:Str
 wd:Str
 rk:Int
 bx:Nat->D
instance:Inhabited Itm:=⟨⟨"","",0,fun _=>.non⟩⟩
def rowD (l:List Itm):D:=let x:=(l.getLast?.getD default);.tup [.int ((l.length:Int) - 1),.str x.nm,x.bx (l.length - 1),.str x.wd,.int x.rk]
def rwsD (L:List (List Itm)):D:=.lst (L.map rowD)
inductive Lines:List Itm->List (List Itm)->Prop
 | nil {p:List Itm}:Lines p []
 | cons {p:List Itm}{L:List (List Itm)}(c:Nat) (x:Itm) (hc:c<=p.length) (h4:c<=4) (t:Lines (p.take c++[x]) L):Lines p ((p.take c++[x])::L)
def zdG (p:List Itm):List (List Itm)->List Itm
 | []=>p
 | l::L=>zdG l L
theorem Lines.snoc {c:Nat}{x:Itm}:∀{p:List Itm}{L:List (List Itm)},Lines p L->c<=(zdG p L).length->c<=4->Lines p (L++[(zdG p L).take c++[x]])
 | _,_,.nil,hc,h4=>.cons c x hc h4 .nil
 | _,_,.cons c' x' hc' h4' t,hc,h4=>.cons c' x' hc' h4' (Lines.snoc t hc h4)
theorem zdH {l:List Itm}:∀{p:List Itm}{L:List (List Itm)},zdG p (L++[l])=l
 | _,[]=>rfl
 | _,_::L=>zdH (L:=L)
theorem Lines.mem:∀{p:List Itm}{L:List (List Itm)},Lines p L->∀l∈L,l.length<=5/\l≠[]
 | _,_,.nil,_,h=>by cases h
 | _,_,.cons c x hc h4 t,l,h=>by
   rcases List.mem_cons.mp h with rfl | h
   ·exact⟨by simp;omega,by simp⟩
   ·exact t.mem l h
def zaB (l:List Itm):Itm:=l.getLast?.getD default
def part (x:Itm)(dp:Nat)(inn:List D):D:=.tup [.str x.nm,x.bx dp,.str x.wd,.int x.rk,.non,.tup inn]
def fo:List (List Itm)->Nat->List D
 | [],_=>[]
 | l::S,d=>if d+1=l.length then part (zaB l) d (fo S (d+1))::fo S d else if d=l.length then[] else fo S d
def ot (fr:Str->Bool):Nat->List D->List D
 | 0,_=>[]
 | n+1,ds=>ds.flatMap fun d=>match d with
   | .tup [_,_,.str w,_,_,.tup inn]=>if fr w then d::ot fr n inn else[]
   | _=>[]
def al (fr:Str->Bool)(p:List Itm)(d:Nat):Bool:=(p.take d).all fun x=>fr x.wd
def sm (a:Nat->Bool)(G:Nat->List D):Nat->List D
 | 0=>[]
 | d+1=>(if a d then G d else[])++sm a G d
theorem zjw {a:Nat->Bool}{G:Nat->List D}{m:Nat}(h:∀d,m<=d->G d = []):∀k,sm a G (m+k)=sm a G m
 | 0=>rfl
 | k+1=>by
   show(if a (m+k) then G (m+k) else[])++sm a G (m+k)=_
   rw[h _ (by omega),zjw h k];simp
theorem zho {a b:Nat->Bool}{G K:Nat->List D}:∀{m:Nat},(∀d,d<m->a d=b d/\G d=K d)->sm a G m=sm b K m
 | 0,_=>rfl
 | m+1,h=>by
   show(if a m then G m else[])++sm a G m=(if b m then K m else[])++sm b K m
   rw[(h m (by omega)).1,(h m (by omega)).2,zho fun d hd=>h d (by omega)]
theorem zjx:∀{p:List Itm}{S:List (List Itm)},Lines p S->∀d,p.length<d->fo S d = []
 | _,_,.nil,_,_=>rfl
 | p,_,.cons (L:=S) c x hc h4 t,d,hd=>by
   have hl:(p.take c++[x]).length=c+1:=by simp;omega
   show(if d+1=(p.take c++[x]).length then _ else if d=(p.take c++[x]).length then[] else fo S d) = []
   rw[hl,if_neg (by omega)];by_cases e:d=c+1
   ·rw[if_pos e]
   ·rw[if_neg e];exact zjx t d (by rw[hl];omega)
def nr:D->Int×Str
 | .tup [.str n,_,_,.int r,_,_]=>(r,n)
 | _=>(0,"")
def opn (fr:Str->Bool)(S:List (List Itm)):List (Int×Str):=(S.filter fun l=>l.all fun x=>fr x.wd).map fun l=>((zaB l).rk,(zaB l).nm)
theorem zdI {fr:Str->Bool}{n:Nat}{x:Itm}{dp:Nat}{inn ds:List D}:ot fr (n+1) (part x dp inn::ds)=(if fr x.wd then part x dp inn::ot fr n inn else[])++ot fr (n+1) ds:=by
 show(List.flatMap _ (_::ds))=_
 rw[List.flatMap_cons];rfl
theorem zlu (fr:Str->Bool):∀{p:List Itm}{S:List (List Itm)},Lines p S->opn fr S=(sm (al fr p) (fun d=>ot fr (8 - d) (fo S d)) (p.length+1)).map nr
 | p,_,.nil=>by
   have:∀m,sm (al fr p) (fun d=>ot fr (8 - d) (fo [] d)) m = []:=fun m=>by
    induction m with
    | zero=>rfl
    | succ m ih=>
      show(if al fr p m then ot fr (8 - m) [] else[])++sm _ _ m = []
      rw[ih];have:ot fr (8 - m) [] = []:=by cases 8 - m <;> rfl
      rw[this];simp
   rw[this];rfl
 | p,_,.cons (L:=S) c x hc h4 t=>by
   have hl:(p.take c++[x]).length=c+1:=by simp;omega
   have ih:=zlu fr t
   rw[hl] at ih;have f1:fo ((p.take c++[x])::S) c=part x c (fo S (c+1))::fo S c:=by
    show(if c+1=(p.take c++[x]).length then part (zaB (p.take c++[x])) c (fo S (c+1))::fo S c else _)=_
    rw[if_pos hl.symm];congr 1;simp[zaB]
   have f2:∀d,d<c->fo ((p.take c++[x])::S) d=fo S d:=fun d hd=>by
    show(if d+1=(p.take c++[x]).length then _ else if d=(p.take c++[x]).length then[] else fo S d)=_
    rw[hl,if_neg (by omega),if_neg (by omega)]
   have f3:∀d,c+1<=d->fo ((p.take c++[x])::S) d = []:=fun d hd=>by
    show(if d+1=(p.take c++[x]).length then _ else if d=(p.take c++[x]).length then[] else fo S d)=_
    rw[hl,if_neg (by omega)];by_cases e:d=c+1
    ·rw[if_pos e]
    ·rw[if_neg e];exact zjx t d (by rw[hl];omega)
   have o0:∀n,ot fr n [] = []:=fun n=>by cases n <;> rfl
   have e1:sm (al fr p) (fun d=>ot fr (8 - d) (fo ((p.take c++[x])::S) d)) (p.length+1)=sm (al fr p) (fun d=>ot fr (8 - d) (fo ((p.take c++[x])::S) d)) (c+1):=by
    have:=zjw (a:=al fr p) (G:=fun d=>ot fr (8 - d) (fo ((p.take c++[x])::S) d)) (m:=c+1) (fun d hd=>by show ot fr (8 - d) _ = [];rw[f3 d hd,o0]) (p.length - c)
    rw[show c+1+(p.length - c)=p.length+1 by omega] at this;exact this
   have a1:∀d,d<=c->al fr (p.take c++[x]) d=al fr p d:=fun d hd=>by
    unfold al;rw[List.take_append_of_le_length (by simp;omega),List.take_take,Nat.min_eq_left hd]
   have a2:al fr (p.take c++[x]) (c+1)=(al fr p c&&fr x.wd):=by
    unfold al;rw[List.take_of_length_le (Nat.le_of_eq hl)];simp
   have lower:sm (al fr (p.take c++[x])) (fun d=>ot fr (8 - d) (fo S d)) c=sm (al fr p) (fun d=>ot fr (8 - d) (fo ((p.take c++[x])::S) d)) c:=zho fun d hd=>⟨a1 d (by omega),by rw[f2 d hd]⟩
   have lhs:opn fr ((p.take c++[x])::S)=(if(al fr p c&&fr x.wd) then[(x.rk,x.nm)] else[])++opn fr S:=by
    unfold opn;rw[List.filter_cons];have:((p.take c++[x]).all fun x=>fr x.wd)=(al fr p c&&fr x.wd):=by unfold al;simp
    rw[this];cases(al fr p c&&fr x.wd) <;> simp[zaB]
   rw[lhs,ih,e1];show _=((if al fr p c then ot fr (8 - c) (fo ((p.take c++[x])::S) c) else[])++sm _ _ c).map nr
   have ihs:sm (al fr (p.take c++[x])) (fun d=>ot fr (8 - d) (fo S d)) (c+1+1)=(if(al fr p c&&fr x.wd) then ot fr (8 - (c+1)) (fo S (c+1)) else[])++((if al fr p c then ot fr (8 - c) (fo S c) else[])++sm (al fr (p.take c++[x])) (fun d=>ot fr (8 - d) (fo S d)) c):=by
    show(if al fr (p.take c++[x]) (c+1) then ot fr (8 - (c+1)) (fo S (c+1)) else[])++((if al fr (p.take c++[x]) c then ot fr (8 - c) (fo S c) else[])++sm (al fr (p.take c++[x])) (fun d=>ot fr (8 - d) (fo S d)) c)=_
    rw[a1 c (Nat.le_refl _),a2]
   rw[ihs,lower,f1,show 8 - c=(8 - (c+1))+1 by omega,zdI];cases al fr p c <;> cases fr x.wd <;> simp[nr,part]
theorem zca {fr:Str->Bool}{L:List (List Itm)}(t:Lines [] L):opn fr L=(ot fr 8 (fo L 0)).map nr:=by
 rw[zlu fr t];show((if al fr [] 0 then ot fr (8 - 0) (fo L 0) else[])++[]).map nr=_
 simp[al]
theorem zoI {fr:Str->Bool}:∀{n:Nat}{ds:List D},(ot fr n ds).length<=(ot (fun _=>true) n ds).length
 | 0,ds=>by simp[ot]
 | n+1,ds=>by
   induction ds with
   | nil=>simp[ot]
   | cons d ds ih=>
     show(List.flatMap _ (d::ds)).length<=(List.flatMap _ (d::ds)).length
     rw[List.flatMap_cons,List.flatMap_cons,List.length_append,List.length_append];have ih:(List.flatMap _ ds).length<=(List.flatMap _ ds).length:=ih
     refine Nat.add_le_add ?_ ih;split
     ·rename_i w _ _ inn
      cases fr w
      ·simp
      ·simpa using zoI (n:=n) (ds:=inn)
     ·simp
def Ok:Nat->List D->Prop
 | 0,ds=>ds = []
 | n+1,ds=>∀d∈ds,∃x dp inn,d=part x dp inn/\Ok n inn
theorem Ok.nil:∀{n:Nat},Ok n []
 | 0=>rfl
 | _+1=>fun d h=>by cases h
theorem zgN:∀{p:List Itm}{S:List (List Itm)},Lines p S->∀d,Ok (6 - d) (fo S d)
 | _,_,.nil,_=>Ok.nil
 | p,_,.cons (L:=S) c x hc h4 t,d=>by
   have hl:(p.take c++[x]).length=c+1:=by simp;omega
   show Ok (6 - d) (if d+1=(p.take c++[x]).length then part (zaB (p.take c++[x])) d (fo S (d+1))::fo S d else if d=(p.take c++[x]).length then[] else fo S d)
   rw[hl];by_cases e:d+1=c+1
   ·rw[if_pos e];have h1:=zgN t (d+1)
    have h2:=zgN t d
    rw[show 6 - d=(6 - (d+1))+1 by omega] at h2⊢;intro y hy;rcases List.mem_cons.mp hy with rfl | hy
    ·exact⟨_,_,_,rfl,h1⟩
    ·exact h2 y hy
   ·rw[if_neg e];by_cases e2:d=c+1
    ·rw[if_pos e2];exact Ok.nil
    ·rw[if_neg e2];exact zgN t d
theorem Ok.up:∀{n:Nat}{ds:List D},Ok n ds->Ok (n+1) ds
 | 0,ds,h=>by rw[show ds = [] from h];exact Ok.nil
 | n+1,ds,h=>fun d hd=>by
   obtain⟨x,dp,inn,e,o⟩:=h d hd;exact⟨x,dp,inn,e,o.up⟩
end GB
namespace Pg
open PySem L2
def top (i:Nat):Stmt:=PySem.Challenge.pw_focuswalk_k76_differences.main.body.getD i (.Pass ⟨0,0,0,0⟩)
abbrev zey:Stmt:=top 11
abbrev zdJ:Stmt:=top 12
abbrev zd7:Stmt:=top 13
abbrev zdK:Stmt:=top 14
abbrev zcb:Stmt:=top 15
abbrev zcE:Stmt:=top 16
abbrev zbZ:Stmt:=top 17
abbrev zbJ:Stmt:=top 18
abbrev zez:Stmt:=top 20
abbrev zbS:Stmt:=top 21
abbrev zcc:Stmt:=top 22
abbrev zbo:Stmt:=top 23
abbrev zcO:Stmt:=top 25
abbrev zeA:Stmt:=top 26
abbrev zcY:Stmt:=top 27
abbrev zeB:Stmt:=top 28
abbrev zjy:Stmt:=top 31
abbrev zbv:Stmt:=top 32
abbrev zeC:Stmt:=top 33
abbrev zdL:Stmt:=top 34
abbrev zeD:Stmt:=top 37
abbrev zhp:Stmt:=top 38
abbrev zfz:Stmt:=top 39
abbrev zjz:Stmt:=top 40
abbrev zbK:Stmt:=top 41
abbrev zcd:Stmt:=top 43
abbrev zaI:Stmt:=top 44
abbrev zcZ:Stmt:=top 46
abbrev zc0:Stmt:=top 47
abbrev zc1:Stmt:=top 48
abbrev zce:Stmt:=top 49
abbrev zby:Stmt:=top 50
abbrev zdM:Stmt:=top 51
abbrev zbT:Stmt:=top 52
abbrev zfA:Stmt:=top 53
end Pg
namespace Pg
open PySem PySem.Spec PyProof PyProof.Rows L2 VD
section
variable {P:Program}{w:World}{K:W.Frag}{mg:Str->Option Value}{base:Heap}{f g:Addr}{fd gd:FuncData}
def zbf (self:List D->Option D)(p_parts p_outer_place:D):Option D:=
 (Option.bind (some ([]:List D)) fun(x1:List D)=>(Option.bind (Option.bind (zoq [p_parts]) (zaN (fun(s2:List D) (d8:D)=>Option.bind (un2 d8) fun(y3:D×D)=>(Option.bind (dAdd p_outer_place (.tup [y3.1])) fun(x4:D)=>(Option.bind (appL s2 (.tup [x4,y3.2])) fun(x5:List D)=>(Option.bind (Option.bind (Option.bind (aC (dIx y3.2 (.int 5)) (aC (some x4) aN)) self) (extL x5)) fun(x6:List D)=>(some x6))))) x1)) fun(s2:List D)=>(Option.bind (some (.lst s2)) fun(r7:D)=>(some r7))))
def zbL (self:List D->Option D):List D->Option D:=c2 (zbf self)
def zaF:Nat->List D->Option D
 | 0=>fun _=>none
 | n+1=>zbL (zaF n)
theorem sc_placed_within:FnScope ["parts","outer_place","pairs","number","part","place"] ["parts","outer_place"] (zad zbJ):=⟨rfl,rfl,rfl,by decide +kernel,rfl,by decide +kernel,by decide +kernel⟩
theorem zdZ (F:Fun K "placed_within" "placed_within" zbJ f fd)(B:Blt mg){n:Nat}{self:List D->Option D}(C_placed_within:Cal P w K mg base n "placed_within" ["parts","outer_place"] (spF K self))(G_PARTS:GlobD K mg "PARTS" (.int 5)):FnOk P w K mg base CX0 (n+1) f fd ["parts","outer_place"] (spF K (zbL self)):=
 za4 F sc_placed_within zbw fun cdv A outer s H E hr=>by
  have nd:=sc_placed_within.nd
  have hu:=Nat.lt_of_succ_lt (zao hr)
  have hu2:=zao hr
  refine⟨_,(zab (zdR (i:=2) nd rfl (Or.inl rfl) (za6 zae)) (zab (zbQ (ziT B (zaa (vv 0) zae)) (zda rfl (zas (zar (i:=3) nd rfl (Or.inl rfl)) (zas (zar (i:=4) nd rfl (Or.inl rfl)) zb8))) (zab (zaE (i:=5) nd rfl (Or.inl rfl) (zaZ zcn zbl (vr 1) (VE.w (zbr (zaa (vv 3) zae))))) (zab (zel 2 (zbr (zaa (vv 5) (zaa (vv 4) zae)))) (zab (ziZ 2 (zal (hk:=Nat.le_refl _) C_placed_within hr (zaa (zay (vr 4) (VE.w (zaC G_PARTS))) (zaa (vv 5) zae)))) (zaL [3,4,5] zak))))) (zdz 2 (zaj (zat (vv 2)))))),zcV ?_⟩;intro p_parts p_outer_place;unfold zbf;exact(zaf (zdS rfl) fun x1=>(zaf (zi9 (emb:=(fun(s2:List D)=>[.val p_parts,.val p_outer_place,.own 1 (.lst s2),.un,.un,.un])) rfl (fun _=>rfl) (fun _ _=>rfl) fun s2 y3=>(zaf (zax rfl) fun x4=>(zaf (zeo rfl) fun x5=>(zaf (zi6 rfl) fun x6=>(za5 [3,4,5] (zaG fun _ h=>h)))))) fun s2=>(ze0 2 (zau fun _ _ h=>h))))
def zaT (p_sheet:D):Option D:=
 (Option.bind ((zaF 8) [p_sheet,(.tup [])]) fun(r1:D)=>(some r1))
def zaK:List D->Option D:=c1 zaT
theorem sc_placed_parts:FnScope ["sheet"] ["sheet"] (zad zbZ):=⟨rfl,rfl,rfl,by decide +kernel,rfl,by decide +kernel,by decide +kernel⟩
theorem zeE (F:Fun K "placed_parts" "placed_parts" zbZ f fd)(B:Blt mg)(C_placed_within:Cal P w K mg base 8 "placed_within" ["parts","outer_place"] (spF K (zaF 8))):FnOk P w K mg base CX0 (8+1) f fd ["sheet"] (spF K zaK):=
 za4 F sc_placed_parts zcM fun cdv A outer s H E hr=>by
  have nd:=sc_placed_parts.nd
  have hu:=Nat.lt_of_succ_lt (zao hr)
  have hu2:=zao hr
  refine⟨_,(zaj (zat (zal C_placed_within hr (zaa (vv 0) (zaa (zbr zae) zae))))),zfs ?_⟩;intro p_sheet;unfold zaT;exact(zau fun _ _ h=>h)
def zcF (p_sheet:D):Option D:=
 (Option.bind (Option.bind (Option.bind (Option.bind (zaK [p_sheet]) dSeq) (zbk (zcD [.un,.un] (gT 2 (gCons' (gN 0) (gCons' (gN 1) gNil'))) tTrue (eVar 1)))) fun ds=>some (.lst ds)) fun(r1:D)=>(some r1))
def zcG:List D->Option D:=c1 zcF
theorem sc_parts_of:FnScope ["sheet"] ["sheet"] (zad zcE):=⟨rfl,rfl,rfl,by decide +kernel,rfl,by decide +kernel,by decide +kernel⟩
theorem zgO (F:Fun K "parts_of" "parts_of" zcE f fd)(B:Blt mg)(C_placed_parts:Cal P w K mg base 9 "placed_parts" ["sheet"] (spF K zaK)):FnOk P w K mg base CX0 (9+1) f fd ["sheet"] (spF K zcG):=
 za4 F sc_parts_of zcM fun cdv A outer s H E hr=>by
  have nd:=sc_parts_of.nd
  have hu:=Nat.lt_of_succ_lt (zao hr)
  have hu2:=zao hr
  refine⟨_,(zaj (zat (VN.ve (zcT ["sheet"] zcE (NC:=["place","part"]) [none,none] rfl (za7 (zal C_placed_parts hr (zaa (vv 0) zae))) (fun x h=>zaW h) rfl rfl rfl (by decide +kernel) (by decide +kernel) rfl (by decide +kernel) (by decide +kernel) rfl (by decide) (fun cl C s0 H0 ex pn=>(zda (n:=2) rfl (zas (vgC 0 (by decide +kernel) rfl rfl) (zas (vgC 1 (by decide +kernel) rfl rfl) zb8)))) (fun cl C s0 H0 ex pn=>zct) (fun cl C s0 H0 ex pn=>(vv 1)))))),zfs ?_⟩;intro p_sheet;unfold zcF;exact(zau fun _ _ h=>h)
def zdj (p_sheet p_name:D):Option D:=
 (Option.bind (Option.bind (zcG [p_sheet]) dSeq) fun ds6=>Option.bind ((zdf (fun(s1:Unit) (d2:D)=>(Option.bind (Option.bind (Option.bind (dIx d2 (.int 0)) fun v4=>((dEqG false) v4 p_name)) dB) fun k3=>if k3 then(Option.bind (some d2) fun(r5:D)=>(some (Fl.ret r5:Fl (Unit) (D)))) else(some (Fl.nx ():Fl (Unit) (D))))) ()) ds6) (flK fun(s1:Unit)=>none))
def zb3:List D->Option D:=c2 zdj
theorem sc_part_of:FnScope ["sheet","name","part"] ["sheet","name"] (zad zey):=⟨rfl,rfl,rfl,by decide +kernel,rfl,by decide +kernel,by decide +kernel⟩
theorem zh2 (F:Fun K "part_of" "part_of" zey f fd)(B:Blt mg)(C_parts_of:Cal P w K mg base 10 "parts_of" ["sheet"] (spF K zcG))(G_NAME:GlobD K mg "NAME" (.int 0)):FnOk P w K mg base CX0 (10+1) f fd ["sheet","name"] (spF K zb3):=
 za4 F sc_part_of zbw fun cdv A outer s H E hr=>by
  have nd:=sc_part_of.nd
  have hu:=Nat.lt_of_succ_lt (zao hr)
  have hu2:=zao hr
  refine⟨_,(zab (zbQ (za7 (zal C_parts_of hr (zaa (vv 0) zae))) (zar (i:=2) nd rfl (Or.inl rfl)) (zab (zbI (zaM (zcW hr) (zbm false) (VE.w (zay (vr 2) (VE.w (zaC G_NAME)))) (vr 1) (zaV _)) (zaj (zat (vv 2))) zak) (zaL [2] zak))) (zaj zdc)),zcV ?_⟩;intro p_sheet p_name;unfold zdj;exact(zfr (emb:=(fun(s1:Unit)=>[.val p_sheet,.val p_name,.un])) rfl (fun _=>rfl) (fun s1 d2=>(zbs (zau fun _ _ h=>h) (zcv (za5 [2] (zaG fun _ h=>h))))) fun s1=>(zi5 rfl))
def zcH (p_sheet p_name:D):Option D:=
 (Option.bind (Option.bind (zaK [p_sheet]) dSeq) fun ds7=>Option.bind ((zdf (fun(s1:Unit) (d6:D)=>Option.bind (un2 d6) fun(y2:D×D)=>(Option.bind (Option.bind (Option.bind (dIx y2.2 (.int 0)) fun v4=>((dEqG false) v4 p_name)) dB) fun k3=>if k3 then(Option.bind (some y2.1) fun(r5:D)=>(some (Fl.ret r5:Fl (Unit) (D)))) else(some (Fl.nx ():Fl (Unit) (D))))) ()) ds7) (flK fun(s1:Unit)=>none))
def zcI:List D->Option D:=c2 zcH
theorem sc_place_of:FnScope ["sheet","name","place","part"] ["sheet","name"] (zad zdJ):=⟨rfl,rfl,rfl,by decide +kernel,rfl,by decide +kernel,by decide +kernel⟩
theorem zgP (F:Fun K "place_of" "place_of" zdJ f fd)(B:Blt mg)(C_placed_parts:Cal P w K mg base 9 "placed_parts" ["sheet"] (spF K zaK))(G_NAME:GlobD K mg "NAME" (.int 0)):FnOk P w K mg base CX0 (10+1) f fd ["sheet","name"] (spF K zcI):=
 za4 F sc_place_of zbw fun cdv A outer s H E hr=>by
  have nd:=sc_place_of.nd
  have hu:=Nat.lt_of_succ_lt (zao hr)
  have hu2:=zao hr
  refine⟨_,(zab (zbQ (za7 (zal C_placed_parts hr (zaa (vv 0) zae))) (zda rfl (zas (zar (i:=2) nd rfl (Or.inl rfl)) (zas (zar (i:=3) nd rfl (Or.inl rfl)) zb8))) (zab (zbI (zaM (zcW hr) (zbm false) (VE.w (zay (vr 3) (VE.w (zaC G_NAME)))) (vr 1) (zaV _)) (zaj (zat (vv 2))) zak) (zaL [2,3] zak))) (zaj zdc)),zcV ?_⟩;intro p_sheet p_name;unfold zcH;exact(zmw (emb:=(fun(s1:Unit)=>[.val p_sheet,.val p_name,.un,.un])) rfl (fun _=>rfl) (fun _ _=>rfl) (fun s1 y2=>(zbs (zau fun _ _ h=>h) (zcv (za5 [2,3] (zaG fun _ h=>h))))) fun s1=>(zi5 rfl))
def zbE (p_sheet p_name:D):Option D:=
 (Option.bind (some ([]:List D)) fun(x1:List D)=>(Option.bind (some p_sheet) fun(x2:D)=>(Option.bind (Option.bind (Option.bind (zcI [p_sheet,p_name]) dSeq) (zaN (fun(s3:List D×D) (d4:D)=>(Option.bind (Option.bind (dIx s3.2 d4) (appL s3.1)) fun(x5:List D)=>(Option.bind (Option.bind (dIx s3.2 d4) fun v6=>(dIx v6 (.int 5))) fun(x7:D)=>(some (x5,x7))))) (x1,x2))) fun(s3:List D×D)=>(Option.bind (some (.lst s3.1)) fun(r8:D)=>(some r8)))))
def za1:List D->Option D:=c2 zbE
theorem sc_chain_of:FnScope ["sheet","name","chain","parts","number"] ["sheet","name"] (zad zdK):=⟨rfl,rfl,rfl,by decide +kernel,rfl,by decide +kernel,by decide +kernel⟩
theorem zgQ (F:Fun K "chain_of" "chain_of" zdK f fd)(B:Blt mg)(C_place_of:Cal P w K mg base 11 "place_of" ["sheet","name"] (spF K zcI))(G_PARTS:GlobD K mg "PARTS" (.int 5)):FnOk P w K mg base CX0 (11+1) f fd ["sheet","name"] (spF K za1):=
 za4 F sc_chain_of zbw fun cdv A outer s H E hr=>by
  have nd:=sc_chain_of.nd
  have hu:=Nat.lt_of_succ_lt (zao hr)
  have hu2:=zao hr
  refine⟨_,(zab (zdR (i:=2) nd rfl (Or.inl rfl) (za6 zae)) (zab (zaE (i:=3) nd rfl (Or.inl rfl) (vv 0)) (zab (zbQ (za7 (zal C_place_of hr (zaa (vv 0) (zaa (vv 1) zae)))) (zar (i:=4) nd rfl (Or.inl rfl)) (zab (zel 2 (zay (vr 3) (vr 4))) (zab (zaE (i:=3) nd rfl (Or.inl rfl) (zay (VE.w (zay (vr 3) (vr 4))) (VE.w (zaC G_PARTS)))) (zaL [4] zak)))) (zdz 2 (zaj (zat (vv 2))))))),zcV ?_⟩;intro p_sheet p_name;unfold zbE;exact(zaf (zdS rfl) fun x1=>(zaf (zax rfl) fun x2=>(zaf (zdB (emb:=(fun(s3:List D×D)=>[.val p_sheet,.val p_name,.own 1 (.lst s3.1),.val s3.2,.un])) rfl (fun _=>rfl) fun s3 d4=>(zaf (zeo rfl) fun x5=>(zaf (zax rfl) fun x7=>(za5 [4] (zaG fun _ h=>h))))) fun s3=>(ze0 2 (zau fun _ _ h=>h)))))
def zd8 (p_sheet p_name:D):Option D:=
 (Option.bind (Option.bind (Option.bind (Option.bind (Option.bind (za1 [p_sheet,p_name]) fun v1=>(Option.bind (Option.bind (dNeg (.int 1)) fun d=>Option.bind (dInt d) fun i=>some (some i)) fun v2=>(dSl v1 none v2))) dSeq) (zbk (fun d3=>(Option.bind (dIx d3 (.int 0)) fun z=>some (some z))))) fun ds=>some (.lst ds)) fun(r4:D)=>(some r4))
def zd9:List D->Option D:=c2 zd8
theorem sc_around:FnScope ["sheet","name"] ["sheet","name"] (zad zd7):=⟨rfl,rfl,rfl,by decide +kernel,rfl,by decide +kernel,by decide +kernel⟩
theorem zjA (F:Fun K "around" "around" zd7 f fd)(B:Blt mg)(C_chain_of:Cal P w K mg base 12 "chain_of" ["sheet","name"] (spF K za1))(G_NAME:GlobD K mg "NAME" (.int 0)):FnOk P w K mg base CX0 (12+1) f fd ["sheet","name"] (spF K zd9):=
 za4 F sc_around zbw fun cdv A outer s H E hr=>by
  have nd:=sc_around.nd
  have hu:=Nat.lt_of_succ_lt (zao hr)
  have hu2:=zao hr
  refine⟨_,(zaj (zat (VN.ve (zcT ["sheet","name"] zd7 (NC:=["part"]) [none] rfl (za7 (zha (VE.w (zal C_chain_of hr (zaa (vv 0) (zaa (vv 1) zae)))) ziQ (ziR (zhb zag)))) (fun x h=>zaW h) rfl rfl rfl (by decide +kernel) (by decide +kernel) rfl (by decide +kernel) (by decide +kernel) rfl (by decide) (fun cl C s0 H0 ex pn=>(vgC 0 (by decide +kernel) rfl rfl)) (fun cl C s0 H0 ex pn=>zct) (fun cl C s0 H0 ex pn=>(zay (vr 0) (VE.w (zaC G_NAME)))))))),zcV ?_⟩;intro p_sheet p_name;unfold zd8;exact(zau fun _ _ h=>h)
def za2 (p_sheet p_name:D):Option D:=
 (Option.bind (za1 [p_sheet,p_name]) fun(x1:D)=>(Option.bind (Option.bind (Option.bind (Option.bind (bLen [x1]) fun v3=>((dEqG false) v3 (.int 1))) dB) fun k2=>if k2 then(some p_sheet) else(Option.bind (Option.bind (dNeg (.int 2)) fun v4=>(dIx x1 v4)) fun v5=>(dIx v5 (.int 5)))) fun(r6:D)=>(some r6)))
def zbz:List D->Option D:=c2 za2
theorem sc_level_parts:FnScope ["sheet","name","chain"] ["sheet","name"] (zad zcb):=⟨rfl,rfl,rfl,by decide +kernel,rfl,by decide +kernel,by decide +kernel⟩
theorem zeQ (F:Fun K "level_parts" "level_parts" zcb f fd)(B:Blt mg)(C_chain_of:Cal P w K mg base 12 "chain_of" ["sheet","name"] (spF K za1))(G_PARTS:GlobD K mg "PARTS" (.int 5)):FnOk P w K mg base CX0 (12+1) f fd ["sheet","name"] (spF K zbz):=
 za4 F sc_level_parts zbw fun cdv A outer s H E hr=>by
  have nd:=sc_level_parts.nd
  have hu:=Nat.lt_of_succ_lt (zao hr)
  have hu2:=zao hr
  refine⟨_,(zab (zaE (i:=2) nd rfl (Or.inl rfl) (zal C_chain_of hr (zaa (vv 0) (zaa (vv 1) zae)))) (zaj (zat (zgx (zaM (zcW hr) (zbm false) (VE.w (ve_b zg0 zle B boot_len (zaQ (vr 2) zbH))) (VE.w zag) (zaV _)) (vv 0) (zay (VE.w (zay (vr 2) (VE.w (zhb zag)))) (VE.w (zaC G_PARTS))))))),zcV ?_⟩;intro p_sheet p_name;unfold za2;exact(zaf (zax rfl) fun x1=>(zau fun _ _ h=>h))
def zdk (p_sheet p_name:D):Option D:=
 (Option.bind (za1 [p_sheet,p_name]) fun(x1:D)=>(Option.bind (some [(.str "hidden"),(.str "shut")]) fun ds11=>Option.bind ((zdf (fun(s2:Unit) (d3:D)=>(Option.bind (dSeq x1) fun ds9=>Option.bind ((zdf (fun(s4:Unit) (d5:D)=>(Option.bind (Option.bind (Option.bind (dIx d5 (.int 2)) fun v7=>((dEqG false) v7 d3)) dB) fun k6=>if k6 then(Option.bind (Option.bind (aC (some d3) (aC (dIx d5 (.int 0)) aN)) mkT) fun(r8:D)=>(some (Fl.ret (Fl.ret r8:Fl (Unit) (D)):Fl (Unit) (Fl (Unit) (D))))) else(some (Fl.nx ():Fl (Unit) (Fl (Unit) (D)))))) ()) ds9) (flK fun(s4:Unit)=>(some (Fl.nx ():Fl (Unit) (D)))))) ()) ds11) (flK fun(s2:Unit)=>(Option.bind (some D.non) fun(r10:D)=>(some r10)))))
def zdl:List D->Option D:=c2 zdk
theorem sc_why_not:FnScope ["sheet","name","chain","word","part"] ["sheet","name"] (zad zez):=⟨rfl,rfl,rfl,by decide +kernel,rfl,by decide +kernel,by decide +kernel⟩
theorem zh3 (F:Fun K "why_not" "why_not" zez f fd)(B:Blt mg)(C_chain_of:Cal P w K mg base 12 "chain_of" ["sheet","name"] (spF K za1))(G_WORD:GlobD K mg "WORD" (.int 2))(G_NAME:GlobD K mg "NAME" (.int 0)):FnOk P w K mg base CX0 (12+1) f fd ["sheet","name"] (spF K zdl):=
 za4 F sc_why_not zbw fun cdv A outer s H E hr=>by
  have nd:=sc_why_not.nd
  have hu:=Nat.lt_of_succ_lt (zao hr)
  have hu2:=zao hr
  refine⟨_,(zab (zaE (i:=2) nd rfl (Or.inl rfl) (zal C_chain_of hr (zaa (vv 0) (zaa (vv 1) zae)))) (zab (zbQ (za7 (zbr (zaa zav (zaa zav zae)))) (zar (i:=3) nd rfl (Or.inl rfl)) (zab (zbQ (za7 (vv 2)) (zar (i:=4) nd rfl (Or.inl rfl)) (zab (zbI (zaM (zcW hr) (zbm false) (VE.w (zay (vr 4) (VE.w (zaC G_WORD)))) (vr 3) (zaV _)) (zaj (zat (zbr (zaa (vv 3) (zaa (zay (vr 4) (VE.w (zaC G_NAME))) zae))))) zak) (zaL [4] zak))) (zaL [3,4] zak))) (zaj (zat zc8)))),zcV ?_⟩;intro p_sheet p_name;unfold zdk;exact(zaf (zax rfl) fun x1=>(zfr (emb:=(fun(s2:Unit)=>[.val p_sheet,.val p_name,.val x1,.un,.un])) rfl (fun _=>rfl) (fun s2 d3=>(zfr (emb:=(fun(s4:Unit)=>[.val p_sheet,.val p_name,.val x1,.val d3,.un])) rfl (fun _=>rfl) (fun s4 d5=>(zbs (zau fun _ _ h=>h) (zcv (za5 [4] (zaG fun _ h=>h))))) fun s4=>(za5 [3,4] (zaG fun _ h=>h)))) fun s2=>(zau fun _ _ h=>h)))
def za3 (p_sheet p_name:D):Option D:=
 (Option.bind (zdl [p_sheet,p_name]) fun(x1:D)=>(Option.bind (Option.bind ((dIs true) x1 D.non) dB) fun k2=>if k2 then none else(some D.non)))
def zam:List D->Option D:=c2 za3
theorem sc_refuse_not_open:FnScope ["sheet","name","why"] ["sheet","name"] (zad zbo):=⟨rfl,rfl,rfl,by decide +kernel,rfl,by decide +kernel,by decide +kernel⟩
theorem zdm (F:Fun K "refuse_not_open" "refuse_not_open" zbo f fd)(B:Blt mg)(C_why_not:Cal P w K mg base 13 "why_not" ["sheet","name"] (spF K zdl)):FnOk P w K mg base CX0 (13+1) f fd ["sheet","name"] (spF K zam):=
 za4 F sc_refuse_not_open zbw fun cdv A outer s H E hr=>by
  have nd:=sc_refuse_not_open.nd
  have hu:=Nat.lt_of_succ_lt (zao hr)
  have hu2:=zao hr
  refine⟨_,(zab (zaE (i:=2) nd rfl (Or.inl rfl) (zal C_why_not hr (zaa (vv 0) (zaa (vv 1) zae)))) (zab (zbI (zaM zij ziP (vr 2) (VE.w zc8) (zaV _)) (zaj zdc) zak) zak)),zcV ?_⟩;intro p_sheet p_name;unfold za3;exact(zaf (zax rfl) fun x1=>(zbs (zi5 rfl) (zcv (zaG fun _ h=>h))))
def zbA (self:List D->Option D)(p_parts:D):Option D:=
 (Option.bind (some ([]:List D)) fun(x1:List D)=>(Option.bind (Option.bind (dSeq p_parts) (zaN (fun(s2:List D) (d3:D)=>(Option.bind (Option.bind (Option.bind (Option.bind (dIx d3 (.int 2)) fun v5=>((dEqG false) v5 (.str "free"))) dB) fun k4=>if k4 then(Option.bind (appL s2 d3) fun(x6:List D)=>(Option.bind (Option.bind (Option.bind (aC (dIx d3 (.int 5)) aN) self) (extL x6)) fun(x7:List D)=>(some x7))) else(some s2)) fun(s8:List D)=>(some s8))) x1)) fun(s2:List D)=>(Option.bind (some (.lst s2)) fun(r9:D)=>(some r9))))
def zcf (self:List D->Option D):List D->Option D:=c1 (zbA self)
def zan:Nat->List D->Option D
 | 0=>fun _=>none
 | n+1=>zcf (zan n)
theorem sc_open_tuples:FnScope ["parts","tuples","part"] ["parts"] (zad zcc):=⟨rfl,rfl,rfl,by decide +kernel,rfl,by decide +kernel,by decide +kernel⟩
theorem zeR (F:Fun K "open_tuples" "open_tuples" zcc f fd)(B:Blt mg){n:Nat}{self:List D->Option D}(C_open_tuples:Cal P w K mg base n "open_tuples" ["parts"] (spF K self))(G_WORD:GlobD K mg "WORD" (.int 2))(G_PARTS:GlobD K mg "PARTS" (.int 5)):FnOk P w K mg base CX0 (n+1) f fd ["parts"] (spF K (zcf self)):=
 za4 F sc_open_tuples zcM fun cdv A outer s H E hr=>by
  have nd:=sc_open_tuples.nd
  have hu:=Nat.lt_of_succ_lt (zao hr)
  have hu2:=zao hr
  refine⟨_,(zab (zdR (i:=1) nd rfl (Or.inl rfl) (za6 zae)) (zab (zbQ (za7 (vv 0)) (zar (i:=2) nd rfl (Or.inl rfl)) (zab (zbI (zaM (zcW hr) (zbm false) (VE.w (zay (vr 2) (VE.w (zaC G_WORD)))) (VE.w zav) (zaV _)) (zab (zel 1 (vv 2)) (zab (ziZ 1 (zal (hk:=Nat.le_refl _) C_open_tuples hr (zaa (zay (vr 2) (VE.w (zaC G_PARTS))) zae))) zak)) zak) (zaL [2] zak))) (zdz 1 (zaj (zat (vv 1)))))),zfs ?_⟩;intro p_parts;unfold zbA;exact(zaf (zdS rfl) fun x1=>(zaf (zdB (emb:=(fun(s2:List D)=>[.val p_parts,.own 1 (.lst s2),.un])) rfl (fun _=>rfl) fun s2 d3=>(zaf (zhV (emb:=(fun(s8:List D)=>[.val p_parts,.own 1 (.lst s8),.val d3])) (zaf (zeo rfl) fun x6=>(zaf (zi6 rfl) fun x7=>(zaG fun _ h=>h))) (zaG fun _ h=>h)) fun s8=>(za5 [2] (zaG fun _ h=>h)))) fun s2=>(ze0 1 (zau fun _ _ h=>h))))
def zbU (p_sheet:D):Option D:=
 (Option.bind (Option.bind (Option.bind (Option.bind ((zan 8) [p_sheet]) dSeq) (zbk (fun d1=>(Option.bind (dIx d1 (.int 0)) fun z=>some (some z))))) fun ds=>some (.lst ds)) fun(r2:D)=>(some r2))
def zbt:List D->Option D:=c1 zbU
theorem sc_open_parts:FnScope ["sheet"] ["sheet"] (zad zbS):=⟨rfl,rfl,rfl,by decide +kernel,rfl,by decide +kernel,by decide +kernel⟩
theorem zfB (F:Fun K "open_parts" "open_parts" zbS f fd)(B:Blt mg)(C_open_tuples:Cal P w K mg base 8 "open_tuples" ["parts"] (spF K (zan 8)))(G_NAME:GlobD K mg "NAME" (.int 0)):FnOk P w K mg base CX0 (9+1) f fd ["sheet"] (spF K zbt):=
 za4 F sc_open_parts zcM fun cdv A outer s H E hr=>by
  have nd:=sc_open_parts.nd
  have hu:=Nat.lt_of_succ_lt (zao hr)
  have hu2:=zao hr
  refine⟨_,(zaj (zat (VN.ve (zcT ["sheet"] zbS (NC:=["part"]) [none] rfl (za7 (zal C_open_tuples hr (zaa (vv 0) zae))) (fun x h=>zaW h) rfl rfl rfl (by decide +kernel) (by decide +kernel) rfl (by decide +kernel) (by decide +kernel) rfl (by decide) (fun cl C s0 H0 ex pn=>(vgC 0 (by decide +kernel) rfl rfl)) (fun cl C s0 H0 ex pn=>zct) (fun cl C s0 H0 ex pn=>(zay (vr 0) (VE.w (zaC G_NAME)))))))),zfs ?_⟩;intro p_sheet;unfold zbU;exact(zau fun _ _ h=>h)
def zhq (p_sheet:D):Option (RV×List D):=
 (Option.bind ((zan 8) [p_sheet]) fun(x1:D)=>(Option.bind (Option.bind (Option.bind (dSeq x1) (zbk (fun d2=>(Option.bind (Option.bind (Option.bind (dIx d2 (.int 3)) fun v4=>(dGt v4 (.int 0))) dB) fun k3=>if k3 then(some (some d2)) else some none)))) fun ds=>some (.lst ds)) fun(x5:D)=>(Option.bind (Option.bind (Option.bind (dSeq x1) (zbk (fun d6=>(Option.bind (Option.bind (Option.bind (dIx d6 (.int 3)) fun v8=>((dEqG false) v8 (.int 0))) dB) fun k7=>if k7 then(some (some d6)) else some none)))) fun ds=>some (.lst ds)) fun(x9:D)=>(Option.bind (Option.bind (zpD 3 x5) fun ds=>some (.lst ds)) fun(x10:D)=>(Option.bind (Option.bind (Option.bind (dAdd x10 x9) dSeq) (zbk (fun d11=>(Option.bind (dIx d11 (.int 0)) fun z=>some (some z))))) fun(r12:List D)=>(some ((.new 1 (.lst r12)),[.non])))))))
def zeF:List D->Option (RV×List D):=g1 zhq
theorem sc_walk:FnScope ["sheet","parts","ranked","unranked"] ["sheet"] (zad zcO):=⟨rfl,rfl,rfl,by decide +kernel,rfl,by decide +kernel,by decide +kernel⟩
theorem zmX (F:Fun K "walk" "walk" zcO f fd)(B:Blt mg){Pc:Hp->Prop}(pe:Pers Pc){tP:Addr}(T:TabF K mg base fd tP)(hT:∀H,Pc H->TabH tP "walk.<locals>.<lambda>" H)(C_open_tuples:Cal P w K mg base 8 "open_tuples" ["parts"] (spF K (zan 8)))(G_RANK:GlobD K mg "RANK" (.int 3))(G_NAME:GlobD K mg "NAME" (.int 0)):FnOk P w K mg base CX0 (9+1) f fd ["sheet"] (pcS Pc (spG K [none] zeF)):=
 zgM pe [none] F sc_walk rfl fun cdv A outer s H E hcv hr hPc hp=>by
  have nd:=sc_walk.nd
  have TX:TabX (cxOf CX0 P w K mg base ["sheet","parts","ranked","unranked"] "walk" (zad zcO) f cdv A outer s H E).nox "walk.<locals>.<lambda>":=zmL T hcv (hT _ hPc)
  have hu:=Nat.lt_of_succ_lt (zao hr)
  have hu2:=zao hr
  refine⟨_,(zab (zaE (i:=1) nd rfl (Or.inl rfl) (zal C_open_tuples hr (zaa (vv 0) zae))) (zab (And.left (zgC ["sheet","parts","ranked","unranked"] zcO (i:=2) (NC:=["part"]) [none] nd rfl (Or.inl rfl) rfl (za7 (vv 1)) (fun x h=>zaW h) rfl rfl rfl (by decide +kernel) (by decide +kernel) rfl (by decide +kernel) (by decide +kernel) rfl (by decide) (fun cl C s0 H0 ex pn=>(vgC 0 (by decide +kernel) rfl rfl)) (fun cl C s0 H0 ex pn=>(zfn (zaM zpf zpo (VE.w (zay (vr 0) (VE.w (zaC G_RANK)))) (VE.w zag) (zaV _)))) (fun cl C s0 H0 ex pn=>(vv 0)))) (zab (And.left (zgC ["sheet","parts","ranked","unranked"] zcO (i:=3) (NC:=["part"]) [none] nd rfl (Or.inl rfl) rfl (za7 (vv 1)) (fun x h=>zaW h) rfl rfl rfl (by decide +kernel) (by decide +kernel) rfl (by decide +kernel) (by decide +kernel) rfl (by decide) (fun cl C s0 H0 ex pn=>(vgC 0 (by decide +kernel) rfl rfl)) (fun cl C s0 H0 ex pn=>(zfn (zaM (zcW hr) (zbm false) (VE.w (zay (vr 0) (VE.w (zaC G_RANK)))) (VE.w zag) (zaV _)))) (fun cl C s0 H0 ex pn=>(vv 0)))) (zab (zaE (i:=2) nd rfl (Or.inl rfl) (VN.ve (zjq (k:=6) hr TX (B.get "sorted") G_RANK (vr 2) rfl ⟨rfl,rfl,rfl,by decide +kernel,rfl,by decide +kernel,by decide +kernel⟩ rfl rfl rfl (fun env h=>by unfold Env.kindOf;rw[h];rfl) (fun f u h1 h2 h3=>by cases f;cases h1;cases h2;cases h3;rfl)))) (zaj (zek (zcT ["sheet","parts","ranked","unranked"] zcO (NC:=["part"]) [none] rfl (za7 (zaZ zcn zbl (vr 2) (vr 3))) (fun x h=>zaW h) rfl rfl rfl (by decide +kernel) (by decide +kernel) rfl (by decide +kernel) (by decide +kernel) rfl (by decide) (fun cl C s0 H0 ex pn=>(vgC 0 (by decide +kernel) rfl rfl)) (fun cl C s0 H0 ex pn=>zct) (fun cl C s0 H0 ex pn=>(zay (vr 0) (VE.w (zaC G_NAME))))))))))),zpB ?_⟩;intro p_sheet;unfold zhq;exact(zaf (zax rfl) fun x1=>(zaf (zax rfl) fun x5=>(zaf (zax rfl) fun x9=>(zaf (zax rfl) fun x10=>(zgF fun _ _ h=>h)))))
def zdn (p_sheet p_name p_step:D):Option D:=
 (Option.bind (zam [p_sheet,p_name]) fun(u1:D)=>(Option.bind (Option.bind (Option.bind (Option.bind (some [p_sheet]) fun d=>some (d,())) fun q3=>Option.bind (zeF q3.1) fun r4=>if q3.1.length=1 then some (r4.1,q3.2) else none) fun q5=>some (q5.1.d,q5.2)) fun(q6:D×Unit)=>(Option.bind (Option.bind (Option.bind (Option.bind (dIdx q6.1 p_name) fun v7=>(dAdd v7 p_step)) fun v8=>(Option.bind (bLen [q6.1]) fun v9=>(dMod v8 v9))) fun v10=>(dIx q6.1 v10)) fun(r11:D)=>(some r11))))
def zbM:List D->Option D:=c3 zdn
theorem sc_stepped:FnScope ["sheet","name","step","names"] ["sheet","name","step"] (zad zeB):=⟨rfl,rfl,rfl,by decide +kernel,rfl,by decide +kernel,by decide +kernel⟩
theorem zh4 (F:Fun K "stepped" "stepped" zeB f fd)(B:Blt mg){Pc:Hp->Prop}(pe:Pers Pc)(C_refuse_not_open:Cal P w K mg base 14 "refuse_not_open" ["sheet","name"] (spF K zam))(C_walk:Cal P w K mg base 10 "walk" ["sheet"] (pcS Pc (spG K [none] zeF))):FnOk P w K mg base CX0 (14+1) f fd ["sheet","name","step"] (pcS Pc (spF K zbM)):=
 zcz pe F sc_stepped ze1 fun cdv A outer s H E hcv hr hPc hp=>by
  have nd:=sc_stepped.nd
  have hu:=Nat.lt_of_succ_lt (zao hr)
  have hu2:=zao hr
  refine⟨_,(zab (zcU (zal C_refuse_not_open hr (zaa (vv 0) (zaa (vv 1) zae)))) (zab (zdA (i:=3) nd rfl (Or.inl rfl) (VR.x (zex C_walk hp hr (VA.x (zaa (vv 0) zae))))) (zaj (zat (zay (vr 3) (VE.w (zaZ zc5 zc9 (VE.w (zaZ zcn zbl (VE.w (zoF (vv 3) (vv 1))) (vr 2))) (VE.w (ve_b zg0 zle B boot_len (zaQ (vr 3) zbH)))))))))),zhW ?_⟩;intro p_sheet p_name p_step;unfold zdn;exact(zaf zgG fun u1=>(zaf (zdD (emb:=(fun(s2:Unit)=>[.val p_sheet,.val p_name,.val p_step,.un])) (zes (zeu (zjh rfl))) fun _=>rfl) fun q6=>(zau fun _ _ h=>h)))
def zdo (p_sheet p_name:D):Option D:=
 (Option.bind (zbM [p_sheet,p_name,(.int 1)]) fun(r1:D)=>(some r1))
def zb4:List D->Option D:=c2 zdo
theorem sc_on_from:FnScope ["sheet","name"] ["sheet","name"] (zad zeA):=⟨rfl,rfl,rfl,by decide +kernel,rfl,by decide +kernel,by decide +kernel⟩
theorem zh5 (F:Fun K "on_from" "on_from" zeA f fd)(B:Blt mg){Pc:Hp->Prop}(pe:Pers Pc)(C_stepped:Cal P w K mg base 15 "stepped" ["sheet","name","step"] (pcS Pc (spF K zbM))):FnOk P w K mg base CX0 (15+1) f fd ["sheet","name"] (pcS Pc (spF K zb4)):=
 zcz pe F sc_on_from zbw fun cdv A outer s H E hcv hr hPc hp=>by
  have nd:=sc_on_from.nd
  have hu:=Nat.lt_of_succ_lt (zao hr)
  have hu2:=zao hr
  refine⟨_,(zaj (zat (za0 C_stepped hp hr (zaa (vv 0) (zaa (vv 1) (zaa zag zae)))))),zcV ?_⟩;intro p_sheet p_name;unfold zdo;exact(zau fun _ _ h=>h)
def zcg (p_sheet p_name:D):Option D:=
 (Option.bind (Option.bind (aC (some p_sheet) (aC (some p_name) (aC (dNeg (.int 1)) aN))) zbM) fun(r1:D)=>(some r1))
def zbp:List D->Option D:=c2 zcg
theorem sc_back_from:FnScope ["sheet","name"] ["sheet","name"] (zad zcY):=⟨rfl,rfl,rfl,by decide +kernel,rfl,by decide +kernel,by decide +kernel⟩
theorem zga (F:Fun K "back_from" "back_from" zcY f fd)(B:Blt mg){Pc:Hp->Prop}(pe:Pers Pc)(C_stepped:Cal P w K mg base 15 "stepped" ["sheet","name","step"] (pcS Pc (spF K zbM))):FnOk P w K mg base CX0 (15+1) f fd ["sheet","name"] (pcS Pc (spF K zbp)):=
 zcz pe F sc_back_from zbw fun cdv A outer s H E hcv hr hPc hp=>by
  have nd:=sc_back_from.nd
  have hu:=Nat.lt_of_succ_lt (zao hr)
  have hu2:=zao hr
  refine⟨_,(zaj (zat (za0 C_stepped hp hr (zaa (vv 0) (zaa (vv 1) (zaa (zhb zag) zae)))))),zcV ?_⟩;intro p_sheet p_name;unfold zcg;exact(zau fun _ _ h=>h)
def zcm (p_way:D):Option D:=
 (Option.bind (Option.bind ((dInG true) p_way (.tup [(.str "up"),(.str "down"),(.str "left"),(.str "right")])) dB) fun k1=>if k1 then none else(some D.non))
def zaq:List D->Option D:=c1 zcm
theorem sc_refuse_no_side:FnScope ["way"] ["way"] (zad zbv):=⟨rfl,rfl,rfl,by decide +kernel,rfl,by decide +kernel,by decide +kernel⟩
theorem zdN (F:Fun K "refuse_no_side" "refuse_no_side" zbv f fd)(B:Blt mg)(G_SIDES:GlobD K mg "SIDES" (.tup [(.str "up"),(.str "down"),(.str "left"),(.str "right")])):FnOk P w K mg base CX0 (0+1) f fd ["way"] (spF K zaq):=
 za4 F sc_refuse_no_side zcM fun cdv A outer s H E hr=>by
  have nd:=sc_refuse_no_side.nd
  have hu:=Nat.lt_of_succ_lt (zao hr)
  have hu2:=zao hr
  refine⟨_,(zab (zbI (zaM (zhj hr) (ze3 true) (vr 0) (VE.w (zaC G_SIDES)) rfl) (zaj zdc) zak) zak),zfs ?_⟩;intro p_way;unfold zcm;exact(zbs (zi5 rfl) (zcv (zaG fun _ h=>h)))
def zgb (p_box p_upright:D):Option D:=
 (Option.bind (un4 p_box) fun(y1:D×D×D×D)=>(Option.bind (Option.bind (dTru p_upright) fun k2=>if k2 then(Option.bind (aC (some y1.2.1) (aC (dAdd y1.2.1 y1.2.2.2) aN)) mkT) else(Option.bind (aC (some y1.1) (aC (dAdd y1.1 y1.2.2.1) aN)) mkT)) fun(r3:D)=>(some r3)))
def zbu:List D->Option D:=c2 zgb
theorem sc_stretch:FnScope ["box","upright","left","top","wide","high"] ["box","upright"] (zad zeC):=⟨rfl,rfl,rfl,by decide +kernel,rfl,by decide +kernel,by decide +kernel⟩
theorem zh6 (F:Fun K "stretch" "stretch" zeC f fd)(B:Blt mg):FnOk P w K mg base CX0 (0+1) f fd ["box","upright"] (spF K zbu):=
 za4 F sc_stretch zbw fun cdv A outer s H E hr=>by
  have nd:=sc_stretch.nd
  have hu:=Nat.lt_of_succ_lt (zao hr)
  have hu2:=zao hr
  refine⟨_,(zab (ziY (vv 0) (zda rfl (zas (zar (i:=2) nd rfl (Or.inl rfl)) (zas (zar (i:=3) nd rfl (Or.inl rfl)) (zas (zar (i:=4) nd rfl (Or.inl rfl)) (zas (zar (i:=5) nd rfl (Or.inl rfl)) zb8)))))) (zaj (zat (zgx (zcs (vr 1)) (zbr (zaa (vv 3) (zaa (zaZ zcn zbl (vr 3) (vr 5)) zae))) (zbr (zaa (vv 2) (zaa (zaZ zcn zbl (vr 2) (vr 4)) zae))))))),zcV ?_⟩;intro p_box p_upright;unfold zgb;exact(zaf (zi7 fun _=>tg_4 rfl (fun _=>rfl) (fun _ _=>rfl) (fun _ _ _=>rfl)) fun y1=>(zau fun _ _ h=>h))
def ze7 (p_one p_other:D):Option D:=
 (Option.bind (Option.bind (Option.bind (aC (dIx p_one (.int 0)) (aC (dIx p_other (.int 0)) aN)) bMax) fun v1=>(Option.bind (Option.bind (aC (dIx p_one (.int 1)) (aC (dIx p_other (.int 1)) aN)) bMin) fun v2=>(dSub v1 v2))) fun(r3:D)=>(some r3))
def zdO:List D->Option D:=c2 ze7
theorem sc_apart_by:FnScope ["one","other"] ["one","other"] (zad zdL):=⟨rfl,rfl,rfl,by decide +kernel,rfl,by decide +kernel,by decide +kernel⟩
theorem zgR (F:Fun K "apart_by" "apart_by" zdL f fd)(B:Blt mg):FnOk P w K mg base CX0 (0+1) f fd ["one","other"] (spF K zdO):=
 za4 F sc_apart_by zbw fun cdv A outer s H E hr=>by
  have nd:=sc_apart_by.nd
  have hu:=Nat.lt_of_succ_lt (zao hr)
  have hu2:=zao hr
  refine⟨_,(zaj (zat (zaZ zgY zg9 (VE.w (ve_b (zfJ rfl) zlf B boot_max (zaQ (VE.w (zay (vr 0) (VE.w zag))) (zaQ (VE.w (zay (vr 1) (VE.w zag))) zbH)))) (VE.w (ve_b (zfK rfl) zlg B boot_min (zaQ (VE.w (zay (vr 0) (VE.w zag))) (zaQ (VE.w (zay (vr 1) (VE.w zag))) zbH))))))),zcV ?_⟩;intro p_one p_other;unfold ze7;exact(zau fun _ _ h=>h)
def zcP (p_box p_other p_way:D):Option D:=
 (Option.bind (zaq [p_way]) fun(u1:D)=>(Option.bind ((dInG false) p_way (.tup [(.str "up"),(.str "down")])) fun(x2:D)=>(Option.bind (Option.bind (zbu [p_box,x2]) un2) fun(y3:D×D)=>(Option.bind (Option.bind (zbu [p_other,x2]) un2) fun(y4:D×D)=>(Option.bind (Option.bind (Option.bind ((dInG false) p_way (.tup [(.str "up"),(.str "left")])) dB) fun k5=>if k5 then(dSub y3.1 y4.2) else(dSub y4.1 y3.2)) fun(x6:D)=>(Option.bind (Option.bind (dLt x6 (.int 0)) dB) fun k7=>if k7 then(Option.bind (some D.non) fun(r8:D)=>(some r8)) else(Option.bind (Option.bind (aC (Option.bind (aC (some p_box) (aC (Option.bind (dB x2) fun k9=>some (.bl (!k9))) aN)) zbu) (aC (Option.bind (aC (some p_other) (aC (Option.bind (dB x2) fun k10=>some (.bl (!k10))) aN)) zbu) aN)) zdO) fun(x11:D)=>(Option.bind (Option.bind (Option.bind (dLt x11 (.int 0)) dB) fun k12=>if k12 then(some (.int 0)) else(some (.int 1))) fun(x13:D)=>(Option.bind (Option.bind (aC (some x13) (aC (some x6) (aC (bMax [x11,(.int 0)]) aN))) mkT) fun(r14:D)=>(some r14))))))))))
def ze8:List D->Option D:=c3 zcP
theorem sc_lies:FnScope ["box","other","way","upright","start","end","other_start","other_end","gap","apart","beam"] ["box","other","way"] (zad zjy):=⟨rfl,rfl,rfl,by decide +kernel,rfl,by decide +kernel,by decide +kernel⟩
theorem zmY (F:Fun K "lies" "lies" zjy f fd)(B:Blt mg)(C_refuse_no_side:Cal P w K mg base 1 "refuse_no_side" ["way"] (spF K zaq))(C_stretch:Cal P w K mg base 1 "stretch" ["box","upright"] (spF K zbu))(C_apart_by:Cal P w K mg base 1 "apart_by" ["one","other"] (spF K zdO)):FnOk P w K mg base CX0 (1+1) f fd ["box","other","way"] (spF K ze8):=
 za4 F sc_lies ze1 fun cdv A outer s H E hr=>by
  have nd:=sc_lies.nd
  have hu:=Nat.lt_of_succ_lt (zao hr)
  have hu2:=zao hr
  refine⟨_,(zab (zcU (zal C_refuse_no_side hr (zaa (vv 2) zae))) (zab (zaE (i:=3) nd rfl (Or.inl rfl) (ziN (zkw hr) (ze3 false) (vr 2) (VE.w (zbr (zaa zav (zaa zav zae)))) rfl)) (zab (ziY (zal C_stretch hr (zaa (vv 0) (zaa (vv 3) zae))) (zda rfl (zas (zar (i:=4) nd rfl (Or.inl rfl)) (zas (zar (i:=5) nd rfl (Or.inl rfl)) zb8)))) (zab (ziY (zal C_stretch hr (zaa (vv 1) (zaa (vv 3) zae))) (zda rfl (zas (zar (i:=6) nd rfl (Or.inl rfl)) (zas (zar (i:=7) nd rfl (Or.inl rfl)) zb8)))) (zab (zaE (i:=8) nd rfl (Or.inl rfl) (zgx (zaM (zkw hr) (ze3 false) (vr 2) (VE.w (zbr (zaa zav (zaa zav zae)))) rfl) (zaZ zgY zg9 (vr 4) (vr 7)) (zaZ zgY zg9 (vr 6) (vr 5)))) (zab (zbI (zaM znK zod (vr 8) (VE.w zag) (zaV _)) (zaj (zat zc8)) zak) (zab (zaE (i:=9) nd rfl (Or.inl rfl) (zal C_apart_by hr (zaa (zal C_stretch hr (zaa (vv 0) (zaa (ziO (vv 3)) zae))) (zaa (zal C_stretch hr (zaa (vv 1) (zaa (ziO (vv 3)) zae))) zae)))) (zab (zaE (i:=10) nd rfl (Or.inl rfl) (zgx (zaM znK zod (vr 9) (VE.w zag) (zaV _)) zag zag)) (zaj (zat (zbr (zaa (vv 10) (zaa (vv 8) (zaa (ve_b (zfJ rfl) zlf B boot_max (zaQ (vr 9) (zaQ (VE.w zag) zbH))) zae)))))))))))))),zhW ?_⟩;intro p_box p_other p_way;unfold zcP;exact(zaf zgG fun u1=>(zaf (zax rfl) fun x2=>(zaf (zi7 fun _=>tg_2 rfl (fun _=>rfl)) fun y3=>(zaf (zi7 fun _=>tg_2 rfl (fun _=>rfl)) fun y4=>(zaf (zax rfl) fun x6=>(zbs (zau fun _ _ h=>h) (zcv (zaf (zax rfl) fun x11=>(zaf (zax rfl) fun x13=>(zau fun _ _ h=>h))))))))))
def zdp (p_sheet p_name p_way:D):Option D:=
 (Option.bind (zaq [p_way]) fun(u1:D)=>(Option.bind (zam [p_sheet,p_name]) fun(u2:D)=>(Option.bind (Option.bind (zb3 [p_sheet,p_name]) fun v3=>(dIx v3 (.int 1))) fun(x4:D)=>(Option.bind (some ([]:List D)) fun(x5:List D)=>(Option.bind (Option.bind (Option.bind (aC (zbz [p_sheet,p_name]) aN) zoq) (zaN (fun(s6:List D) (d17:D)=>Option.bind (un2 d17) fun(y7:D×D)=>(Option.bind (Option.bind (aC (some x4) (aC (dIx y7.2 (.int 1)) (aC (some p_way) aN))) ze8) fun(x8:D)=>(Option.bind (Option.bind (Option.bind (Option.bind ((dIs true) x8 D.non) dB) fun k11=>if k11 then(Option.bind (Option.bind (dIx y7.2 (.int 2)) fun v10=>((dEqG false) v10 (.str "free"))) dB) else some false) fun k9=>if k9 then(Option.bind (Option.bind (Option.bind (aC (some x8) (aC (some y7.1) (aC (dIx y7.2 (.int 0)) aN))) mkT) (appL s6)) fun(x12:List D)=>(some x12)) else(some s6)) fun(s13:List D)=>(some s13)))) x5)) fun(s6:List D)=>(Option.bind (Option.bind (dTru (.lst s6)) fun k14=>if k14 then(Option.bind (zkx [(.lst s6)]) fun v15=>(dIx v15 (.int 2))) else(some D.non)) fun(r16:D)=>(some r16)))))))
def zbg:List D->Option D:=c3 zdp
theorem sc_nearest:FnScope ["sheet","name","way","box","rows","number","other","near"] ["sheet","name","way"] (zad zeD):=⟨rfl,rfl,rfl,by decide +kernel,rfl,by decide +kernel,by decide +kernel⟩
theorem zh7 (F:Fun K "nearest" "nearest" zeD f fd)(B:Blt mg)(C_refuse_no_side:Cal P w K mg base 1 "refuse_no_side" ["way"] (spF K zaq))(C_refuse_not_open:Cal P w K mg base 14 "refuse_not_open" ["sheet","name"] (spF K zam))(C_part_of:Cal P w K mg base 11 "part_of" ["sheet","name"] (spF K zb3))(C_level_parts:Cal P w K mg base 13 "level_parts" ["sheet","name"] (spF K zbz))(C_lies:Cal P w K mg base 2 "lies" ["box","other","way"] (spF K ze8))(G_BOX:GlobD K mg "BOX" (.int 1))(G_WORD:GlobD K mg "WORD" (.int 2))(G_NAME:GlobD K mg "NAME" (.int 0)):FnOk P w K mg base CX0 (14+1) f fd ["sheet","name","way"] (spF K zbg):=
 za4 F sc_nearest ze1 fun cdv A outer s H E hr=>by
  have nd:=sc_nearest.nd
  have hu:=Nat.lt_of_succ_lt (zao hr)
  have hu2:=zao hr
  refine⟨_,(zab (zcU (zal C_refuse_no_side hr (zaa (vv 2) zae))) (zab (zcU (zal C_refuse_not_open hr (zaa (vv 0) (zaa (vv 1) zae)))) (zab (zaE (i:=3) nd rfl (Or.inl rfl) (zay (VE.w (zal C_part_of hr (zaa (vv 0) (zaa (vv 1) zae)))) (VE.w (zaC G_BOX)))) (zab (zdR (i:=4) nd rfl (Or.inl rfl) (za6 zae)) (zab (zbQ (ziT B (zaa (zal C_level_parts hr (zaa (vv 0) (zaa (vv 1) zae))) zae)) (zda rfl (zas (zar (i:=5) nd rfl (Or.inl rfl)) (zas (zar (i:=6) nd rfl (Or.inl rfl)) zb8))) (zab (zaE (i:=7) nd rfl (Or.inl rfl) (zal C_lies hr (zaa (vv 3) (zaa (zay (vr 6) (VE.w (zaC G_BOX))) (zaa (vv 2) zae))))) (zab (zbI (VP.t (zn9 (zaM zij ziP (vr 7) (VE.w zc8) (zaV _)) (zma (zaM (zcW hr) (zbm false) (VE.w (zay (vr 6) (VE.w (zaC G_WORD)))) (VE.w zav) (zaV _))))) (zab (zel 4 (zbr (zaa (vv 7) (zaa (vv 5) (zaa (zay (vr 6) (VE.w (zaC G_NAME))) zae))))) zak) zak) (zaL [5,6,7] zak)))) (zaj (zat (zgx (zcs (vr 4)) (zay (VE.w (ve_b (zjf hr) zmD B boot_min (zaQ (vr 4) zbH))) (VE.w zag)) zc8)))))))),zhW ?_⟩;intro p_sheet p_name p_way;unfold zdp;exact(zaf zgG fun u1=>(zaf zgG fun u2=>(zaf (zax rfl) fun x4=>(zaf (zdS rfl) fun x5=>(zaf (zi9 (emb:=(fun(s6:List D)=>[.val p_sheet,.val p_name,.val p_way,.val x4,.own 1 (.lst s6),.un,.un,.un])) rfl (fun _=>rfl) (fun _ _=>rfl) fun s6 y7=>(zaf (zax rfl) fun x8=>(zaf (zhV (emb:=(fun(s13:List D)=>[.val p_sheet,.val p_name,.val p_way,.val x4,.own 1 (.lst s13),.val y7.1,.val y7.2,.val x8])) (zaf (zeo rfl) fun x12=>(zaG fun _ h=>h)) (zaG fun _ h=>h)) fun s13=>(za5 [5,6,7] (zaG fun _ h=>h))))) fun s6=>(zau fun _ _ h=>h))))))
def zhr (p_sheet p_name:D):Option D:=
 (Option.bind (zam [p_sheet,p_name]) fun(u1:D)=>(Option.bind (Option.bind (Option.bind (Option.bind (Option.bind (zb3 [p_sheet,p_name]) fun v2=>(dIx v2 (.int 5))) dSeq) (zbk (fun d3=>(Option.bind (Option.bind (Option.bind (dIx d3 (.int 2)) fun v5=>((dEqG false) v5 (.str "free"))) dB) fun k4=>if k4 then(Option.bind (dIx d3 (.int 0)) fun z=>some (some z)) else some none)))) fun ds=>some (.lst ds)) fun(x6:D)=>(Option.bind (Option.bind (dTru x6) fun k7=>if k7 then(dIx x6 (.int 0)) else(some D.non)) fun(r8:D)=>(some r8))))
def ze9:List D->Option D:=c2 zhr
theorem sc_into:FnScope ["sheet","name","free"] ["sheet","name"] (zad zhp):=⟨rfl,rfl,rfl,by decide +kernel,rfl,by decide +kernel,by decide +kernel⟩
theorem zmZ (F:Fun K "into" "into" zhp f fd)(B:Blt mg)(C_refuse_not_open:Cal P w K mg base 14 "refuse_not_open" ["sheet","name"] (spF K zam))(C_part_of:Cal P w K mg base 11 "part_of" ["sheet","name"] (spF K zb3))(G_PARTS:GlobD K mg "PARTS" (.int 5))(G_WORD:GlobD K mg "WORD" (.int 2))(G_NAME:GlobD K mg "NAME" (.int 0)):FnOk P w K mg base CX0 (14+1) f fd ["sheet","name"] (spF K ze9):=
 za4 F sc_into zbw fun cdv A outer s H E hr=>by
  have nd:=sc_into.nd
  have hu:=Nat.lt_of_succ_lt (zao hr)
  have hu2:=zao hr
  refine⟨_,(zab (zcU (zal C_refuse_not_open hr (zaa (vv 0) (zaa (vv 1) zae)))) (zab (And.left (zgC ["sheet","name","free"] zhp (i:=2) (NC:=["part"]) [none] nd rfl (Or.inl rfl) rfl (za7 (zay (VE.w (zal C_part_of hr (zaa (vv 0) (zaa (vv 1) zae)))) (VE.w (zaC G_PARTS)))) (fun x h=>zaW h) rfl rfl rfl (by decide +kernel) (by decide +kernel) rfl (by decide +kernel) (by decide +kernel) rfl (by decide) (fun cl C s0 H0 ex pn=>(vgC 0 (by decide +kernel) rfl rfl)) (fun cl C s0 H0 ex pn=>(zfn (zaM (zcW hr) (zbm false) (VE.w (zay (vr 0) (VE.w (zaC G_WORD)))) (VE.w zav) (zaV _)))) (fun cl C s0 H0 ex pn=>(zay (vr 0) (VE.w (zaC G_NAME)))))) (zaj (zat (zgx (zcs (vr 2)) (zay (vr 2) (VE.w zag)) zc8))))),zcV ?_⟩;intro p_sheet p_name;unfold zhr;exact(zaf zgG fun u1=>(zaf (zax rfl) fun x6=>(zau fun _ _ h=>h)))
def zea (p_sheet p_name:D):Option D:=
 (Option.bind (zam [p_sheet,p_name]) fun(u1:D)=>(Option.bind (zd9 [p_sheet,p_name]) fun(x2:D)=>(Option.bind (Option.bind (dTru x2) fun k3=>if k3 then(Option.bind (dNeg (.int 1)) fun v4=>(dIx x2 v4)) else(some D.non)) fun(r5:D)=>(some r5))))
def zcJ:List D->Option D:=c2 zea
theorem sc_out_of:FnScope ["sheet","name","outer_names"] ["sheet","name"] (zad zfz):=⟨rfl,rfl,rfl,by decide +kernel,rfl,by decide +kernel,by decide +kernel⟩
theorem zjB (F:Fun K "out_of" "out_of" zfz f fd)(B:Blt mg)(C_refuse_not_open:Cal P w K mg base 14 "refuse_not_open" ["sheet","name"] (spF K zam))(C_around:Cal P w K mg base 13 "around" ["sheet","name"] (spF K zd9)):FnOk P w K mg base CX0 (14+1) f fd ["sheet","name"] (spF K zcJ):=
 za4 F sc_out_of zbw fun cdv A outer s H E hr=>by
  have nd:=sc_out_of.nd
  have hu:=Nat.lt_of_succ_lt (zao hr)
  have hu2:=zao hr
  refine⟨_,(zab (zcU (zal C_refuse_not_open hr (zaa (vv 0) (zaa (vv 1) zae)))) (zab (zaE (i:=2) nd rfl (Or.inl rfl) (zal C_around hr (zaa (vv 0) (zaa (vv 1) zae)))) (zaj (zat (zgx (zcs (vr 2)) (zay (vr 2) (VE.w (zhb zag))) zc8))))),zcV ?_⟩;intro p_sheet p_name;unfold zea;exact(zaf zgG fun u1=>(zaf (zax rfl) fun x2=>(zau fun _ _ h=>h)))
def zcA (p_key:D):Option D:=
 (Option.bind (Option.bind ((dInG true) p_key (.tup [(.str "on"),(.str "back"),(.str "up"),(.str "down"),(.str "left"),(.str "right"),(.str "into"),(.str "out")])) dB) fun k1=>if k1 then none else(some D.non))
def zbh:List D->Option D:=c1 zcA
theorem sc_refuse_no_key:FnScope ["key"] ["key"] (zad zbK):=⟨rfl,rfl,rfl,by decide +kernel,rfl,by decide +kernel,by decide +kernel⟩
theorem zd0 (F:Fun K "refuse_no_key" "refuse_no_key" zbK f fd)(B:Blt mg)(G_KEYS:GlobD K mg "KEYS" (.tup [(.str "on"),(.str "back"),(.str "up"),(.str "down"),(.str "left"),(.str "right"),(.str "into"),(.str "out")])):FnOk P w K mg base CX0 (0+1) f fd ["key"] (spF K zbh):=
 za4 F sc_refuse_no_key zcM fun cdv A outer s H E hr=>by
  have nd:=sc_refuse_no_key.nd
  have hu:=Nat.lt_of_succ_lt (zao hr)
  have hu2:=zao hr
  refine⟨_,(zab (zbI (zaM (zhj hr) (ze3 true) (vr 0) (VE.w (zaC G_KEYS)) rfl) (zaj zdc) zak) zak),zfs ?_⟩;intro p_key;unfold zcA;exact(zbs (zi5 rfl) (zcv (zaG fun _ h=>h)))
def zhs (p_sheet p_name p_key:D):Option D:=
 (Option.bind (zbh [p_key]) fun(u1:D)=>(Option.bind (Option.bind ((dEqG false) p_key (.str "on")) dB) fun k2=>if k2 then(Option.bind (zb4 [p_sheet,p_name]) fun(r3:D)=>(some r3)) else(Option.bind (Option.bind ((dEqG false) p_key (.str "back")) dB) fun k4=>if k4 then(Option.bind (zbp [p_sheet,p_name]) fun(r5:D)=>(some r5)) else(Option.bind (Option.bind ((dEqG false) p_key (.str "into")) dB) fun k6=>if k6 then(Option.bind (ze9 [p_sheet,p_name]) fun(r7:D)=>(some r7)) else(Option.bind (Option.bind ((dEqG false) p_key (.str "out")) dB) fun k8=>if k8 then(Option.bind (zcJ [p_sheet,p_name]) fun(r9:D)=>(some r9)) else(Option.bind (zbg [p_sheet,p_name,p_key]) fun(r10:D)=>(some r10)))))))
def zbi:List D->Option D:=c3 zhs
theorem sc_goes:FnScope ["sheet","name","key"] ["sheet","name","key"] (zad zjz):=⟨rfl,rfl,rfl,by decide +kernel,rfl,by decide +kernel,by decide +kernel⟩
theorem zm0 (F:Fun K "goes" "goes" zjz f fd)(B:Blt mg){Pc:Hp->Prop}(pe:Pers Pc)(C_refuse_no_key:Cal P w K mg base 1 "refuse_no_key" ["key"] (spF K zbh))(C_on_from:Cal P w K mg base 16 "on_from" ["sheet","name"] (pcS Pc (spF K zb4)))(C_back_from:Cal P w K mg base 16 "back_from" ["sheet","name"] (pcS Pc (spF K zbp)))(C_into:Cal P w K mg base 15 "into" ["sheet","name"] (spF K ze9))(C_out_of:Cal P w K mg base 15 "out_of" ["sheet","name"] (spF K zcJ))(C_nearest:Cal P w K mg base 15 "nearest" ["sheet","name","way"] (spF K zbg)):FnOk P w K mg base CX0 (16+1) f fd ["sheet","name","key"] (pcS Pc (spF K zbi)):=
 zcz pe F sc_goes ze1 fun cdv A outer s H E hcv hr hPc hp=>by
  have nd:=sc_goes.nd
  have hu:=Nat.lt_of_succ_lt (zao hr)
  have hu2:=zao hr
  refine⟨_,(zab (zcU (zal C_refuse_no_key hr (zaa (vv 2) zae))) (zab (zbI (zaM (zcW hr) (zbm false) (vr 2) (VE.w zav) (zaV _)) (zaj (zat (za0 C_on_from hp hr (zaa (vv 0) (zaa (vv 1) zae))))) zak) (zab (zbI (zaM (zcW hr) (zbm false) (vr 2) (VE.w zav) (zaV _)) (zaj (zat (za0 C_back_from hp hr (zaa (vv 0) (zaa (vv 1) zae))))) zak) (zab (zbI (zaM (zcW hr) (zbm false) (vr 2) (VE.w zav) (zaV _)) (zaj (zat (zal C_into hr (zaa (vv 0) (zaa (vv 1) zae))))) zak) (zab (zbI (zaM (zcW hr) (zbm false) (vr 2) (VE.w zav) (zaV _)) (zaj (zat (zal C_out_of hr (zaa (vv 0) (zaa (vv 1) zae))))) zak) (zaj (zat (zal C_nearest hr (zaa (vv 0) (zaa (vv 1) (zaa (vv 2) zae))))))))))),zhW ?_⟩;intro p_sheet p_name p_key;unfold zhs;exact(zaf zgG fun u1=>(zbs (zau fun _ _ h=>h) (zcv (zbs (zau fun _ _ h=>h) (zcv (zbs (zau fun _ _ h=>h) (zcv (zbs (zau fun _ _ h=>h) (zcv (zau fun _ _ h=>h))))))))))
def zaX (p_sheet p_other p_name:D):Option D:=
 (Option.bind (Option.bind (zbk (fun d1=>(Option.bind (Option.bind (aC (some p_name) (aC (some d1) (aC (zbi [p_sheet,p_name,d1]) (aC (zbi [p_other,p_name,d1]) aN)))) mkT) fun z=>some (some z))) [(.str "on"),(.str "back"),(.str "up"),(.str "down"),(.str "left"),(.str "right"),(.str "into"),(.str "out")]) fun ds=>some (.lst ds)) fun(x2:D)=>(Option.bind (Option.bind (Option.bind (dSeq x2) (zbk (fun d3=>(Option.bind (Option.bind (Option.bind (dIx d3 (.int 2)) fun v5=>(Option.bind (dIx d3 (.int 3)) fun v6=>((dEqG true) v5 v6))) dB) fun k4=>if k4 then(some (some d3)) else some none)))) fun ds=>some (.lst ds)) fun(r7:D)=>(some r7)))
def zaY:List D->Option D:=c3 zaX
theorem sc_differences_from:FnScope ["sheet","other","name","rows"] ["sheet","other","name"] (zad zaI):=⟨rfl,rfl,rfl,by decide +kernel,rfl,by decide +kernel,by decide +kernel⟩
theorem zc2 (F:Fun K "differences_from" "differences_from" zaI f fd)(B:Blt mg){Pc:Hp->Prop}(pe:Pers Pc)(C_goes:Cal P w K mg base 17 "goes" ["sheet","name","key"] (pcS Pc (spF K zbi)))(G_KEYS:GlobD K mg "KEYS" (.tup [(.str "on"),(.str "back"),(.str "up"),(.str "down"),(.str "left"),(.str "right"),(.str "into"),(.str "out")])):FnOk P w K mg base CX0 (17+1) f fd ["sheet","other","name"] (pcS Pc (spF K zaY)):=
 zcz pe F sc_differences_from ze1 fun cdv A outer s H E hcv hr hPc hp=>by
  have nd:=sc_differences_from.nd
  have hu:=Nat.lt_of_succ_lt (zao hr)
  have hu2:=zao hr
  refine⟨_,(zab (And.left (zhd ["sheet","other","name","rows"] zaI (i:=3) (NC:=["key","sheet","other","name"]) [none,some 0,some 1,some 2] nd rfl (Or.inl rfl) hp rfl (za7 (zaC G_KEYS)) (fun x h=>zaW h) rfl rfl rfl (by decide +kernel) (by decide +kernel) rfl (by decide +kernel) (by decide +kernel) rfl (by decide) (fun cl C s0 H0 ex pn=>(vgC 0 (by decide +kernel) rfl rfl)) (fun cl C s0 H0 ex pn=>zct) (fun cl C s0 H0 ex pn rH=>(zbr (zaa (vvC 3 rfl rfl rfl rfl) (zaa (vv 0) (zaa (za0 C_goes (Prs.of pe rH) hr (zaa (vvC 1 rfl rfl rfl rfl) (zaa (vvC 3 rfl rfl rfl rfl) (zaa (vv 0) zae)))) (zaa (za0 C_goes (Prs.of pe rH) hr (zaa (vvC 2 rfl rfl rfl rfl) (zaa (vvC 3 rfl rfl rfl rfl) (zaa (vv 0) zae)))) zae)))))))) (zaj (zat (VN.ve (zcT ["sheet","other","name","rows"] zaI (NC:=["row"]) [none] rfl (za7 (vv 3)) (fun x h=>zaW h) rfl rfl rfl (by decide +kernel) (by decide +kernel) rfl (by decide +kernel) (by decide +kernel) rfl (by decide) (fun cl C s0 H0 ex pn=>(vgC 0 (by decide +kernel) rfl rfl)) (fun cl C s0 H0 ex pn=>(zfn (zaM (zmz hr) (zbm true) (VE.w (zay (vr 0) (VE.w zag))) (VE.w (zay (vr 0) (VE.w zag))) (zaV _)))) (fun cl C s0 H0 ex pn=>(vv 0))))))),zhW ?_⟩;intro p_sheet p_other p_name;unfold zaX;exact(zaf (zax rfl) fun x2=>(zau fun _ _ h=>h))
def zbB (p_sheet p_other:D):Option (RV×List D):=
 (Option.bind (zbt [p_sheet]) fun(x1:D)=>(Option.bind (some ([]:List D)) fun(x2:List D)=>(Option.bind (Option.bind (Option.bind (zbt [p_other]) dSeq) (zaN (fun(s3:List D) (d4:D)=>(Option.bind (Option.bind (Option.bind ((dInG false) d4 x1) dB) fun k5=>if k5 then(Option.bind (Option.bind (zaY [p_sheet,p_other,d4]) (extL s3)) fun(x6:List D)=>(some x6)) else(some s3)) fun(s7:List D)=>(some s7))) x2)) fun(s3:List D)=>(some ((.new 1 (.lst s3)),[.non,.non])))))
def zaw:List D->Option (RV×List D):=g2 zbB
theorem sc_differences:FnScope ["sheet","other","known","rows","name"] ["sheet","other"] (zad zcd):=⟨rfl,rfl,rfl,by decide +kernel,rfl,by decide +kernel,by decide +kernel⟩
theorem zeS (F:Fun K "differences" "differences" zcd f fd)(B:Blt mg){Pc:Hp->Prop}(pe:Pers Pc)(C_open_parts:Cal P w K mg base 10 "open_parts" ["sheet"] (spF K zbt))(C_differences_from:Cal P w K mg base 18 "differences_from" ["sheet","other","name"] (pcS Pc (spF K zaY))):FnOk P w K mg base CX0 (18+1) f fd ["sheet","other"] (pcS Pc (spG K [none,none] zaw)):=
 zgM pe [none,none] F sc_differences rfl fun cdv A outer s H E hcv hr hPc hp=>by
  have nd:=sc_differences.nd
  have hu:=Nat.lt_of_succ_lt (zao hr)
  have hu2:=zao hr
  refine⟨_,(zab (zaE (i:=2) nd rfl (Or.inl rfl) (zal C_open_parts hr (zaa (vv 0) zae))) (zab (zdR (i:=3) nd rfl (Or.inl rfl) (za6 zae)) (zab (zbQ (za7 (zal C_open_parts hr (zaa (vv 1) zae))) (zar (i:=4) nd rfl (Or.inl rfl)) (zab (zbI (zaM (zkw hr) (ze3 false) (vr 4) (vr 2) rfl) (zab (ziZ 3 (za0 C_differences_from hp hr (zaa (vv 0) (zaa (vv 1) (zaa (vv 4) zae))))) zak) zak) (zaL [4] zak))) (zaj (zmg 3))))),zkE ?_⟩;intro p_sheet p_other;unfold zbB;exact(zaf (zax rfl) fun x1=>(zaf (zdS rfl) fun x2=>(zaf (zdB (emb:=(fun(s3:List D)=>[.val p_sheet,.val p_other,.val x1,.own 1 (.lst s3),.un])) rfl (fun _=>rfl) fun s3 d4=>(zaf (zhV (emb:=(fun(s7:List D)=>[.val p_sheet,.val p_other,.val x1,.own 1 (.lst s7),.val d4])) (zaf (zi6 rfl) fun x6=>(zaG fun _ h=>h)) (zaG fun _ h=>h)) fun s7=>(za5 [4] (zaG fun _ h=>h)))) fun s3=>(zmv rfl fun _ h=>h))))
def zch (S:Scr)(pLscript pLk:D):Option (RV×List D):=
 (Option.bind (Option.bind (Option.bind ((lenS S) pLscript) fun v2=>((dEqG false) v2 (.int 0))) dB) fun k1=>if k1 then(Option.bind (some ([(.int 0),(.int 0),pLk]:List D)) fun(r3:List D)=>(some ((.new 1 (.lst r3)),[.non,.non]))) else(Option.bind (Option.bind (aC (Option.bind (Option.bind ((lenS S) pLscript) fun v4=>(dMod pLk v4)) fun v5=>(ixS S pLscript v5)) (aC (some (.int 0)) (aC (some pLk) aN))) mkLs) fun(r6:List D)=>(some ((.new 1 (.lst r6)),[.non,.non]))))
def za9 (S:Scr):List D->Option (RV×List D):=g2 (zch S)
theorem scLfeed:FnScope ["_law_script","_law_k"] ["_law_script","_law_k"] (zad zcZ):=⟨rfl,rfl,rfl,by decide +kernel,rfl,by decide +kernel,by decide +kernel⟩
theorem zgc (F:Fun K "_law_feed" "_law_feed" zcZ f fd)(B:Blt mg){Pc:Hp->Prop}(pe:Pers Pc){S:Scr}(hSq:∀H,Pc H->SqF K S H):FnOk P w K mg base CX0 (0+1) f fd ["_law_script","_law_k"] (pcS Pc (spG K [none,none] (za9 S))):=
 zgM pe [none,none] F scLfeed rfl fun cdv A outer s H E hcv hr hPc hp=>by
  have nd:=scLfeed.nd
  have hS:Prs _ (SqF K S):=fun p σ H s I=>hSq _ (hp p σ H s I)
  have hu:=Nat.lt_of_succ_lt (zao hr)
  have hu2:=zao hr
  refine⟨_,(zab (zbI (zaM (zcW hr) (zbm false) (VE.w (zjs hS B (vv 0))) (VE.w zag) (zaV _)) (zaj (zek (za6 (zaa zag (zaa zag (zaa (vv 1) zae)))))) zak) (zaj (zek (za6 (zaa (zoE hS (vv 0) (zaZ zc5 zc9 (vr 1) (VE.w (zjs hS B (vv 0))))) (zaa zag (zaa (vv 1) zae))))))),zkE ?_⟩;intro pLscript pLk;unfold zch;exact(zbs (zgF fun _ _ h=>h) (zcv (zgF fun _ _ h=>h)))
def zci (pLfeed_here pLmany:D):Option (RV×List D):=
 (Option.bind (Option.bind (Option.bind (dIx pLfeed_here (.int 1)) fun v1=>(dAdd v1 (.int 1))) fun v2=>(zkJ pLfeed_here (.int 1) v2)) fun(x3:D)=>(Option.bind (Option.bind (Option.bind (dIx x3 (.int 0)) fun v5=>(Option.bind (dPow (.int 10) (.int 18)) fun v6=>(dGe v5 v6))) dB) fun k4=>if k4 then(Option.bind (Option.bind (dIx x3 (.int 0)) fun v7=>(dMod v7 pLmany)) fun(x8:D)=>(Option.bind (Option.bind (Option.bind (dIx x3 (.int 0)) fun v9=>(dFdiv v9 pLmany)) fun v10=>(zkJ x3 (.int 0) v10)) fun(x11:D)=>(Option.bind (some x8) fun(r12:D)=>(some (.told r12,[x11,.non]))))) else(Option.bind (Option.bind (Option.bind (Option.bind (dIx x3 (.int 0)) fun v13=>(dMod v13 (.int 1000003))) fun v15=>(Option.bind (Option.bind (dIx x3 (.int 2)) fun v14=>(dMul (.int 7919) v14)) fun v16=>(dAdd v15 v16))) fun v18=>(Option.bind (Option.bind (dIx x3 (.int 1)) fun v17=>(dMul (.int 104729) v17)) fun v19=>(dAdd v18 v19))) fun(x20:D)=>(Option.bind (Option.bind (dMul x20 (.int 48271)) fun v21=>(dMod v21 (.int 2147483647))) fun(x22:D)=>(Option.bind (Option.bind (Option.bind (Option.bind (Option.bind (dMod x22 (.int 65521)) fun v23=>(Option.bind (dIx x3 (.int 1)) fun v24=>(dAdd v23 v24))) fun v25=>(dMul x22 v25)) fun v26=>(dMod v26 (.int 2147483629))) fun v27=>(dMod v27 pLmany)) fun(r28:D)=>(some (.told r28,[x3,.non])))))))
def zap:List D->Option (RV×List D):=g2 zci
theorem scLnext:FnScope ["_law_feed_here","_law_many","_law_digit","_law_mixed"] ["_law_feed_here","_law_many"] (zad zc0):=⟨rfl,rfl,rfl,by decide +kernel,rfl,by decide +kernel,by decide +kernel⟩
theorem zgd (F:Fun K "_law_next" "_law_next" zc0 f fd)(B:Blt mg):FnOk P w K mg base CX0 (0+1) f fd ["_law_feed_here","_law_many"] (spG K [some 1,none] zap):=
 zji [some 1,none] F scLnext rfl fun cdv A outer s H E hr=>by
  have nd:=scLnext.nd
  have hu:=Nat.lt_of_succ_lt (zao hr)
  have hu2:=zao hr
  refine⟨_,(zab (zi4 0 (VE.x (zaZ zcn zbl (VE.w (zay (vr 0) (VE.w zag))) (VE.w zag))) zag) (zab (zbI (zaM zpg zpp (VE.w (zay (vr 0) (VE.w zag))) (VE.w (zaZ zk2 zlc (VE.w zag) (VE.w zag))) (zaV _)) (zab (zaE (i:=2) nd rfl (Or.inl rfl) (zaZ zc5 zc9 (VE.w (zay (vr 0) (VE.w zag))) (vr 1))) (zab (zi4 0 (VE.x (zaZ zlI zmc (VE.w (zay (vr 0) (VE.w zag))) (vr 1))) zag) (zaj (zat (vv 2))))) zak) (zab (zaE (i:=3) nd rfl (Or.inl rfl) (zaZ zcn zbl (VE.w (zaZ zcn zbl (VE.w (zaZ zc5 zc9 (VE.w (zay (vr 0) (VE.w zag))) (VE.w zag))) (VE.w (zaZ zhS zeZ (VE.w zag) (VE.w (zay (vr 0) (VE.w zag))))))) (VE.w (zaZ zhS zeZ (VE.w zag) (VE.w (zay (vr 0) (VE.w zag))))))) (zab (zaE (i:=3) nd rfl (Or.inl rfl) (zaZ zc5 zc9 (VE.w (zaZ zhS zeZ (vr 3) (VE.w zag))) (VE.w zag))) (zaj (zat (zaZ zc5 zc9 (VE.w (zaZ zc5 zc9 (VE.w (zaZ zhS zeZ (vr 3) (VE.w (zaZ zcn zbl (VE.w (zaZ zc5 zc9 (vr 3) (VE.w zag))) (VE.w (zay (vr 0) (VE.w zag))))))) (VE.w zag))) (vr 1)))))))),zkE ?_⟩;intro pLfeed_here pLmany;unfold zci;exact(zaf (zhn rfl) fun x3=>(zbs (zaf (zax rfl) fun x8=>(zaf (zhn rfl) fun x11=>(zau fun _ _ h=>h))) (zcv (zaf (zax rfl) fun x20=>(zaf (zax rfl) fun x22=>(zau fun _ _ h=>h))))))
def zcj (S:Scr)(pLscript pLstart:D):Option D:=
 (Option.bind (Option.bind (Option.bind (Option.bind (some [pLscript,pLstart]) fun d=>some (d,())) fun q2=>Option.bind ((za9 S) q2.1) fun r3=>if q2.1.length=2 then some (r3.1,q2.2) else none) newD) fun(q4:D×Unit)=>(Option.bind (Option.bind (zet zap ((fun(s:D) e=>e) q4.1) [q4.1,(.int 9)]) fun q6=>some (q6.1.d,q6.2)) fun(q7:D×D)=>(Option.bind (some ([]:List D)) fun(x8:List D)=>(Option.bind (dSub (.int 0) (.int 1)) fun(x9:D)=>(Option.bind (Option.bind (Option.bind (Option.bind (Option.bind (zet zap ((fun(s:D) e=>e) q7.2) [q7.2,(.int 7)]) fun q11=>some (q11.1.d,q11.2)) fun q12=>Option.bind (some ([],q12.2)) fun q13=>some (q12.1::q13.1,q13.2)) fun q14=>Option.bind (rngA q14.1) fun ds=>some (ds,q14.2)) fun q91=>(zaN (fun(s15:D×List D×D) (d16:D)=>(Option.bind (Option.bind (Option.bind (Option.bind (aC (some pLscript) (aC (Option.bind (dAdd pLstart (.int 1)) fun v18=>(dAdd v18 d16)) aN)) fun d=>some (d,())) fun q19=>Option.bind ((za9 S) q19.1) fun r20=>if q19.1.length=2 then some (r20.1,q19.2) else none) newD) fun(q21:D×Unit)=>(Option.bind (Option.bind (zmE zap [some 1,none] 0 1 (fun(s:D)=>s) (fun(s:D) e=>e) (Option.bind (Option.bind (Option.bind (Option.bind (aC (some (.int 3)) (aC (dAdd s15.2.2 (.int 2)) aN)) bMin) fun d=>some (d,q21.1)) fun q23=>Option.bind (some ([],q23.2)) fun q24=>some (some q23.1::q24.1,q24.2)) fun q25=>some (none::q25.1,q25.2))) fun q26=>some (q26.1.d,q26.2)) fun(q27:D×D)=>(Option.bind (Option.bind (Option.bind (dAdd q7.1 d16) fun v28=>(dMod v28 (.int 9))) fun v29=>(dIx (.lst [(.str "a"),(.str "ab"),(.str "abc"),(.str "b"),(.str "ba"),(.str "zz"),(.str "zzzzzzzz"),(.str "q"),(.str "focus")]) v29)) fun(x30:D)=>(Option.bind (Option.bind (Option.bind (Option.bind (Option.bind (aC (some (.int 1)) (aC (some (.int 1)) (aC (some (.int 1)) (aC (dPow (.int 10) (.int 59)) aN)))) mkLs) fun ds=>some (.lst ds)) fun d=>some (d,q27.2)) fun q32=>Option.bind (Option.bind (zet zap ((fun(s:D) e=>e) q32.2) [q32.2,(.int 4)]) fun q33=>some (q33.1.d,q33.2)) fun q34=>Option.bind (dIx q32.1 q34.1) fun d35=>some (d35,q34.2)) fun(q36:D×D)=>(Option.bind (Option.bind (Option.bind (Option.bind (Option.bind (zet zap ((fun(s:D) e=>e) q36.2) [q36.2,(.int 9)]) fun q38=>some (q38.1.d,q38.2)) fun q39=>Option.bind (Option.bind (some q36.1) fun d=>some (d,q39.2)) fun q40=>Option.bind (dMul q39.1 q40.1) fun d41=>some (d41,q40.2)) fun q42=>Option.bind (Option.bind (Option.bind (Option.bind (zet zap ((fun(s:D) e=>e) q42.2) [q42.2,(.int 9)]) fun q43=>some (q43.1.d,q43.2)) fun q44=>Option.bind (Option.bind (some q36.1) fun d=>some (d,q44.2)) fun q45=>Option.bind (dMul q44.1 q45.1) fun d46=>some (d46,q45.2)) fun q47=>Option.bind (Option.bind (Option.bind (Option.bind (some (.int 1)) fun d=>some (d,q47.2)) fun q48=>Option.bind (Option.bind (zet zap ((fun(s:D) e=>e) q48.2) [q48.2,(.int 4)]) fun q49=>some (q49.1.d,q49.2)) fun q50=>Option.bind (dAdd q48.1 q50.1) fun d51=>some (d51,q50.2)) fun q52=>Option.bind (Option.bind (Option.bind (Option.bind (some (.int 1)) fun d=>some (d,q52.2)) fun q53=>Option.bind (Option.bind (zet zap ((fun(s:D) e=>e) q53.2) [q53.2,(.int 4)]) fun q54=>some (q54.1.d,q54.2)) fun q55=>Option.bind (dAdd q53.1 q55.1) fun d56=>some (d56,q55.2)) fun q57=>Option.bind (some ([],q57.2)) fun q58=>some (q57.1::q58.1,q58.2)) fun q59=>some (q52.1::q59.1,q59.2)) fun q60=>some (q47.1::q60.1,q60.2)) fun q61=>some (q42.1::q61.1,q61.2)) fun q62=>Option.bind (mkT q62.1) fun d63=>some (d63,q62.2)) fun(q64:D×D)=>(Option.bind (Option.bind (Option.bind (some (.lst [(.str "free"),(.str "free"),(.str "free"),(.str "free"),(.str "shut"),(.str "hidden")])) fun d=>some (d,q64.2)) fun q66=>Option.bind (Option.bind (zet zap ((fun(s:D) e=>e) q66.2) [q66.2,(.int 6)]) fun q67=>some (q67.1.d,q67.2)) fun q68=>Option.bind (dIx q66.1 q68.1) fun d69=>some (d69,q68.2)) fun(q70:D×D)=>(Option.bind (Option.bind (Option.bind (Option.bind (Option.bind (some q27.1) fun d=>some (d,q70.2)) fun q72=>Option.bind (Option.bind (Option.bind (some x30) fun d=>some (d,q72.2)) fun q73=>Option.bind (Option.bind (Option.bind (some q64.1) fun d=>some (d,q73.2)) fun q74=>Option.bind (Option.bind (Option.bind (some q70.1) fun d=>some (d,q74.2)) fun q75=>Option.bind (Option.bind (Option.bind (Option.bind (some (.lst [(.int 0),(.int 0),(.int 1),(.int 2)])) fun d=>some (d,q75.2)) fun q76=>Option.bind (Option.bind (zet zap ((fun(s:D) e=>e) q76.2) [q76.2,(.int 4)]) fun q77=>some (q77.1.d,q77.2)) fun q78=>Option.bind (dIx q76.1 q78.1) fun d79=>some (d79,q78.2)) fun q80=>Option.bind (some ([],q80.2)) fun q81=>some (q80.1::q81.1,q81.2)) fun q82=>some (q75.1::q82.1,q82.2)) fun q83=>some (q74.1::q83.1,q83.2)) fun q84=>some (q73.1::q84.1,q84.2)) fun q85=>some (q72.1::q85.1,q85.2)) fun q86=>Option.bind (mkT q86.1) fun d87=>some (d87,q86.2)) fun q88=>Option.bind (appL ((fun _=>s15.2.1) q88.2) q88.1) fun ys=>some (ys,q88.2)) fun(q89:List D×D)=>(some (q89.2,q89.1,q27.1)))))))))) (q91.2,x8,x9) q91.1)) fun(s15:D×List D×D)=>(Option.bind (some (.lst s15.2.1)) fun(r90:D)=>(some r90)))))))
def zbN (S:Scr):List D->Option D:=c2 (zcj S)
theorem scLrows:FnScope ["_law_script","_law_start","_law_feed_here","_law_turn","_law_rows_here","_law_deep","_law_k","_law_name","_law_far","_law_box","_law_word"] ["_law_script","_law_start"] (zad zc1):=⟨rfl,rfl,rfl,by decide +kernel,rfl,by decide +kernel,by decide +kernel⟩
theorem zge (F:Fun K "_law_rows" "_law_rows" zc1 f fd)(B:Blt mg){Pc:Hp->Prop}(pe:Pers Pc){S:Scr}(CLfeed:Cal P w K mg base 1 "_law_feed" ["_law_script","_law_k"] (pcS Pc (spG K [none,none] (za9 S))))(CLnext:Cal P w K mg base 1 "_law_next" ["_law_feed_here","_law_many"] (spG K [some 1,none] zap)):FnOk P w K mg base CX0 (4+1) f fd ["_law_script","_law_start"] (pcS Pc (spF K (zbN S))):=
 zcz pe F scLrows zbw fun cdv A outer s H E hcv hr hPc hp=>by
  have nd:=scLrows.nd
  have hu:=Nat.lt_of_succ_lt (zao hr)
  have hu2:=zao hr
  refine⟨_,(zab (zi3 (i:=2) nd rfl (Or.inl rfl) (zex CLfeed hp hr (VA.x (zaa (vv 0) (zaa (vv 1) zae))))) (zab (zdA (i:=3) nd rfl (Or.inl rfl) (VR.x (zbY 0 2 1 CLnext hr (zbX (zeM (VE.x zag) zbW))))) (zab (zdR (i:=4) nd rfl (Or.inl rfl) (za6 zae)) (zab (zaE (i:=5) nd rfl (Or.inl rfl) (zaZ zgY zg9 (VE.w zag) (VE.w zag))) (zab (zmm (zhU B (zbq (VR.x (zbY 0 2 1 CLnext hr (zbX (zeM (VE.x zag) zbW)))) zgD)) (zar (i:=6) nd rfl (Or.inl rfl)) (zab (zi3 (i:=2) nd rfl (Or.inl rfl) (zex CLfeed hp hr (VA.x (zaa (vv 0) (zaa (zaZ zcn zbl (VE.w (zaZ zcn zbl (vr 1) (VE.w zag))) (vr 6)) zae))))) (zab (zdA (i:=5) nd rfl (Or.inl rfl) (VR.x (zbY 0 2 1 CLnext hr (zbX (zeM (VE.x (ve_b (zfK rfl) zlg B boot_min (zaQ (VE.w zag) (zaQ (VE.w (zaZ zcn zbl (vr 5) (VE.w zag))) zbH)))) zbW))))) (zab (zaE (i:=7) nd rfl (Or.inl rfl) (zay (VE.w (VN.ve (za6 (zaa zav (zaa zav (zaa zav (zaa zav (zaa zav (zaa zav (zaa zav (zaa zav (zaa zav zae)))))))))))) (VE.w (zaZ zc5 zc9 (VE.w (zaZ zcn zbl (vr 3) (vr 6))) (VE.w zag))))) (zab (zdA (i:=8) nd rfl (Or.inl rfl) (zmh (VE.x (VN.ve (za6 (zaa zag (zaa zag (zaa zag (zaa (zaZ zk2 zlc (VE.w zag) (VE.w zag)) zae))))))) (VR.x (zbY 0 2 1 CLnext hr (zbX (zeM (VE.x zag) zbW)))))) (zab (zdA (i:=9) nd rfl (Or.inl rfl) (zll (zbq (zkj zhS zeZ (VR.x (zbY 0 2 1 CLnext hr (zbX (zeM (VE.x zag) zbW)))) (VE.x (vv 8))) (zbq (zkj zhS zeZ (VR.x (zbY 0 2 1 CLnext hr (zbX (zeM (VE.x zag) zbW)))) (VE.x (vv 8))) (zbq (zkj zcn zbl (VE.x zag) (VR.x (zbY 0 2 1 CLnext hr (zbX (zeM (VE.x zag) zbW))))) (zbq (zkj zcn zbl (VE.x zag) (VR.x (zbY 0 2 1 CLnext hr (zbX (zeM (VE.x zag) zbW))))) zgD)))))) (zab (zdA (i:=10) nd rfl (Or.inl rfl) (zmh (VE.x (VN.ve (za6 (zaa zav (zaa zav (zaa zav (zaa zav (zaa zav (zaa zav zae))))))))) (VR.x (zbY 0 2 1 CLnext hr (zbX (zeM (VE.x zag) zbW)))))) (zab (zmk 4 (zll (zbq (VE.x (vv 5)) (zbq (VE.x (vv 7)) (zbq (VE.x (vv 9)) (zbq (VE.x (vv 10)) (zbq (zmh (VE.x (VN.ve (za6 (zaa zag (zaa zag (zaa zag (zaa zag zae))))))) (VR.x (zbY 0 2 1 CLnext hr (zbX (zeM (VE.x zag) zbW))))) zgD))))))) (zaL [6,7,8,9,10] zak))))))))) (zdz 4 (zaj (zat (vv 4))))))))),zcV ?_⟩;intro pLscript pLstart;unfold zcj;exact(zaf (zjt (emb:=(fun(s1:Unit)=>[.val pLscript,.val pLstart,.un,.un,.un,.un,.un,.un,.un,.un,.un])) (zeu (zjh rfl)) fun _=>rfl) fun q4=>(zaf (zdD (emb:=(fun(s5:D)=>[.val pLscript,.val pLstart,.own 1 s5,.un,.un,.un,.un,.un,.un,.un,.un])) (zes (zbe (put:=((fun(s:D) e=>e) q4.1)) (as:=[none,some (.int 9)]) (d:=q4.1) rfl rfl rfl fun _=>rfl)) fun _=>rfl) fun q7=>(zaf (zdS rfl) fun x8=>(zaf (zax rfl) fun x9=>(zaf (zkC (emb:=(fun(s15:D×List D×D)=>[.val pLscript,.val pLstart,.own 1 s15.1,.val q7.1,.own 1 (.lst s15.2.1),.val s15.2.2,.un,.un,.un,.un,.un])) (emb0:=(fun(s10:D)=>[.val pLscript,.val pLstart,.own 1 s10,.val q7.1,.own 1 (.lst x8),.val x9,.un,.un,.un,.un,.un])) (ini:=(fun(z92:D)=>(z92,x8,x9))) (zkD (za8 (zes (zbe (put:=((fun(s:D) e=>e) q7.2)) (as:=[none,some (.int 7)]) (d:=q7.2) rfl rfl rfl fun _=>rfl)) fun q12=>(zfu rfl))) (fun _=>rfl) (fun _=>rfl) fun s15 d16=>(zaf (zjt (emb:=(fun(s17:Unit)=>[.val pLscript,.val pLstart,.own 1 s15.1,.val q7.1,.own 1 (.lst s15.2.1),.val s15.2.2,.val d16,.un,.un,.un,.un])) (zeu (zjh rfl)) fun _=>rfl) fun q21=>(zaf (zdD (emb:=(fun(s22:D)=>[.val pLscript,.val pLstart,.own 1 s22,.val q7.1,.own 1 (.lst s15.2.1),.val s15.2.2,.val d16,.un,.un,.un,.un])) (zes (zkA (get:=(fun(s:D)=>s)) (put:=(fun(s:D) e=>e)) (zkz rfl (zoy (zdY rfl) fun q23=>(zky rfl))) (fun _=>rfl) fun _ _=>rfl)) fun _=>rfl) fun q27=>(zaf (zax rfl) fun x30=>(zaf (zdD (emb:=(fun(s31:D)=>[.val pLscript,.val pLstart,.own 1 s31,.val q7.1,.own 1 (.lst s15.2.1),.val q27.1,.val d16,.val x30,.un,.un,.un])) (zgI (zdY rfl) fun q32=>(zes (zbe (put:=((fun(s:D) e=>e) q32.2)) (as:=[none,some (.int 4)]) (d:=q32.2) rfl rfl rfl fun _=>rfl))) fun _=>rfl) fun q36=>(zaf (zdD (emb:=(fun(s37:D)=>[.val pLscript,.val pLstart,.own 1 s37,.val q7.1,.own 1 (.lst s15.2.1),.val q27.1,.val d16,.val x30,.val q36.1,.un,.un])) (zjg (za8 (zgI (zes (zbe (put:=((fun(s:D) e=>e) q36.2)) (as:=[none,some (.int 9)]) (d:=q36.2) rfl rfl rfl fun _=>rfl)) fun q39=>(zdY rfl)) fun q42=>(za8 (zgI (zes (zbe (put:=((fun(s:D) e=>e) q42.2)) (as:=[none,some (.int 9)]) (d:=q42.2) rfl rfl rfl fun _=>rfl)) fun q44=>(zdY rfl)) fun q47=>(za8 (zgI (zdY rfl) fun q48=>(zes (zbe (put:=((fun(s:D) e=>e) q48.2)) (as:=[none,some (.int 4)]) (d:=q48.2) rfl rfl rfl fun _=>rfl))) fun q52=>(za8 (zgI (zdY rfl) fun q53=>(zes (zbe (put:=((fun(s:D) e=>e) q53.2)) (as:=[none,some (.int 4)]) (d:=q53.2) rfl rfl rfl fun _=>rfl))) fun q57=>(zfu rfl)))))) fun _=>rfl) fun q64=>(zaf (zdD (emb:=(fun(s65:D)=>[.val pLscript,.val pLstart,.own 1 s65,.val q7.1,.own 1 (.lst s15.2.1),.val q27.1,.val d16,.val x30,.val q36.1,.val q64.1,.un])) (zgI (zdY rfl) fun q66=>(zes (zbe (put:=((fun(s:D) e=>e) q66.2)) (as:=[none,some (.int 6)]) (d:=q66.2) rfl rfl rfl fun _=>rfl))) fun _=>rfl) fun q70=>(zaf (zmF (emb:=(fun(s71:D)=>[.val pLscript,.val pLstart,.own 1 s71,.val q7.1,.own 1 (.lst s15.2.1),.val q27.1,.val d16,.val x30,.val q36.1,.val q64.1,.val q70.1])) (get:=(fun _=>s15.2.1)) rfl (zjg (za8 (zdY rfl) fun q72=>(za8 (zdY rfl) fun q73=>(za8 (zdY rfl) fun q74=>(za8 (zdY rfl) fun q75=>(za8 (zgI (zdY rfl) fun q76=>(zes (zbe (put:=((fun(s:D) e=>e) q76.2)) (as:=[none,some (.int 4)]) (d:=q76.2) rfl rfl rfl fun _=>rfl))) fun q80=>(zfu rfl))))))) fun _=>rfl) fun q89=>(za5 [6,7,8,9,10] (zaG fun _ h=>h)))))))))) fun s15=>(ze0 4 (zau fun _ _ h=>h)))))))
def zck (pLrows_here:D):Option D:=
 (Option.bind (some ()) fun(u1:Unit)=>(Option.bind (Option.bind (zpx [pLrows_here]) (zaN (fun(s2:List D) (d12:D)=>Option.bind (un5 d12) fun(y3:D×D×D×D×D)=>(Option.bind (Option.bind (aC (Option.bind (Option.bind (Option.bind (dAdd y3.1 (.int 1)) fun v4=>(ix2C s2 v4)) fun v5=>(Option.bind (dLst v5) fun ds=>some ds.reverse)) fun ds=>some (.lst ds)) aN) bTuple) fun(x6:D)=>(Option.bind (Option.bind (dAdd y3.1 (.int 1)) fun v7=>(zmR s2 [] v7)) fun(x8:List D)=>(Option.bind (zkI x8 y3.1 (.tup [y3.2.1,y3.2.2.1,y3.2.2.2.1,y3.2.2.2.2,D.non,x6])) fun(x9:List D)=>(some x9))))) [D.lst [],D.lst [],D.lst [],D.lst [],D.lst []])) fun(s2:List D)=>(Option.bind (Option.bind (aC (Option.bind (Option.bind (ix2C s2 (.int 0)) fun v10=>(Option.bind (dLst v10) fun ds=>some ds.reverse)) fun ds=>some (.lst ds)) aN) bTuple) fun(r11:D)=>(some r11))))
def zaR:List D->Option D:=c1 zck
theorem scLhung:FnScope ["_law_rows_here","_law_waiting","_law_deep","_law_name","_law_box","_law_word","_law_rank","_law_parts"] ["_law_rows_here"] (zad zce):=⟨rfl,rfl,rfl,by decide +kernel,rfl,by decide +kernel,by decide +kernel⟩
theorem zgf (F:Fun K "_law_hung" "_law_hung" zce f fd)(B:Blt mg):FnOk P w K mg base CX0 (1+1) f fd ["_law_rows_here"] (spF K zaR):=
 za4 F scLhung zcM fun cdv A outer s H E hr=>by
  have nd:=scLhung.nd
  have hu:=Nat.lt_of_succ_lt (zao hr)
  have hu2:=zao hr
  refine⟨_,(zab (zkq ["_law_rows_here","_law_waiting","_law_deep","_law_name","_law_box","_law_word","_law_rank","_law_parts"] zce (i:=1) (NC:=["_law_deep"]) [none] nd rfl (Or.inl rfl) rfl (zf1 B (zaa zag zae)) (fun x h=>zaW h) rfl rfl rfl (by decide +kernel) (by decide +kernel) rfl (by decide +kernel) (by decide +kernel) rfl (by decide) (fun cl C s0 H0 ex pn=>(vgC 0 (by decide +kernel) rfl rfl)) (fun cl C s0 H0 ex pn=>(za6 zae))) (zab (zbQ (zms B (zaa (vv 0) zae)) (zda rfl (zas (zar (i:=2) nd rfl (Or.inl rfl)) (zas (zar (i:=3) nd rfl (Or.inl rfl)) (zas (zar (i:=4) nd rfl (Or.inl rfl)) (zas (zar (i:=5) nd rfl (Or.inl rfl)) (zas (zar (i:=6) nd rfl (Or.inl rfl)) zb8)))))) (zab (zaE (i:=7) nd rfl (Or.inl rfl) (zob zc6 zhc B boot_tuple (zaQ (VE.w (VN.ve (zld (zln 1 (zaZ zcn zbl (vr 2) (VE.w zag)))))) zbH))) (zab (zmq 1 (za6 zae) (zaZ zcn zbl (vr 2) (VE.w zag))) (zab (zmo 1 (vv 2) (zbr (zaa (vv 3) (zaa (vv 4) (zaa (vv 5) (zaa (vv 6) (zaa zc8 (zaa (vv 7) zae)))))))) (zaL [2,3,4,5,6,7] zak))))) (zaj (zat (zob zc6 zhc B boot_tuple (zaQ (VE.w (VN.ve (zld (zln 1 zag)))) zbH)))))),zfs ?_⟩;intro pLrows_here;unfold zck;exact(zaf (zmy (n:=2) (x:=.lst [D.lst [],D.lst [],D.lst [],D.lst [],D.lst []]) rfl rfl) fun u1=>(zaf (zju (emb:=(fun(s2:List D)=>[.val pLrows_here,.own 2 (.lst s2),.un,.un,.un,.un,.un,.un])) (emb2:=(fun(s2:List D) (y3:D×D×D×D×D)=>[.val pLrows_here,.own 2 (.lst s2),.val y3.1,.val y3.2.1,.val y3.2.2.1,.val y3.2.2.2.1,.val y3.2.2.2.2,.un])) rfl (fun _=>rfl) (fun _ _=>rfl) (fun _ _ _=>rfl) (fun _ _ _ _=>rfl) (fun _ _ _ _ _=>rfl) (fun _ _=>rfl) fun s2 y3=>(zaf (zax rfl) fun x6=>(zaf (zmS rfl) fun x8=>(zaf (zmT rfl) fun x9=>(za5 [2,3,4,5,6,7] (zaG fun _ h=>h)))))) fun s2=>(zau fun _ _ h=>h)))
def zbC (pLrows_here:D):Option D:=
 (Option.bind (some ([]:List D)) fun(x1:List D)=>(Option.bind (some (.lst [])) fun(x2:D)=>(Option.bind (Option.bind (dSeq pLrows_here) (zaN (fun(s3:List D×D) (d13:D)=>Option.bind (un5 d13) fun(y4:D×D×D×D×D)=>(Option.bind (Option.bind (Option.bind (Option.bind (dInt y4.1) fun i=>some (some i)) fun v5=>(dSl s3.2 none v5)) fun v6=>(dAdd v6 (.lst [y4.2.2.2.1]))) fun(x7:D)=>(Option.bind (Option.bind (Option.bind (Option.bind (aC (Option.bind (Option.bind (dSeq x7) (zbk (fun d9=>(Option.bind ((dEqG false) d9 (.str "free")) fun z=>some (some z))))) fun ds=>some (.lst ds)) aN) bAll) dTru) fun k8=>if k8 then(Option.bind (appL s3.1 y4.2.1) fun(x10:List D)=>(some x10)) else(some s3.1)) fun(s11:List D)=>(some (s11,x7))))) (x1,x2))) fun(s3:List D×D)=>(Option.bind (some (.lst s3.1)) fun(r12:D)=>(some r12)))))
def zbj:List D->Option D:=c1 zbC
theorem scLopened:FnScope ["_law_rows_here","_law_names","_law_line","_law_deep","_law_name","_law_box","_law_word","_law_rank"] ["_law_rows_here"] (zad zby):=⟨rfl,rfl,rfl,by decide +kernel,rfl,by decide +kernel,by decide +kernel⟩
theorem zeT (F:Fun K "_law_opened" "_law_opened" zby f fd)(B:Blt mg):FnOk P w K mg base CX0 (1+1) f fd ["_law_rows_here"] (spF K zbj):=
 za4 F scLopened zcM fun cdv A outer s H E hr=>by
  have nd:=scLopened.nd
  have hu:=Nat.lt_of_succ_lt (zao hr)
  have hu2:=zao hr
  refine⟨_,(zab (zdR (i:=1) nd rfl (Or.inl rfl) (za6 zae)) (zab (zaE (i:=2) nd rfl (Or.inl rfl) (VN.ve (za6 zae))) (zab (zbQ (za7 (vv 0)) (zda rfl (zas (zar (i:=3) nd rfl (Or.inl rfl)) (zas (zar (i:=4) nd rfl (Or.inl rfl)) (zas (zar (i:=5) nd rfl (Or.inl rfl)) (zas (zar (i:=6) nd rfl (Or.inl rfl)) (zas (zar (i:=7) nd rfl (Or.inl rfl)) zb8)))))) (zab (zaE (i:=2) nd rfl (Or.inl rfl) (zaZ zcn zbl (VE.w (zha (vr 2) ziQ (ziR (vv 3)))) (VE.w (VN.ve (za6 (zaa (vv 6) zae)))))) (zab (zbI (zcs (VE.w (ve_b (zfo rfl) zog B boot_all (zaQ (VE.w (VN.ve (zcT ["_law_rows_here","_law_names","_law_line","_law_deep","_law_name","_law_box","_law_word","_law_rank"] zby (NC:=["_law_one"]) [none] rfl (za7 (vv 2)) (fun x h=>zaW h) rfl rfl rfl (by decide +kernel) (by decide +kernel) rfl (by decide +kernel) (by decide +kernel) rfl (by decide) (fun cl C s0 H0 ex pn=>(vgC 0 (by decide +kernel) rfl rfl)) (fun cl C s0 H0 ex pn=>zct) (fun cl C s0 H0 ex pn=>(ziN (zcW hr) (zbm false) (vr 0) (VE.w zav) (zaV _)))))) zbH)))) (zab (zel 1 (vv 4)) zak) zak) (zaL [3,4,5,6,7] zak)))) (zdz 1 (zaj (zat (vv 1))))))),zfs ?_⟩;intro pLrows_here;unfold zbC;exact(zaf (zdS rfl) fun x1=>(zaf (zax rfl) fun x2=>(zaf (zju (emb:=(fun(s3:List D×D)=>[.val pLrows_here,.own 1 (.lst s3.1),.val s3.2,.un,.un,.un,.un,.un])) (emb2:=(fun(s3:List D×D) (y4:D×D×D×D×D)=>[.val pLrows_here,.own 1 (.lst s3.1),.val s3.2,.val y4.1,.val y4.2.1,.val y4.2.2.1,.val y4.2.2.2.1,.val y4.2.2.2.2])) rfl (fun _=>rfl) (fun _ _=>rfl) (fun _ _ _=>rfl) (fun _ _ _ _=>rfl) (fun _ _ _ _ _=>rfl) (fun _ _=>rfl) fun s3 y4=>(zaf (zax rfl) fun x7=>(zaf (zhV (emb:=(fun(s11:List D)=>[.val pLrows_here,.own 1 (.lst s11),.val x7,.val y4.1,.val y4.2.1,.val y4.2.2.1,.val y4.2.2.2.1,.val y4.2.2.2.2])) (zaf (zeo rfl) fun x10=>(zaG fun _ h=>h)) (zaG fun _ h=>h)) fun s11=>(za5 [3,4,5,6,7] (zaG fun _ h=>h))))) fun s3=>(ze0 1 (zau fun _ _ h=>h)))))
def zcK (pLone pLother pLsheets:D):Option D:=
 (Option.bind (some ([]:List D)) fun(x1:List D)=>(Option.bind (Option.bind (Option.bind (zbj [pLother]) dSeq) (zaN (fun(s2:List D) (d3:D)=>(Option.bind (Option.bind (Option.bind (Option.bind (zbj [pLone]) fun v5=>((dInG false) d3 v5)) dB) fun k4=>if k4 then(Option.bind (Option.bind (some [(.str "on"),(.str "back"),(.str "up"),(.str "down"),(.str "left"),(.str "right"),(.str "into"),(.str "out")]) (zaN (fun(s6:List D) (d7:D)=>(Option.bind (Option.bind (aC (dIx pLsheets (.int 0)) (aC (some d3) (aC (some d7) aN))) zbi) fun(x8:D)=>(Option.bind (Option.bind (aC (dIx pLsheets (.int 1)) (aC (some d3) (aC (some d7) aN))) zbi) fun(x9:D)=>(Option.bind (Option.bind (Option.bind ((dEqG true) x8 x9) dB) fun k10=>if k10 then(Option.bind (appL s6 (.tup [d3,d7,x8,x9])) fun(x11:List D)=>(some x11)) else(some s6)) fun(s12:List D)=>(some s12))))) s2)) fun(s6:List D)=>(some s6)) else(some s2)) fun(s13:List D)=>(some s13))) x1)) fun(s2:List D)=>(Option.bind (some (.lst s2)) fun(r14:D)=>(some r14))))
def zb5:List D->Option D:=c3 zcK
theorem scLdue:FnScope ["_law_one","_law_other","_law_sheets","_law_due_here","_law_name","_law_key","_law_was","_law_now"] ["_law_one","_law_other","_law_sheets"] (zad zdM):=⟨rfl,rfl,rfl,by decide +kernel,rfl,by decide +kernel,by decide +kernel⟩
theorem zgS (F:Fun K "_law_due" "_law_due" zdM f fd)(B:Blt mg){Pc:Hp->Prop}(pe:Pers Pc)(CLopened:Cal P w K mg base 2 "_law_opened" ["_law_rows_here"] (spF K zbj))(C_goes:Cal P w K mg base 17 "goes" ["sheet","name","key"] (pcS Pc (spF K zbi))):FnOk P w K mg base CX0 (17+1) f fd ["_law_one","_law_other","_law_sheets"] (pcS Pc (spF K zb5)):=
 zcz pe F scLdue ze1 fun cdv A outer s H E hcv hr hPc hp=>by
  have nd:=scLdue.nd
  have hu:=Nat.lt_of_succ_lt (zao hr)
  have hu2:=zao hr
  refine⟨_,(zab (zdR (i:=3) nd rfl (Or.inl rfl) (za6 zae)) (zab (zbQ (za7 (zal CLopened hr (zaa (vv 1) zae))) (zar (i:=4) nd rfl (Or.inl rfl)) (zab (zbI (zaM (zkw hr) (ze3 false) (vr 4) (VE.w (zal CLopened hr (zaa (vv 0) zae))) rfl) (zab (zbQ (za7 (VN.ve (za6 (zaa zav (zaa zav (zaa zav (zaa zav (zaa zav (zaa zav (zaa zav (zaa zav zae))))))))))) (zar (i:=5) nd rfl (Or.inl rfl)) (zab (zaE (i:=6) nd rfl (Or.inl rfl) (za0 C_goes hp hr (zaa (zay (vr 2) (VE.w zag)) (zaa (vv 4) (zaa (vv 5) zae))))) (zab (zaE (i:=7) nd rfl (Or.inl rfl) (za0 C_goes hp hr (zaa (zay (vr 2) (VE.w zag)) (zaa (vv 4) (zaa (vv 5) zae))))) (zab (zbI (zaM (zmz hr) (zbm true) (vr 6) (vr 7) (zaV _)) (zab (zel 3 (zbr (zaa (vv 4) (zaa (vv 5) (zaa (vv 6) (zaa (vv 7) zae)))))) zak) zak) (zaL [5,6,7] zak))))) (zaL [5,6,7] zak)) zak) (zaL [4,5,6,7] zak))) (zdz 3 (zaj (zat (vv 3)))))),zhW ?_⟩;intro pLone pLother pLsheets;unfold zcK;exact(zaf (zdS rfl) fun x1=>(zaf (zdB (emb:=(fun(s2:List D)=>[.val pLone,.val pLother,.val pLsheets,.own 1 (.lst s2),.un,.un,.un,.un])) rfl (fun _=>rfl) fun s2 d3=>(zaf (zhV (emb:=(fun(s13:List D)=>[.val pLone,.val pLother,.val pLsheets,.own 1 (.lst s13),.val d3,.un,.un,.un])) (zaf (zdB (emb:=(fun(s6:List D)=>[.val pLone,.val pLother,.val pLsheets,.own 1 (.lst s6),.val d3,.un,.un,.un])) rfl (fun _=>rfl) fun s6 d7=>(zaf (zax rfl) fun x8=>(zaf (zax rfl) fun x9=>(zaf (zhV (emb:=(fun(s12:List D)=>[.val pLone,.val pLother,.val pLsheets,.own 1 (.lst s12),.val d3,.val d7,.val x8,.val x9])) (zaf (zeo rfl) fun x11=>(zaG fun _ h=>h)) (zaG fun _ h=>h)) fun s12=>(za5 [5,6,7] (zaG fun _ h=>h)))))) fun s6=>(za5 [5,6,7] (zaG fun _ h=>h))) (zaG fun _ h=>h)) fun s13=>(za5 [4,5,6,7] (zaG fun _ h=>h)))) fun s2=>(ze0 3 (zau fun _ _ h=>h))))
def zbV (pLfound pLdue_here:D):Option (RV×List D):=
 (Option.bind (Option.bind (Option.bind (Option.bind ((isD "list") pLfound) dTru) fun k6=>some (!k6)) fun k5=>if k5 then some true else(Option.bind (Option.bind (Option.bind (aC (Option.bind (Option.bind (dSeq pLfound) (zbk (fun d3=>(Option.bind (Option.bind (Option.bind ((isD "tuple") d3) dB) fun k4=>some (.bl (!k4))) fun z=>some (some z))))) fun ds=>some (.lst ds)) aN) bAny) dTru) fun k2=>if k2 then some true else(Option.bind ((dEqG true) pLfound pLdue_here) dB))) fun k1=>if k1 then(Option.bind (some (.bl false)) fun(r7:D)=>(some (.told r7,[pLfound,.non]))) else(Option.bind (appD pLfound D.non) fun(x8:D)=>(Option.bind (some (.bl true)) fun(r9:D)=>(some (.told r9,[x8,.non])))))
def zaJ:List D->Option (RV×List D):=g2 zbV
theorem scLright:FnScope ["_law_found","_law_due_here"] ["_law_found","_law_due_here"] (zad zbT):=⟨rfl,rfl,rfl,by decide +kernel,rfl,by decide +kernel,by decide +kernel⟩
theorem zfC (F:Fun K "_law_right" "_law_right" zbT f fd)(B:Blt mg)(K_tuple:Kit K "tuple")(K_list:Kit K "list"):FnOk P w K mg base CX0 (1+1) f fd ["_law_found","_law_due_here"] (spG K [some 1,none] zaJ):=
 zji [some 1,none] F scLright rfl fun cdv A outer s H E hr=>by
  have nd:=scLright.nd
  have hu:=Nat.lt_of_succ_lt (zao hr)
  have hu2:=zao hr
  refine⟨_,(zab (zbI (zmV (VP.t (zmb (zfY (zcs (VE.w (zi1 K_list B boot_list (vr 0))))) (zmb (zcs (VE.w (ve_b (zfp rfl) zoh B boot_any (zaQ (VE.w (VN.ve (zcT ["_law_found","_law_due_here"] zbT (NC:=["_law_one"]) [none] rfl (za7 (vv 0)) (fun x h=>zaW h) rfl rfl rfl (by decide +kernel) (by decide +kernel) rfl (by decide +kernel) (by decide +kernel) rfl (by decide) (fun cl C s0 H0 ex pn=>(vgC 0 (by decide +kernel) rfl rfl)) (fun cl C s0 H0 ex pn=>zct) (fun cl C s0 H0 ex pn=>(ziO (zi1 K_tuple B boot_tuple (vr 0))))))) zbH)))) (zla (zaM (zmz hr) (zbm true) (vr 0) (vr 1) (zaV _))))))) (zaj (zat ziM)) zak) (zab (zel 0 zc8) (zaj (zat ziM)))),zkE ?_⟩;intro pLfound pLdue_here;unfold zbV;exact(zbs (zau fun _ _ h=>h) (zcv (zaf (zmU rfl) fun x8=>(zau fun _ _ h=>h))))
def zkL (S:Scr)(pLscript:D):Option D:=
 (Option.bind ((zbN S) [pLscript,(.int 0)]) fun(x1:D)=>(Option.bind ((zbN S) [pLscript,(.int 31)]) fun(x2:D)=>(Option.bind (Option.bind (aC (zaR [x1]) (aC (zaR [x2]) aN)) mkT) fun(x3:D)=>(Option.bind (zb5 [x1,x2,x3]) fun(x4:D)=>(Option.bind (Option.bind (aC (some x2) (aC (some x1) (aC (zmP x3) aN))) zb5) fun(x5:D)=>(Option.bind (rngA [(.int 2)]) fun ds25=>Option.bind ((zdf (fun(s6:Unit) (d7:D)=>(Option.bind (Option.bind (Option.bind (Option.bind (Option.bind (aC (dIx x3 (.int 0)) (aC (dIx x3 (.int 1)) aN)) fun l=>if l.length=2 then Option.bind (zaw l) zeP else none) fun l=>(Option.bind (some x4) fun v10=>(Option.bind (zaJ [.lst l,v10]) zb2))) dTru) fun k9=>some (!k9)) fun k8=>if k8 then(Option.bind (some (.bl false)) fun(r11:D)=>(some (Fl.ret r11:Fl (Unit) (D)))) else(Option.bind (Option.bind (Option.bind (Option.bind (Option.bind (aC (dIx x3 (.int 1)) (aC (dIx x3 (.int 0)) aN)) fun l=>if l.length=2 then Option.bind (zaw l) zeP else none) fun l=>(Option.bind (some x5) fun v14=>(Option.bind (zaJ [.lst l,v14]) zb2))) dTru) fun k13=>some (!k13)) fun k12=>if k12 then(Option.bind (some (.bl false)) fun(r15:D)=>(some (Fl.ret r15:Fl (Unit) (D)))) else(Option.bind (Option.bind (Option.bind (Option.bind (Option.bind (Option.bind (aC (dIx x3 (.int 0)) (aC (dIx x3 (.int 0)) aN)) fun l=>if l.length=2 then Option.bind (zaw l) zeP else none) fun l=>(Option.bind (some (.lst [])) fun v21=>(Option.bind (zaJ [.lst l,v21]) zb2))) dTru) fun k20=>some (!k20)) fun k19=>if k19 then some true else(Option.bind (Option.bind (Option.bind (Option.bind (aC (some (.tup [])) (aC (dIx x3 (.int 1)) aN)) fun l=>if l.length=2 then Option.bind (zaw l) zeP else none) fun l=>(Option.bind (some (.lst [])) fun v18=>(Option.bind (zaJ [.lst l,v18]) zb2))) dTru) fun k17=>some (!k17))) fun k16=>if k16 then(Option.bind (some (.bl false)) fun(r22:D)=>(some (Fl.ret r22:Fl (Unit) (D)))) else(some (Fl.nx ():Fl (Unit) (D))))))) ()) ds25) (flK fun(s6:Unit)=>(Option.bind (Option.bind (Option.bind (aC (zaR [x1]) (aC (zaR [x2]) aN)) mkT) fun v23=>((dEqG false) x3 v23)) fun(r24:D)=>(some r24)))))))))
def zoJ (S:Scr):List D->Option D:=c1 (zkL S)
theorem sc_law:FnScope ["_law_script","_law_one","_law_other","_law_sheets","_law_due_here","_law_back","_law_turn"] ["_law_script"] (zad zfA):=⟨rfl,rfl,rfl,by decide +kernel,rfl,by decide +kernel,by decide +kernel⟩
theorem zoK (F:Fun K "law" "law" zfA f fd)(B:Blt mg){Pc:Hp->Prop}(pe:Pers Pc){S:Scr}(CLrows:Cal P w K mg base 5 "_law_rows" ["_law_script","_law_start"] (pcS Pc (spF K (zbN S))))(CLhung:Cal P w K mg base 2 "_law_hung" ["_law_rows_here"] (spF K zaR))(CLdue:Cal P w K mg base 18 "_law_due" ["_law_one","_law_other","_law_sheets"] (pcS Pc (spF K zb5)))(CLright:Cal P w K mg base 2 "_law_right" ["_law_found","_law_due_here"] (spG K [some 1,none] zaJ))(C_differences:Cal P w K mg base 19 "differences" ["sheet","other"] (pcS Pc (spG K [none,none] zaw))):FnOk P w K mg base CX0 (19+1) f fd ["_law_script"] (pcS Pc (spF K (zoJ S))):=
 zcz pe F sc_law zcM fun cdv A outer s H E hcv hr hPc hp=>by
  have nd:=sc_law.nd
  have hu:=Nat.lt_of_succ_lt (zao hr)
  have hu2:=zao hr
  refine⟨_,(zab (zaE (i:=1) nd rfl (Or.inl rfl) (za0 CLrows hp hr (zaa (vv 0) (zaa zag zae)))) (zab (zaE (i:=2) nd rfl (Or.inl rfl) (za0 CLrows hp hr (zaa (vv 0) (zaa zag zae)))) (zab (zaE (i:=3) nd rfl (Or.inl rfl) (zbr (zaa (zal CLhung hr (zaa (vv 1) zae)) (zaa (zal CLhung hr (zaa (vv 2) zae)) zae)))) (zab (zaE (i:=4) nd rfl (Or.inl rfl) (za0 CLdue hp hr (zaa (vv 1) (zaa (vv 2) (zaa (vv 3) zae))))) (zab (zaE (i:=5) nd rfl (Or.inl rfl) (za0 CLdue hp hr (zaa (vv 2) (zaa (vv 1) (zaa (zmQ (vr 3)) zae))))) (zab (zbQ (zf1 B (zaa zag zae)) (zar (i:=6) nd rfl (Or.inl rfl)) (zab (zbI (zfY (zcs (VE.w (zd6 CLright hr (zdi C_differences hp hr (zaa (zay (vr 3) (VE.w zag)) (zaa (zay (vr 3) (VE.w zag)) zae))) (vv 4))))) (zaj (zat ziM)) zak) (zab (zbI (zfY (zcs (VE.w (zd6 CLright hr (zdi C_differences hp hr (zaa (zay (vr 3) (VE.w zag)) (zaa (zay (vr 3) (VE.w zag)) zae))) (vv 5))))) (zaj (zat ziM)) zak) (zab (zbI (VP.t (zmb (zfY (zcs (VE.w (zd6 CLright hr (zdi C_differences hp hr (zaa (zay (vr 3) (VE.w zag)) (zaa (zay (vr 3) (VE.w zag)) zae))) (VN.ve (za6 zae)))))) (zla (zfY (zcs (VE.w (zd6 CLright hr (zdi C_differences hp hr (zaa (zbr zae) (zaa (zay (vr 3) (VE.w zag)) zae))) (VN.ve (za6 zae))))))))) (zaj (zat ziM)) zak) (zaL [6] zak))))) (zaj (zat (ziN (zcW hr) (zbm false) (vr 3) (VE.w (zbr (zaa (zal CLhung hr (zaa (vv 1) zae)) (zaa (zal CLhung hr (zaa (vv 2) zae)) zae)))) (zaV _)))))))))),zfs ?_⟩;intro pLscript;unfold zkL;exact(zaf (zax rfl) fun x1=>(zaf (zax rfl) fun x2=>(zaf (zax rfl) fun x3=>(zaf (zax rfl) fun x4=>(zaf (zax rfl) fun x5=>(zfr (emb:=(fun(s6:Unit)=>[.val pLscript,.val x1,.val x2,.val x3,.val x4,.val x5,.un])) rfl (fun _=>rfl) (fun s6 d7=>(zbs (zau fun _ _ h=>h) (zcv (zbs (zau fun _ _ h=>h) (zcv (zbs (zau fun _ _ h=>h) (zcv (za5 [6] (zaG fun _ h=>h))))))))) fun s6=>(zau fun _ _ h=>h)))))))
end
end Pg
namespace Pg
open PySem PyProof PyProof.Rows L2 VD GM GB
def frS (w:Str):Bool:=decide (w = "free")
theorem zaU (x:Itm)(dp:Nat)(inn:List D):dIx (part x dp inn) (.int 0)=some (.str x.nm)/\dIx (part x dp inn) (.int 2)=some (.str x.wd)/\dIx (part x dp inn) (.int 3)=some (.int x.rk)/\dIx (part x dp inn) (.int 5)=some (.tup inn):=
 ⟨zaP (j:=0) rfl,zaP (j:=2) rfl,zaP (j:=3) rfl,zaP (j:=5) rfl⟩
theorem zm1:∀{n:Nat}{ds:List D},Ok n ds->(ot (fun _=>true) (n+1) ds).length<=1000->zan (n+1) [.tup ds]=some (.lst (ot frS (n+1) ds)):=by
 intro n;induction n with
 | zero=>intro ds o _;rw[show ds = [] from o];rfl
 | succ n ih=>
   intro ds o hl;show zbA (zan (n+1)) (.tup ds)=_
   unfold zbA;rw[zOB];show Option.bind (Option.bind (some ds) _) _=_
   rw[zOB];have key:∀(ds:List D) (acc:List D),Ok (n+1) ds->acc.length+(ot (fun _=>true) (n+1+1) ds).length<=1000->zaN (fun(s2:List D) (d3:D)=>(Option.bind (Option.bind (Option.bind (Option.bind (dIx d3 (.int 2)) fun v5=>((dEqG false) v5 (.str "free"))) dB) fun k4=>if k4 then(Option.bind (appL s2 d3) fun(x6:List D)=>(Option.bind (Option.bind (Option.bind (aC (dIx d3 (.int 5)) aN) (zan (n+1))) (extL x6)) fun(x7:List D)=>(some x7))) else(some s2)) fun(s8:List D)=>(some s8))) acc ds=some (acc++ot frS (n+1+1) ds):=by
    intro ds;induction ds with
    | nil=>intro acc _ _;show some acc=some (acc++[]);rw[List.append_nil]
    | cons d ds ih2=>
      intro acc o hl;obtain⟨x,dp,inn,rfl,oi⟩:=o d List.mem_cons_self;have od:Ok (n+1) ds:=fun y hy=>o y (List.mem_cons_of_mem _ hy)
      obtain⟨p0,p2,p3,p5⟩:=zaU x dp inn;rw[zdI,if_pos rfl,List.length_append,List.length_cons] at hl;have li:(ot (fun _=>true) (n+1) inn).length<=1000:=by omega
      have lf:=zoI (fr:=frS) (n:=n+1) (ds:=inn)
      have e:=ih oi li
      have step:(Option.bind (Option.bind (Option.bind (Option.bind (dIx (part x dp inn) (.int 2)) fun v5=>((dEqG false) v5 (.str "free"))) dB) fun k4=>if k4 then(Option.bind (appL acc (part x dp inn)) fun(x6:List D)=>(Option.bind (Option.bind (Option.bind (aC (dIx (part x dp inn) (.int 5)) aN) (zan (n+1))) (extL x6)) fun(x7:List D)=>(some x7))) else(some acc)) fun(s8:List D)=>(some s8))=some (acc++if frS x.wd then part x dp inn::ot frS (n+1) inn else[]):=by
       rw[p2,zOB,zb9,zOB,show dB (.bl (decide (x.wd = "free")))=some (decide (x.wd = "free")) from rfl,zOB];show(Option.bind (if frS x.wd=true then _ else _) _)=_
       cases hf:frS x.wd with
       | false=>show some acc=some (acc++[]);rw[List.append_nil]
       | true=>
         rw[if_pos rfl,if_pos rfl,zcw (Nat.lt_of_le_of_lt (by omega:acc.length<=1000) (by decide)),zOB,p5];show Option.bind (Option.bind (Option.bind (zan (n+1) [.tup inn]) (extL (acc++[part x dp inn]))) _) _=_
         rw[e,zOB];show Option.bind (Option.bind (if((acc++[part x dp inn])++ot frS (n+1) inn).length<=lim then some ((acc++[part x dp inn])++ot frS (n+1) inn) else none) _) _=_
         rw[if_pos (Nat.le_trans (by simp;omega:_<=1001) (by decide))];simp
      show Option.bind (Option.bind (Option.bind (Option.bind (Option.bind (dIx (part x dp inn) (.int 2)) fun v5=>((dEqG false) v5 (.str "free"))) dB) fun k4=>if k4 then(Option.bind (appL acc (part x dp inn)) fun(x6:List D)=>(Option.bind (Option.bind (Option.bind (aC (dIx (part x dp inn) (.int 5)) aN) (zan (n+1))) (extL x6)) fun(x7:List D)=>(some x7))) else(some acc)) fun(s8:List D)=>(some s8)) _=_
      rw[step,zOB,ih2 _ od ?_,zdI,List.append_assoc];rw[List.length_append];cases frS x.wd
      ·simp;omega
      ·simp;omega
   rw[key ds [] o (by simpa using hl)];simp
theorem zjC {L:List (List Itm)}(t:Lines [] L)(h:L.length<=1000):zan 8 [.tup (fo L 0)]=some (.lst (ot frS 8 (fo L 0))):=by
 have o:Ok 7 (fo L 0):=(zgN t 0).up
 refine zm1 o ?_;have e:=congrArg List.length (zca (fr:=fun _=>true) t)
 rw[List.length_map] at e;show(ot (fun _=>true) 8 (fo L 0)).length<=1000
 rw[<-e];unfold opn;rw[List.length_map];exact Nat.le_trans (List.length_filter_le _ _) h
theorem zjD {fr:Str->Bool}:∀{n:Nat}{ds:List D},Ok n ds->∀d∈ot fr (n+1) ds,∃x dp inn,d=part x dp inn
 | 0,ds,o,d,h=>by rw[show ds = [] from o] at h;cases h
 | n+1,ds,o,d,h=>by
   obtain⟨y,hy,hd⟩:=List.mem_flatMap.mp (show d∈List.flatMap _ ds from h);obtain⟨x,dp,inn,rfl,oi⟩:=o y hy;have hd:d∈(if fr x.wd then part x dp inn::ot fr (n+1) inn else[]):=hd
   split at hd
   ·rcases List.mem_cons.mp hd with rfl | hd
    ·exact⟨_,_,_,rfl⟩
    ·exact zjD oi d hd
   ·cases hd
theorem zfa {S:Type}{f:S->D->Option S}{d:D}:∀{ds:List D}{s:S},zaN f s (ds++[d])=(zaN f s ds).bind fun s=>f s d
 | [],s=>by
   show(f s d).bind (fun s=>some s)=f s d
   cases f s d <;> rfl
 | x::ds,s=>by
   show(f s x).bind _=Option.bind ((f s x).bind _) _
   cases f s x with
   | none=>rfl
   | some s1=>exact zfa (ds:=ds)
def wt (S:List (List Itm)):List D:=[.lst (fo S 0).reverse,.lst (fo S 1).reverse,.lst (fo S 2).reverse,.lst (fo S 3).reverse,.lst (fo S 4).reverse]
theorem zht:∀{S:List (List Itm)}{d:Nat},(fo S d).length<=S.length
 | [],_=>by simp[fo]
 | l::S,d=>by
   unfold fo;split
   ·simpa using zht (S:=S) (d:=d)
   ·split
    ·simp
    ·exact Nat.le_succ_of_le zht
theorem zm2 {l:List Itm}{S:List (List Itm)}{e:Nat}(h:l.length=e+1)(d:Nat):fo (l::S) d=if d=e then part (zaB l) d (fo S (d+1))::fo S d else if d=e+1 then[] else fo S d:=by
 show(if d+1=l.length then _ else if d=l.length then[] else fo S d)=_
 rw[h];by_cases z:d=e
 ·rw[if_pos z,if_pos (by omega)]
 ·rw[if_neg z,if_neg (by omega)]
theorem zoL {S:List (List Itm)}{e:Nat}(he:e<=3):zmR (wt S) [] (.int (e+1))=some ((wt S).set (e+1) (.lst [])):=by
 match e,he with
 | 0,_=>rfl
 | 1,_=>rfl
 | 2,_=>rfl
 | 3,_=>rfl
theorem zpF {S:List (List Itm)}{e:Nat}(he:e<=3):ix2C (wt S) (.int (e+1))=some (.lst (fo S (e+1)).reverse):=by
 match e,he with
 | 0,_=>rfl
 | 1,_=>rfl
 | 2,_=>rfl
 | 3,_=>rfl
theorem zoM {l:List Itm}{S:List (List Itm)}{e:Nat}(he:e<=3)(h:l.length=e+1)(hs:S.length<=1000):zkI ((wt S).set (e+1) (.lst [])) (.int e) (part (zaB l) e (fo S (e+1)))=some (wt (l::S)):=by
 have hb:∀d,(fo S d).reverse.length<lim:=fun d=>Nat.lt_of_le_of_lt (by rw[List.length_reverse];exact Nat.le_trans zht hs:_<=1000) (by decide)
 have fc:=zm2 (S:=S) h
 match e,he with
 | 0,_=>
   show(if(fo S 0).reverse.length<lim then _ else none)=_
   rw[if_pos (hb 0)];simp[wt,fc]
 | 1,_=>
   show(if(fo S 1).reverse.length<lim then _ else none)=_
   rw[if_pos (hb 1)];simp[wt,fc]
 | 2,_=>
   show(if(fo S 2).reverse.length<lim then _ else none)=_
   rw[if_pos (hb 2)];simp[wt,fc]
 | 3,_=>
   show(if(fo S 3).reverse.length<lim then _ else none)=_
   rw[if_pos (hb 3)];simp[wt,fc]
theorem _root_.GB.Lines.tail {p:List Itm}{l:List Itm}{S:List (List Itm)}(t:Lines p (l::S)):Lines l S:=by
 cases t with | cons c x hc h4 t=>exact t
theorem zjE {L:List (List Itm)}(t:Lines [] L)(h3:∀l∈L,l.length<=4)(hl:L.length<=1000):zaR [rwsD L]=some (.tup (fo L 0)):=by
 show zck (.lst (L.map rowD))=_
 unfold zck;rw[zOB];show Option.bind (Option.bind (some (L.map rowD).reverse) _) _=_
 rw[zOB];generalize hf:(fun(s2:List D) (d3:D)=>Option.bind (un5 d3) _)=f;have stp:∀(l:List Itm) (S:List (List Itm)),l≠[]->l.length<=4->S.length<=1000->f (wt S) (rowD l)=some (wt (l::S)):=by
  intro l S h0 h5 hs;obtain⟨e,he⟩:∃e,l.length=e+1:=⟨l.length - 1,by have:=List.length_pos_iff.mpr h0;omega⟩
  have e4:e<=3:=by omega
  rw[<-hf];have b3:dAdd (.int (e:Int)) (.int 1)=some (.int ((e:Int)+1)):=rfl
  have er:rowD l=.tup [.int (e:Int),.str (zaB l).nm,(zaB l).bx e,.str (zaB l).wd,.int (zaB l).rk]:=by
   unfold rowD zaB;rw[he,show((e+1:Nat):Int) - 1=(e:Int) by omega,Nat.add_sub_cancel]
  rw[er];show(Option.bind (Option.bind (aC (Option.bind (Option.bind (Option.bind (dAdd (.int (e:Int)) (.int 1)) fun v4=>ix2C (wt S) v4) _) _) aN) bTuple) _)=_
  rw[b3,zOB,zpF e4,zOB];show Option.bind (Option.bind (some [D.lst (fo S (e+1)).reverse.reverse]) bTuple) _=_
  rw[List.reverse_reverse,zOB];show Option.bind (Option.bind (dAdd (.int (e:Int)) (.int 1)) _) _=_
  rw[b3,zOB,zoL e4,zOB];show Option.bind (zkI _ (.int (e:Int)) (part (zaB l) e (fo S (e+1)))) _=_
  rw[zoM e4 he hs];rfl
 have key:∀(p:List Itm) (S:List (List Itm)),Lines p S->(∀l∈S,l.length<=4)->S.length<=1000->zaN f (wt []) (S.map rowD).reverse=some (wt S):=by
  intro p S;induction S generalizing p with
  | nil=>intro _ _ _;rfl
  | cons l S ih=>
    intro t h4 hl;have:=t.mem l List.mem_cons_self
    rw[List.length_cons] at hl;rw[List.map_cons,List.reverse_cons,zfa,ih l t.tail (fun y hy=>h4 y (List.mem_cons_of_mem _ hy)) (by omega),zOB];exact stp l S this.2 (h4 l List.mem_cons_self) (by omega)
 show Option.bind (zaN f (wt []) (L.map rowD).reverse) _=_
 rw[key [] L t h3 hl,zOB];show Option.bind (bTuple [.lst (fo L 0).reverse.reverse]) _=_
 rw[List.reverse_reverse];rfl
theorem _root_.SO.Stb.map {α β:Type}{f:α->β}{key:α->Int}{key':β->Int}{l l':List α}(s:SO.Stb key l l')(h:∀a,key' (f a)=key a\/(a∉l/\a∉l')):SO.Stb key' (l.map f) (l'.map f):=by
 have hl:∀a,a∈l->key' (f a)=key a:=fun a ha=>(h a).resolve_right fun z=>z.1 ha
 have hl':∀a,a∈l'->key' (f a)=key a:=fun a ha=>(h a).resolve_right fun z=>z.2 ha
 refine⟨?_,fun v=>?_⟩
 ·rw[List.pairwise_map];exact s.up.imp_of_mem fun {a b} ha hb q=>by rw[hl' a ha,hl' b hb];exact q
 ·rw[List.filter_map,List.filter_map];have e1:l'.filter ((fun a=>decide (key' a=v))∘f)=l'.filter fun a=>decide (key a=v):=List.filter_congr fun a ha=>by show decide (key' (f a)=v)=_;rw[hl' a ha]
  have e2:l.filter ((fun a=>decide (key' a=v))∘f)=l.filter fun a=>decide (key a=v):=List.filter_congr fun a ha=>by show decide (key' (f a)=v)=_;rw[hl a ha]
  rw[e1,e2,s.fl v]
theorem zgg {f:D->Option (Option D)}{p:D->Bool}{xs:List D}(hl:xs.length<=10000)(hf:∀x,x∈xs->f x=some (if p x then some x else none)):zbk f xs=some (xs.filter p):=by
 have:=zcx (f:=f) (fun d:D=>d) p (fun d:D=>d) (xs:=xs) hl hf
 rwa [List.map_id',List.map_id'] at this
theorem zdq {f:D->Option (Option D)}{g:D->D}{xs:List D}(hl:xs.length<=10000)(hf:∀x,x∈xs->f x=some (some (g x))):zbk f xs=some (xs.map g):=by
 have:=zdh (f:=f) (fun d:D=>d) g (xs:=xs) hl hf
 rwa [List.map_id'] at this
theorem zfb:∀{ds:List D},(∀d∈ds,∃x dp inn,d=part x dp inn)->zh1 3 ds=some (ds.map fun d=>(nr d).1)
 | [],_=>rfl
 | d::ds,h=>by
   obtain⟨x,dp,inn,rfl⟩:=h d List.mem_cons_self;show(dIx (part x dp inn) (.int 3)).bind _=_
   rw[(zaU x dp inn).2.2.1,zOB];show(zh1 3 ds).bind _=_
   rw[zfb fun y hy=>h y (List.mem_cons_of_mem _ hy)];rfl
theorem zdT {α β:Type}(f:α->β):∀(l:List α),(l.map f).zip l=l.map fun a=>(f a,a)
 | []=>rfl
 | a::l=>by rw[List.map_cons,List.zip_cons_cons,zdT f l];rfl
theorem zdP (l:List (Int×D)):(zfy l).Perm l:=List.mergeSort_perm _ _
def nmD (d:D):D:=.str (nr d).2
theorem zkM {sh:D}{Q:List D}(ho:zan 8 [sh]=some (.lst Q))(hp:∀d∈Q,∃x dp inn,d=part x dp inn)(hl:Q.length<=40):∃srt,SO.Stb Prod.fst ((Q.map nr).filter fun q=>decide (0<q.1)) srt/\zeF [sh]=some (.new 1 (.lst ((srt++(Q.map nr).filter fun q=>decide (q.1=0)).map fun q=>D.str q.2)),[.non]):=by
 have hR:∀d∈Q.filter (fun d=>decide (0<(nr d).1)),∃x dp inn,d=part x dp inn:=fun d hd=>hp d (List.mem_filter.mp hd).1
 have lR:(Q.filter fun d=>decide (0<(nr d).1)).length<=40:=Nat.le_trans (List.length_filter_le _ _) hl
 have lU:(Q.filter fun d=>decide ((nr d).1=0)).length<=40:=Nat.le_trans (List.length_filter_le _ _) hl
 refine⟨(zfy ((Q.filter fun d=>decide (0<(nr d).1)).map fun d=>((nr d).1,d))).map fun q=>nr q.2,?_,?_⟩
 ·have s:=(zf8 ((Q.filter fun d=>decide (0<(nr d).1)).map fun d=>((nr d).1,d))).map (f:=fun q:Int×D=>nr q.2) (key':=Prod.fst) fun a=>by
   by_cases h:a∈(Q.filter fun d=>decide (0<(nr d).1)).map fun d=>((nr d).1,d)
   ·obtain⟨d,_,rfl⟩:=List.mem_map.mp h;exact .inl rfl
   ·exact .inr ⟨h,fun z=>h ((zdP _).mem_iff.mp z)⟩
  rw[List.map_map] at s;have e:(Q.map nr).filter (fun q=>decide (0<q.1))=(Q.filter fun d=>decide (0<(nr d).1)).map ((fun q:Int×D=>nr q.2)∘fun d=>((nr d).1,d)):=by
   rw[List.filter_map];rfl
  rw[e];exact s
 ·show zhq sh=_
  unfold zhq;rw[ho,zOB];show Option.bind (Option.bind (zbk _ Q) _) _=_
  rw[zgg (p:=fun d=>decide (0<(nr d).1)) (by omega) fun d hd=>by
   obtain⟨x,dp,inn,rfl⟩:=hp d hd;rw[(zaU x dp inn).2.2.1];show(if decide (0<x.rk)=true then some (some (part x dp inn)) else some none)=some (if decide (0<x.rk)=true then some (part x dp inn) else none)
   cases decide (0<x.rk) <;> rfl]
  rw[zOB,zOB];show Option.bind (Option.bind (zbk _ Q) _) _=_
  rw[zgg (p:=fun d=>decide ((nr d).1=0)) (by omega) fun d hd=>by
   obtain⟨x,dp,inn,rfl⟩:=hp d hd;rw[(zaU x dp inn).2.2.1,zOB,zfw];show(if decide (x.rk=0)=true then some (some (part x dp inn)) else some none)=some (if decide (x.rk=0)=true then some (part x dp inn) else none)
   cases decide (x.rk=0) <;> rfl]
  rw[zOB,zOB];show Option.bind (Option.bind (if(Q.filter fun d=>decide (0<(nr d).1)).length<64 then _ else none) _) _=_
  rw[if_pos (by omega),zfb hR,zOB,zdT,zOB,zOB];have la:((zfy ((Q.filter fun d=>decide (0<(nr d).1)).map fun d=>((nr d).1,d))).map (·.2)++Q.filter fun d=>decide ((nr d).1=0)).length<=80:=by
   rw[List.length_append,List.length_map,(zdP _).length_eq,List.length_map];omega
  show Option.bind (Option.bind (Option.bind (if _<=lim then some (D.lst _) else none) dSeq) _) _=_
  rw[if_pos (Nat.le_trans la (by decide)),zOB];show Option.bind (zbk _ _) _=_
  rw[zdq (g:=nmD) (by omega) fun d hd=>by
   have:∃x dp inn,d=part x dp inn:=by
    rcases List.mem_append.mp hd with h | h
    ·obtain⟨q,hq,rfl⟩:=List.mem_map.mp h;obtain⟨y,hy,rfl⟩:=List.mem_map.mp ((zdP _).mem_iff.mp hq);exact hR y hy
    ·exact hp d (List.mem_filter.mp h).1
   obtain⟨x,dp,inn,rfl⟩:=this;rw[(zaU x dp inn).1];rfl]
  rw[zOB,List.map_append,List.map_append,List.map_map,List.map_map,List.filter_map,List.map_map];rfl
theorem zm3 {L:List (List Itm)}(t:Lines [] L)(hl:L.length<=40):∃srt,SO.Stb Prod.fst ((opn frS L).filter fun q=>decide (0<q.1)) srt/\zeF [.tup (fo L 0)]=some (.new 1 (.lst ((srt++(opn frS L).filter fun q=>decide (q.1=0)).map fun q=>D.str q.2)),[.non]):=by
 have e:=zca (fr:=frS) t
 rw[e];refine zkM (zjC t (by omega)) (zjD (zgN t 0).up) ?_;rw[<-List.length_map (f:=nr),<-e];unfold opn;rw[List.length_map];exact Nat.le_trans (List.length_filter_le _ _) hl
def fe (c n k:Int):D:=.lst [.int c,.int n,.int k]
theorem zoN (c n k:Int):dIx (fe c n k) (.int 0)=some (.int c)/\dIx (fe c n k) (.int 1)=some (.int n)/\dIx (fe c n k) (.int 2)=some (.int k):=⟨zaP (j:=0) rfl,zaP (j:=1) rfl,zaP (j:=2) rfl⟩
theorem zjF {c n k m:Int}(m0:0<m)(m1:m<1073741824):∃r c' n',zap [fe c n k,.int m]=some (.told (.int r),[fe c' n' k,.non])/\0<=r/\r<m:=by
 have hm:∀a b:Int,0<b->dMod (.int a) (.int b)=some (.int (a % b)):=fun a b h=>if_pos h
 have hd:∀a:Int,dFdiv (.int a) (.int m)=some (.int (a / m)):=fun a=>if_pos (show CDiv a m from⟨m0,m1⟩)
 have hl:∀a b:Int,-(2 ^ 64)<a->a<2 ^ 64->dMul (.int a) (.int b)=some (.int (a*b)):=fun a b h1 h2=>if_pos (show CMul a b from .inl ⟨h1,h2⟩)
 have hr:∀a b:Int,-(2 ^ 64)<b->b<2 ^ 64->dMul (.int a) (.int b)=some (.int (a*b)):=fun a b h1 h2=>if_pos (show CMul a b from .inr ⟨h1,h2⟩)
 have pw:dPow (.int 10) (.int 18)=some (.int 1000000000000000000):=rfl
 obtain⟨i0,i1,i2⟩:=zoN c n k;obtain⟨j0,j1,j2⟩:=zoN c (n+1) k;have p1:zkJ (fe c n k) (.int 1) (.int (n+1))=some (fe c (n+1) k):=rfl
 show ∃r c' n',zci (fe c n k) (.int m)=_/\_
 unfold zci;rw[i1,zOB,show dAdd (.int n) (.int 1)=some (.int (n+1)) from rfl,zOB,p1,zOB,j0,zOB,pw,zOB,show dGe (.int c) (.int 1000000000000000000)=some (.bl (decide (1000000000000000000<=c))) from rfl,zOB,show ∀b,dB (.bl b)=some b from fun _=>rfl,zOB];by_cases h:1000000000000000000<=c
 ·refine⟨c % m,c / m,n+1,?_,Int.emod_nonneg _ (by omega),Int.emod_lt_of_pos _ m0⟩;rw[decide_eq_true h,if_pos rfl,zOB,hm _ _ m0,zOB,zOB,hd,zOB];rfl
 ·rw[decide_eq_false h,if_neg (by decide)];have b1:∀x:Int,0<=x % 2147483647/\x % 2147483647<2147483647:=fun x=>⟨Int.emod_nonneg _ (by decide),Int.emod_lt_of_pos _ (by decide)⟩
  refine⟨((c % 1000003+7919*k+104729*(n+1))*48271 % 2147483647*((c % 1000003+7919*k+104729*(n+1))*48271 % 2147483647 % 65521+(n+1)) % 2147483629) % m,c,n+1,?_,Int.emod_nonneg _ (by omega),Int.emod_lt_of_pos _ m0⟩
  ·rw[zOB,hm _ _ (by decide),zOB,j2,zOB,hl _ _ (by decide) (by decide),zOB,show ∀a b,dAdd (.int a) (.int b)=some (.int (a+b)) from fun _ _=>rfl,zOB,j1,zOB,hl _ _ (by decide) (by decide),zOB,show ∀a b,dAdd (.int a) (.int b)=some (.int (a+b)) from fun _ _=>rfl,zOB,hr _ _ (by decide) (by decide),zOB,hm _ _ (by decide),zOB,hm _ _ (by decide),zOB,zOB,show ∀a b,dAdd (.int a) (.int b)=some (.int (a+b)) from fun _ _=>rfl,zOB,hl _ _ (by have:=b1 ((c % 1000003+7919*k+104729*(n+1))*48271);omega) (by have:=b1 ((c % 1000003+7919*k+104729*(n+1))*48271);omega),zOB,hm _ _ (by decide),zOB,hm _ _ m0,zOB]
theorem zm4 {S:Scr}{k:Int}(h0:0<=k):∃c,za9 S [.scr S.p,.int k]=some (.new 1 (fe c 0 k),[.non,.non]):=by
 have hl:lenS S (.scr S.p)=some (.int S.ns.length):=if_pos rfl
 show ∃c,zch S (.scr S.p) (.int k)=_
 unfold zch;rw[hl,zOB,zfw,zOB,show ∀b,dB (.bl b)=some b from fun _=>rfl,zOB];by_cases h:(S.ns.length:Int)=0
 ·rw[decide_eq_true h];exact⟨0,rfl⟩
 ·rw[decide_eq_false h];have hp:(0:Int)<S.ns.length:=by omega
  obtain⟨x,_,hx⟩:=zgJ (xs:=S.ns) (i:=k % S.ns.length) (Int.emod_nonneg _ (by omega)) (Int.emod_lt_of_pos _ hp);refine⟨x,?_⟩;rw[if_neg (by decide),zOB,show dMod (.int k) (.int S.ns.length)=some (.int (k % S.ns.length)) from if_pos hp,zOB,show ixS S (.scr S.p) (.int (k % S.ns.length))=some (.int x) by show(if S.p=S.p then _ else _)=_;rw[if_pos rfl,hx];rfl];rfl
section
variable {B:Type}{R:B->Prop}
theorem zfD {c n k m:Int}{K:RV×D->Option B}(m0:0<m)(m1:m<1073741824)(h:∀r c' n',0<=r->r<m->Po (K (.told (.int r),fe c' n' k)) R):Po (Option.bind (zet zap (fun e=>e) [fe c n k,.int m]) K) R:=by
 obtain⟨r,c',n',e,h0,h1⟩:=zjF (c:=c) (n:=n) (k:=k) m0 m1;refine sx ?_ (h r c' n' h0 h1);show Option.bind (zap [fe c n k,.int m]) _=_
 rw[e];rfl
theorem zpG {c n k m:Int}{x:Option (List (Option D)×D)}{K:RV×D->Option B}(hx:x=some ([none,some (.int m)],fe c n k))(m0:0<m)(m1:m<1073741824)(h:∀r c' n',0<=r->r<m->Po (K (.told (.int r),fe c' n' k)) R):Po (Option.bind (zmE zap [some 1,none] 0 1 (fun s=>s) (fun _ e=>e) x) K) R:=by
 obtain⟨r,c',n',e,h0,h1⟩:=zjF (c:=c) (n:=n) (k:=k) m0 m1;refine sx ?_ (h r c' n' h0 h1);rw[hx];show Option.bind (zap [fe c n k,.int m]) _=_
 rw[e];rfl
theorem zoO {S:Scr}{k:Int}{K:D×Unit->Option B}(h0:0<=k)(h:∀c,Po (K (fe c 0 k,())) R):Po (Option.bind (Option.bind (Option.bind (Option.bind (some [.scr S.p,.int k]) fun d=>some (d,())) fun q3=>Option.bind (za9 S q3.1) fun r4=>if q3.1.length=2 then some (r4.1,q3.2) else none) newD) K) R:=by
 obtain⟨c,e⟩:=zm4 (S:=S) h0;refine sx ?_ (h c);show Option.bind (Option.bind (za9 S [.scr S.p,.int k]) _) newD=_
 rw[e];rfl
end
def innD:D->List D
 | .tup [_,_,_,_,_,.tup l]=>l
 | _=>[]
def plI (rc:List D->List D->List D->List (List D×List D))(pre ch:List D):Nat->List D->List (List D×List D)
 | _,[]=>[]
 | i,d::ds=>(pre++[.int (i:Int)],ch++[d])::(rc (innD d) (pre++[.int (i:Int)]) (ch++[d])++plI rc pre ch (i+1) ds)
theorem zdr (rc:List D->List D->List D->List (List D×List D))(pre ch:List D)(b:Nat)(x:Itm)(dp:Nat)(inn es:List D):plI rc pre ch b (part x dp inn::es)=(pre++[.int (b:Int)],ch++[part x dp inn])::(rc inn (pre++[.int (b:Int)]) (ch++[part x dp inn])++plI rc pre ch (b+1) es):=rfl
def pl:Nat->List D->List D->List D->List (List D×List D)
 | 0,_,_,_=>[]
 | n+1,ds,pre,ch=>plI (pl n) pre ch 0 ds
def zc3 (c:List D):D:=c.getLast?.getD .non
theorem zb6 (c:List D)(d:D):zc3 (c++[d])=d:=by unfold zc3;simp
def ent (q:List D×List D):D:=.tup [.tup q.1,zc3 q.2]
theorem zm5 {pre:List D}{d:D}(h:pre.length<=100):dAdd (.tup pre) (.tup [d])=some (.tup (pre++[d])):=by
 rw[dAdd,if_neg (by simp)];unfold mkT;rw[if_pos (Nat.le_trans (by simp;omega:_<=101) (by decide))]
theorem zlv {xs es:List D}(h:xs.length+es.length<=1000):extL xs (.lst es)=some (xs++es):=by
 show(if(xs++es).length<=lim then _ else _)=_
 rw[if_pos (Nat.le_trans (by rw[List.length_append];omega:_<=1000) (by decide))]
theorem ac2 (a b:D):aC (some a) (aC (some b) aN)=some [a,b]:=rfl
theorem zm6 {S:Type}(f:S->D->Option S)(s:S)(d:D)(ds:List D):zaN f s (d::ds)=(f s d).bind fun s=>zaN f s ds:=rfl
theorem zgh:∀{n:Nat}{ds pre ch:List D},Ok n ds->(pl (n+1) ds pre ch).length<=1000->pre.length+n<=100->zaF (n+1) [.tup ds,.tup pre]=some (.lst ((pl (n+1) ds pre ch).map ent)):=by
 intro n;induction n with
 | zero=>intro ds pre ch o _ _;rw[show ds = [] from o];rfl
 | succ n ih=>
   intro ds pre ch o hl hp;show zbf (zaF (n+1)) (.tup ds) (.tup pre)=_
   unfold zbf;rw[zOB];show Option.bind (Option.bind (some (zdW ds)) _) _=_
   rw[zOB];generalize hf:(fun(s2:List D) (d8:D)=>Option.bind (un2 d8) _)=f;have stp:∀(acc:List D) (i:Nat) (x:Itm) (dp:Nat) (inn:List D),Ok n inn->acc.length+1+(pl (n+1) inn (pre++[.int (i:Int)]) (ch++[part x dp inn])).length<=1000->
    f acc (.tup [.int (i:Int),part x dp inn])=some (acc++ent (pre++[.int (i:Int)],ch++[part x dp inn])::(pl (n+1) inn (pre++[.int (i:Int)]) (ch++[part x dp inn])).map ent):=by
    intro acc i x dp inn oi ha;rw[<-hf];show Option.bind (dAdd (.tup pre) (.tup [.int (i:Int)])) _=_
    rw[zm5 (by omega),zOB,zcw (Nat.lt_of_le_of_lt (by omega:_<=1000) (by decide)),zOB,(zaU x dp inn).2.2.2,ac2,zOB,ih (ch:=ch++[part x dp inn]) oi (by omega) (by simp;omega),zOB,zlv (by simp;omega),zOB];unfold ent;rw[zb6];simp
   have key:∀(ds:List D) (b:Nat) (acc:List D),(∀d∈ds,∃x dp inn,d=part x dp inn/\Ok n inn)->acc.length+(plI (pl (n+1)) pre ch b ds).length<=1000->zaN f acc ((ds.zipIdx b).map fun p=>.tup [.int (p.2:Nat),p.1])=some (acc++(plI (pl (n+1)) pre ch b ds).map ent):=by
    intro ds;induction ds with
    | nil=>intro b acc _ _;show some acc=some (acc++[]);rw[List.append_nil]
    | cons d ds ih2=>
      intro b acc o ha;obtain⟨x,dp,inn,rfl,oi⟩:=o d List.mem_cons_self;rw[zdr] at ha⊢;rw[List.length_cons,List.length_append] at ha;rw[List.zipIdx_cons,List.map_cons,zm6,stp acc b x dp inn oi (by omega),zOB,ih2 _ _ (fun y hy=>o y (List.mem_cons_of_mem _ hy)) (by simp;omega)];simp
   have e9:=key ds 0 [] o (by rw[List.length_nil,Nat.zero_add];exact hl)
   rw[show(zaN f [] (zdW ds))=_ from e9];rfl
def gC (s:List D×D)(d:D):Option (List D×D):=(Option.bind (Option.bind (dIx s.2 d) (appL s.1)) fun(x5:List D)=>(Option.bind (Option.bind (dIx s.2 d) fun v6=>(dIx v6 (.int 5))) fun(x7:D)=>(some (x5,x7))))
theorem zoP {acc ds:List D}{i:Nat}{x:Itm}{dp:Nat}{inn:List D}(h:ds[i]?=some (part x dp inn))(ha:acc.length<=100):gC (acc,.tup ds) (.int (i:Int))=some (acc++[part x dp inn],.tup inn):=by
 have e:dIx (.tup ds) (.int (i:Int))=some (part x dp inn):=zaP h
 unfold gC;dsimp only[];rw[e,zOB,zOB,zcw (Nat.lt_of_le_of_lt ha (by decide)),zOB,(zaU x dp inn).2.2.2];rfl
def IsP (d:D):Prop:=∃x dp inn,d=part x dp inn
theorem zhu:∀{n:Nat}{ds pre ch:List D},Ok n ds->∀q∈pl (n+1) ds pre ch,∃p c,q=(pre++p,ch++c)/\c≠[]/\(∀d∈c,IsP d)/\∀acc:List D,acc.length+n<=100->∃z,zaN gC (acc,.tup ds) p=some (acc++c,z):=by
 intro n;induction n with
 | zero=>intro ds pre ch o q hq;rw[show ds = [] from o] at hq;cases hq
 | succ n ih=>
   intro ds pre ch o;have key:∀(es:List D) (b:Nat),(∀j d,es[j]?=some d->ds[b+j]?=some d)->∀q∈plI (pl (n+1)) pre ch b es,∃p c,q=(pre++p,ch++c)/\c≠[]/\(∀d∈c,IsP d)/\∀acc:List D,acc.length+(n+1)<=100->∃z,zaN gC (acc,.tup ds) p=some (acc++c,z):=by
    intro es;induction es with
    | nil=>intro b _ q hq;cases hq
    | cons d es ih2=>
      intro b hb q hq;have hd:=hb 0 d rfl
      rw[Nat.add_zero] at hd;obtain⟨x,dp,inn,rfl,oi⟩:=o d (List.mem_of_getElem? hd);rw[zdr] at hq;rcases List.mem_cons.mp hq with rfl | hq
      ·refine⟨[.int (b:Int)],[part x dp inn],rfl,by simp,fun d h=>by rw[List.mem_singleton.mp h];exact⟨_,_,_,rfl⟩,fun acc ha=>⟨.tup inn,?_⟩⟩;show(gC (acc,.tup ds) (.int (b:Int))).bind _=_
       rw[zoP hd (by omega)];rfl
      ·rcases List.mem_append.mp hq with hq | hq
       ·obtain⟨p,c,rfl,h0,hp,hf⟩:=ih oi q hq;refine⟨.int (b:Int)::p,part x dp inn::c,by simp,by simp,fun d h=>?_,fun acc ha=>?_⟩
        ·rcases List.mem_cons.mp h with rfl | h
         ·exact⟨_,_,_,rfl⟩
         ·exact hp d h
        ·obtain⟨z,e⟩:=hf (acc++[part x dp inn]) (by simp;omega);refine⟨z,?_⟩;show(gC (acc,.tup ds) (.int (b:Int))).bind _=_
         rw[zoP hd (by omega),zOB,e];simp
       ·exact ih2 (b+1) (fun j d h=>by rw[show b+1+j=b+(j+1) by omega];exact hb (j+1) d h) q hq
   exact key ds 0 (fun j d h=>by rw[Nat.zero_add];exact h)
theorem zjG:∀{n:Nat}{ds pre ch:List D},Ok n ds->(pl (n+1) ds pre ch).map (fun q=>zc3 q.2)=ot (fun _=>true) (n+1) ds:=by
 intro n;induction n with
 | zero=>intro ds pre ch o;rw[show ds = [] from o];rfl
 | succ n ih=>
   intro ds pre ch o;have key:∀(es:List D) (b:Nat),(∀d∈es,∃x dp inn,d=part x dp inn/\Ok n inn)->(plI (pl (n+1)) pre ch b es).map (fun q=>zc3 q.2)=ot (fun _=>true) (n+1+1) es:=by
    intro es;induction es with
    | nil=>intro b _;rfl
    | cons d es ih2=>
      intro b o;obtain⟨x,dp,inn,rfl,oi⟩:=o d List.mem_cons_self;rw[zdr,zdI,List.map_cons,List.map_append,ih oi,ih2 _ fun y hy=>o y (List.mem_cons_of_mem _ hy),zb6];rfl
   exact key ds 0 o
theorem zgT {fr:Str->Bool}:∀{n:Nat}{ds pre ch:List D},Ok n ds->∀d∈ot fr (n+1) ds,∃p c,(p,ch++c)∈pl (n+1) ds pre ch/\zc3 (ch++c)=d/\∀e∈c,∃x dp inn,e=part x dp inn/\fr x.wd=true:=by
 intro n;induction n with
 | zero=>intro ds pre ch o d hd;rw[show ds = [] from o] at hd;cases hd
 | succ n ih=>
   intro ds pre ch o;have key:∀(es:List D) (b:Nat),(∀d∈es,∃x dp inn,d=part x dp inn/\Ok n inn)->∀d∈ot fr (n+1+1) es,∃p c,(p,ch++c)∈plI (pl (n+1)) pre ch b es/\zc3 (ch++c)=d/\∀e∈c,∃x dp inn,e=part x dp inn/\fr x.wd=true:=by
    intro es;induction es with
    | nil=>intro b _ d hd;cases hd
    | cons d es ih2=>
      intro b o y hy;obtain⟨x,dp,inn,rfl,oi⟩:=o d List.mem_cons_self;rw[zdI] at hy;rw[zdr];rcases List.mem_append.mp hy with hy | hy
      ·cases hw:fr x.wd with
       | false=>rw[hw] at hy;cases hy
       | true=>
         rw[hw,if_pos rfl] at hy;rcases List.mem_cons.mp hy with rfl | hy
         ·exact⟨_,[part x dp inn],List.mem_cons_self,zb6 _ _,fun e h=>by rw[List.mem_singleton.mp h];exact⟨_,_,_,rfl,hw⟩⟩
         ·obtain⟨p,c,h1,h2,h3⟩:=ih (pre:=pre++[.int (b:Int)]) (ch:=ch++[part x dp inn]) oi y hy;refine⟨p,part x dp inn::c,?_,?_,fun e h=>?_⟩
          ·rw[show ch++part x dp inn::c=ch++[part x dp inn]++c by simp];exact List.mem_cons_of_mem _ (List.mem_append.mpr (.inl h1))
          ·rw[show ch++part x dp inn::c=ch++[part x dp inn]++c by simp];exact h2
          ·rcases List.mem_cons.mp h with rfl | h
           ·exact⟨_,_,_,rfl,hw⟩
           ·exact h3 e h
      ·obtain⟨p,c,h1,h2⟩:=ih2 (b+1) (fun y hy=>o y (List.mem_cons_of_mem _ hy)) y hy;exact⟨p,c,List.mem_cons_of_mem _ (List.mem_append.mpr (.inr h1)),h2⟩
   exact key ds 0 o
def nmQ (q:List D×List D):Str:=(nr (zc3 q.2)).2
theorem zhv {f:Unit->D->Option (Fl Unit D)}{nm:Str}:∀{l:List (List D×List D)}{q:List D×List D},(∀q∈l,f () (ent q)=some (if nmQ q=nm then .ret (.tup q.1) else .nx ()))->(l.map nmQ).Nodup->q∈l->nmQ q=nm->zdf f () (l.map ent)=some (.ret (.tup q.1))
 | [],q,_,_,h,_=>by cases h
 | a::l,q,hf,nd,h,hn=>by
   rw[List.map_cons,List.nodup_cons] at nd;show(f () (ent a)).bind _=_
   rw[hf a List.mem_cons_self,zOB];by_cases ha:nmQ a=nm
   ·rw[if_pos ha];rcases List.mem_cons.mp h with rfl | h
    ·rfl
    ·exact absurd (ha.trans hn.symm▸List.mem_map.mpr ⟨q,h,rfl⟩) nd.1
   ·rw[if_neg ha];rcases List.mem_cons.mp h with rfl | h
    ·exact absurd hn ha
    ·exact zhv (fun q hq=>hf q (List.mem_cons_of_mem _ hq)) nd.2 h hn
theorem zcB {ds:List D}{nm:Str}{q:List D×List D}(o:Ok 7 ds)(hl:(ot (fun _=>true) 8 ds).length<=1000)(nd:((ot (fun _=>true) 8 ds).map fun d=>(nr d).2).Nodup)(hq:q∈pl 8 ds [] [])(hn:nmQ q=nm):zcI [.tup ds,.str nm]=some (.tup q.1):=by
 have pll:=zjG (pre:=[]) (ch:=[]) o
 have l1:(pl 8 ds [] []).length<=1000:=by
  have:=congrArg List.length pll
  rw[List.length_map] at this;show(pl (7+1) ds [] []).length<=1000
  rw[this];exact hl
 have e1:zaK [.tup ds]=some (.lst ((pl 8 ds [] []).map ent)):=by
  show zaT (.tup ds)=_
  unfold zaT;rw[zgh (n:=7) (ch:=[]) o l1 (by decide)];rfl
 show zcH (.tup ds) (.str nm)=_
 unfold zcH;rw[e1,zOB];show Option.bind (some _) _=_
 have nd2:((pl 8 ds [] []).map nmQ).Nodup:=by
  have:(pl 8 ds [] []).map nmQ=(ot (fun _=>true) 8 ds).map fun d=>(nr d).2:=by
   rw[<-pll,List.map_map];rfl
  rw[this];exact nd
 rw[zOB,zhv (nm:=nm) (l:=pl 8 ds [] []) (q:=q) ?_ nd2 hq hn]
 ·rfl
 ·intro r hr;obtain⟨p,c,rfl,h0,hp,_⟩:=zhu o r hr;have hx:IsP (zc3 ([]++c)):=by
   rw[List.nil_append];obtain⟨c0,d0,rfl⟩:∃c0 d0,c=c0++[d0]:=⟨c.dropLast,c.getLast h0,(List.dropLast_concat_getLast h0).symm⟩
   rw[zb6];exact hp d0 (by simp)
  obtain⟨x,dp,inn,ex⟩:=hx;show(Option.bind (Option.bind (Option.bind (dIx (zc3 ([]++c)) (.int 0)) _) dB) _)=_
  unfold nmQ;dsimp only[];rw[ex,(zaU x dp inn).1,zOB,zb9];show(if decide (x.nm=nm)=true then _ else _)=some (if x.nm=nm then _ else _)
  by_cases z:x.nm=nm
  ·rw[if_pos (decide_eq_true z),if_pos z];rfl
  ·rw[if_neg (by simp[z]),if_neg z]
theorem zhw {ds:List D}{nm:Str}{d:D}(o:Ok 7 ds)(hl:(ot (fun _=>true) 8 ds).length<=1000)(nd:((ot (fun _=>true) 8 ds).map fun d=>(nr d).2).Nodup)(hd:d∈ot frS 8 ds)(hn:(nr d).2=nm):zam [.tup ds,.str nm]=some .non:=by
 obtain⟨p,c,h1,h2,h3⟩:=zgT (pre:=[]) (ch:=[]) o d hd;have e1:=zcB (nm:=nm) (q:=(p,[]++c)) o hl nd h1 (by unfold nmQ;dsimp only[];rw[h2];exact hn)
 obtain⟨p',c',e2,h0,hp,hf⟩:=zhu o _ h1;have ep:p=p':=congrArg Prod.fst e2
 have ec:c=c':=congrArg Prod.snd e2
 subst ep;subst ec;obtain⟨z,e3⟩:=hf [] (by decide);have e4:za1 [.tup ds,.str nm]=some (.lst c):=by
  show zbE (.tup ds) (.str nm)=_
  unfold zbE;rw[zOB,zOB,e1,zOB];show Option.bind (Option.bind (some p) (zaN gC ([],.tup ds))) _=_
  rw[zOB,e3];rfl
 have e5:zdl [.tup ds,.str nm]=some .non:=by
  show zdk (.tup ds) (.str nm)=_
  unfold zdk;rw[e4,zOB,zOB,zcX fun w hw=>by
   show Option.bind (some c) _=_
   rw[zOB,zcX fun e he=>by
    obtain⟨x,dp,inn,rfl,hx⟩:=h3 e he;have hx:x.wd = "free":=of_decide_eq_true hx
    rw[(zaU x dp inn).2.1,zOB,hx];rcases List.mem_cons.mp hw with rfl | hw
    ·rfl
    ·rw[List.mem_singleton.mp hw];rfl]
   rfl]
  rfl
 show za3 (.tup ds) (.str nm)=_
 unfold za3;rw[e5];rfl
theorem zjH {L:List (List Itm)}{nm:Str}(t:Lines [] L)(hl:L.length<=40)(nd:(L.map fun l=>(zaB l).nm).Nodup)(h:nm∈(opn frS L).map (·.2)):zam [.tup (fo L 0),.str nm]=some .non:=by
 have e:=zca (fr:=fun _=>true) t
 have e':=zca (fr:=frS) t
 rw[e',List.map_map] at h;obtain⟨d,hd,hn⟩:=List.mem_map.mp h;have ea:opn (fun _=>true) L=L.map fun l=>((zaB l).rk,(zaB l).nm):=by
  unfold opn;rw[List.filter_eq_self.mpr fun l _=>by simp]
 refine zhw (zgN t 0).up ?_ ?_ hd hn
 ·have:=congrArg List.length e
  rw[ea,List.length_map,List.length_map] at this;omega
 ·have:(ot (fun _=>true) 8 (fo L 0)).map (fun d=>(nr d).2)=L.map fun l=>(zaB l).nm:=by
   have:=congrArg (List.map Prod.snd) e
   rw[ea,List.map_map,List.map_map] at this;exact this.symm
  rw[this];exact nd
theorem zjI {xs:List D}{P:D->Prop}{i:Int}(h:∀d∈xs,P d)(h0:0<=i)(h1:i<xs.length):∃d,dIx (.lst xs) (.int i)=some d/\P d:=by
 obtain⟨x,hx,e⟩:=zgJ (xs:=xs) h0 h1;exact⟨x,e,h x (List.mem_of_getElem? hx)⟩
def zoQ (lo hi:Int)(d:D):Prop:=∃n,d=.int n/\lo<=n/\n<=hi
def zoR (d:D):Prop:=∃x,d=.str x
theorem zfc (l:List Itm)(x:Itm):zaB (l++[x])=x:=by unfold zaB;simp
def n9:List Str:=["a","ab","abc","b","ba","zz","zzzzzzzz","q","focus"]
def nm9 (t:Int)(j:Nat):Str:=(n9[((t+(j:Int)) % 9).toNat]?).getD ""
theorem zoS:∀i j:Fin 9,n9[i.val]?=n9[j.val]?->i=j:=by decide +kernel
theorem zpH {i:Int}(h0:0<=i)(h1:i<9):dIx (.lst [.str "a",.str "ab",.str "abc",.str "b",.str "ba",.str "zz",.str "zzzzzzzz",.str "q",.str "focus"]) (.int i)=some (.str ((n9[i.toNat]?).getD "")):=by
 obtain⟨x,hx,e⟩:=zgJ (xs:=n9.map D.str) h0 (by show i<9;exact h1);have e:dIx (.lst (n9.map D.str)) (.int i)=some x:=e
 rw[List.getElem?_map] at hx;cases q:n9[i.toNat]? with
 | none=>rw[q] at hx;cases hx
 | some z=>rw[q] at hx;cases hx;exact e
theorem zjJ {t:Int}{m:Nat}(h:m<=9):((List.range m).map (nm9 t)).Nodup:=by
 refine List.pairwise_map.mpr (List.nodup_range.imp_of_mem fun {a b} ha hb hne e=>hne ?_);have ha:=List.mem_range.mp ha
 have hb:=List.mem_range.mp hb
 unfold nm9 at e;have l1:((t+(a:Int)) % 9).toNat<n9.length:=by show _<9;omega
 have l2:((t+(b:Int)) % 9).toNat<n9.length:=by show _<9;omega
 rw[List.getElem?_eq_getElem l1,List.getElem?_eq_getElem l2] at e;have:=zoS ⟨_,l1⟩ ⟨_,l2⟩ (by rw[List.getElem?_eq_getElem l1,List.getElem?_eq_getElem l2];exact congrArg some e)
 have:=congrArg Fin.val this
 dsimp only[] at this;omega
def BoxD (f:Nat->D):Prop:=∃a b c d:Int,f=fun _=>.tup [.int a,.int b,.int c,.int d]
def RowI (x:Itm):Prop:=(0<=x.rk/\x.rk<=2)/\BoxD x.bx
theorem zm7 {S:Scr}{st:Int}(hst:0<=st):Po (zcj S (.scr S.p) (.int st)) fun d=>∃L,d=rwsD L/\Lines [] L/\L.length<=6/\(∀l∈L,l.length<=3)/\(L.map fun l=>(zaB l).nm).Nodup/\∀l∈L,RowI (zaB l):=by
 unfold zcj;refine zoO hst fun c=>?_
 dsimp only[];repeat (first | refine sx rfl ?_ | with_reducible refine asc ?_)
 refine zfD (by decide) (by decide) fun s0 c1 n1 a0 a1=>?_
 dsimp only[RV.d];repeat (first | refine sx rfl ?_ | with_reducible refine asc ?_)
 refine zfD (by decide) (by decide) fun m c2 n2 a2 a3=>?_
 dsimp only[RV.d];repeat (first | refine sx rfl ?_ | with_reducible refine asc ?_)
 obtain⟨m,rfl⟩:∃k:Nat,m=k:=⟨m.toNat,by omega⟩
 refine sx (show rngA [.int (m:Int)]=some (zba 0 m) from if_pos ⟨by omega,by omega⟩) ?_;dsimp only[];repeat (first | refine sx rfl ?_ | with_reducible refine asc ?_)
 refine zmW (fun i s=>∃L f,s=(f,L.map rowD,.int (((zdG [] L).length:Int) - 1))/\Lines [] L/\L.length=i/\(zdG [] L).length<=3/\(∀l∈L,l.length<=3)/\L.map (fun l=>(zaB l).nm)=(List.range i).map (nm9 s0)/\∀l∈L,RowI (zaB l)) ⟨[],_,rfl,.nil,rfl,by simp[zdG],fun l h=>(by cases h),rfl,fun l h=>(by cases h)⟩ (fun i s d hd hI=>?_) fun s hI=>?_
 ·obtain⟨L,f,rfl,t,hL,h3,hA,hN,hR⟩:=hI;obtain⟨hi,rfl⟩:=zhZ hd;dsimp only[];refine zoO (k:=st+1+(i:Int)) (by omega) fun c=>?_
  dsimp only[RV.d];repeat (first | refine sx rfl ?_ | with_reducible refine asc ?_)
  refine zpG (m:=if((zdG [] L).length:Int) - 1+2<3 then((zdG [] L).length:Int) - 1+2 else 3) rfl (by split <;> omega) (by split <;> omega) fun r c' n' r0 r1=>?_
  dsimp only[RV.d];have r2:r<=(zdG [] L).length/\r<=2:=by split at r1 <;> omega
  repeat (first | refine sx rfl ?_ | with_reducible refine asc ?_)
  refine sx (zpH (i:=(s0+(i:Int)) % 9) (Int.emod_nonneg _ (by decide)) (Int.emod_lt_of_pos _ (by decide))) ?_;repeat (first | refine sx rfl ?_ | with_reducible refine asc ?_)
  refine zfD (by decide) (by decide) fun w4 c7 n7 w0 w1=>?_
  dsimp only[RV.d];repeat (first | refine sx rfl ?_ | with_reducible refine asc ?_)
  obtain⟨_,e5,far,rfl⟩:=zjI (P:=fun d=>∃n,d=D.int n) (i:=w4) (xs:=[.int 1,.int 1,.int 1,.int (10 ^ 59)]) (by simp) w0 w1;refine sx e5 ?_;repeat (first | refine sx rfl ?_ | with_reducible refine asc ?_)
  refine zfD (by decide) (by decide) fun b1 d1 m1 p0 p1=>?_
  dsimp only[RV.d];repeat (first | refine sx rfl ?_ | with_reducible refine asc ?_)
  refine sx (show dMul (.int b1) (.int far)=some (.int (b1*far)) from if_pos (.inl ⟨by omega,by omega⟩)) ?_;repeat (first | refine sx rfl ?_ | with_reducible refine asc ?_)
  refine zfD (by decide) (by decide) fun b2 d2 m2 p2 p3=>?_
  dsimp only[RV.d];repeat (first | refine sx rfl ?_ | with_reducible refine asc ?_)
  refine sx (show dMul (.int b2) (.int far)=some (.int (b2*far)) from if_pos (.inl ⟨by omega,by omega⟩)) ?_;repeat (first | refine sx rfl ?_ | with_reducible refine asc ?_)
  refine zfD (by decide) (by decide) fun b3 d3 m3 p4 p5=>?_
  dsimp only[RV.d];repeat (first | refine sx rfl ?_ | with_reducible refine asc ?_)
  refine zfD (by decide) (by decide) fun b4 d4 m4 p6 p7=>?_
  dsimp only[RV.d];repeat (first | refine sx rfl ?_ | with_reducible refine asc ?_)
  refine zfD (by decide) (by decide) fun g d5 m5 g0 g1=>?_
  dsimp only[RV.d];repeat (first | refine sx rfl ?_ | with_reducible refine asc ?_)
  obtain⟨_,e6,wd,rfl⟩:=zjI (P:=zoR) (i:=g) (xs:=[.str "free",.str "free",.str "free",.str "free",.str "shut",.str "hidden"]) (by simp[zoR]) g0 g1;refine sx e6 ?_;repeat (first | refine sx rfl ?_ | with_reducible refine asc ?_)
  refine zfD (by decide) (by decide) fun k5 cA nA k6 k7=>?_
  dsimp only[RV.d];repeat (first | refine sx rfl ?_ | with_reducible refine asc ?_)
  obtain⟨_,e7,rk,rfl,q0,q1⟩:=zjI (P:=zoQ 0 2) (i:=k5) (xs:=[.int 0,.int 0,.int 1,.int 2]) (by simp[zoQ]) k6 k7;refine sx e7 ?_;repeat (first | refine sx rfl ?_ | with_reducible refine asc ?_)
  refine sx (zcw (Nat.lt_of_le_of_lt (by rw[List.length_map];omega:_<=40) (by decide))) ?_;refine⟨_,rfl,L++[(zdG [] L).take r.toNat++[⟨nm9 s0 i,wd,rk,fun _=>.tup [.int (b1*far),.int (b2*far),.int (1+b3),.int (1+b4)]⟩]],fe cA nA (st+1+i),?_,t.snoc (by omega) (by omega),by simp[hL],?_,fun l h=>?_,?_,fun l h=>?_⟩
  ·have hl:((zdG [] L).take r.toNat++[(⟨nm9 s0 i,wd,rk,fun _=>.tup [.int (b1*far),.int (b2*far),.int (1+b3),.int (1+b4)]⟩:Itm)]).length=r.toNat+1:=by simp;omega
   rw[zdH,List.map_append,hl,List.map_singleton];have er:rowD ((zdG [] L).take r.toNat++[(⟨nm9 s0 i,wd,rk,fun _=>.tup [.int (b1*far),.int (b2*far),.int (1+b3),.int (1+b4)]⟩:Itm)])=.tup [.int r,.str (nm9 s0 i),.tup [.int (b1*far),.int (b2*far),.int (1+b3),.int (1+b4)],.str wd,.int rk]:=by
    unfold rowD;rw[hl,show((r.toNat+1:Nat):Int) - 1=r by omega];simp
   rw[er,show((r.toNat+1:Nat):Int) - 1=r by omega];rfl
  ·rw[zdH];simp;omega
  ·rcases List.mem_append.mp h with h | h
   ·exact hA l h
   ·rw[List.mem_singleton.mp h];simp;omega
  ·rw[List.map_append,hN,<-zhY,List.map_singleton,zfc]
  ·rcases List.mem_append.mp h with h | h
   ·exact hR l h
   ·rw[List.mem_singleton.mp h,zfc];exact⟨⟨q0,q1⟩,_,_,_,_,rfl⟩
 ·obtain⟨L,f,rfl,t,hL,h3,hA,hN,hR⟩:=hI;rw[zh0] at hL hN;exact⟨_,rfl,L,rfl,t,by omega,hA,by rw[hN];exact zjJ (by omega),hR⟩
theorem zjK {S:Scr}{st:Int}(hst:0<=st):∃L,zbN S [.scr S.p,.int st]=some (rwsD L)/\Lines [] L/\L.length<=6/\(∀l∈L,l.length<=3)/\(L.map fun l=>(zaB l).nm).Nodup/\∀l∈L,RowI (zaB l):=by
 obtain⟨d,e,L,rfl,t⟩:=zm7 (S:=S) hst;exact⟨L,e,t⟩
theorem zm8 {α:Type}{key:α->Int}{l l':List α}(s:SO.Stb key l l'):∀a∈l',a∈l:=fun a ha=>by
 have:a∈l'.filter fun b=>decide (key b=key a):=List.mem_filter.mpr ⟨ha,by simp⟩
 rw[s.fl] at this;exact(List.mem_filter.mp this).1
theorem zjL {α:Type}{key:α->Int}{l s:List α}{m:Int}(hm:∀a∈l,m<=key a)(h:SO.Stb key (l.filter fun a=>decide (m<key a)) s):SO.Stb key l ((l.filter fun a=>decide (key a=m))++s):=by
 have gt:∀a∈s,m<key a:=fun a ha=>of_decide_eq_true (List.mem_filter.mp (zm8 h a ha)).2
 have eqm:∀a∈l.filter (fun a=>decide (key a=m)),key a=m:=fun a ha=>of_decide_eq_true (List.mem_filter.mp ha).2
 refine⟨List.pairwise_append.mpr ⟨?_,h.up,fun a ha b hb=>by rw[eqm a ha];exact Int.le_of_lt (gt b hb)⟩,fun v=>?_⟩
 ·exact List.pairwise_iff_forall_sublist.mpr fun {a b} z=>by
   have ha:=eqm a (z.subset (by simp));have hb:=eqm b (z.subset (by simp))
   rw[ha,hb];exact Int.le_refl _
 ·rw[List.filter_append,List.filter_filter,h.fl v,List.filter_filter];by_cases e:v=m
  ·subst e;have e1:(l.filter fun a=>decide (key a=v)&&decide (v<key a)) = []:=List.filter_eq_nil_iff.mpr fun a _=>by simp;omega
   rw[e1,List.append_nil];exact List.filter_congr fun a _=>by simp
  ·have e1:(l.filter fun a=>decide (key a=v)&&decide (key a=m)) = []:=List.filter_eq_nil_iff.mpr fun a _=>by simp;omega
   rw[e1,List.nil_append];exact List.filter_congr fun a ha=>by
    have:=hm a ha
    by_cases z:key a=v
    ·simp[z];omega
    ·simp[z]
theorem zhx {P:List (Int×Str)}:∀{as:List Int}{lo:Int},as.Pairwise (· < ·)->(∀a∈as,lo<a)->(∀q∈P,lo<q.1->q.1∈as)->SO.Stb Prod.fst (P.filter fun q=>decide (lo<q.1)) (as.flatMap fun a=>P.filter fun q=>decide (q.1=a))
 | [],lo,_,_,h=>by
   rw[List.filter_eq_nil_iff.mpr fun q hq=>by
    intro z;exact absurd (h q hq (of_decide_eq_true z)) (by simp)]
   exact⟨.nil,fun _=>rfl⟩
 | a::as,lo,hp,ha,h=>by
   rw[List.pairwise_cons] at hp;have hlo:lo<a:=ha a List.mem_cons_self
   have e1:(P.filter fun q=>decide (lo<q.1)).filter (fun q=>decide (q.1=a))=P.filter fun q=>decide (q.1=a):=by
    rw[List.filter_filter];exact List.filter_congr fun q _=>by
     by_cases z:q.1=a
     ·simp[z,hlo]
     ·simp[z]
   have e2:(P.filter fun q=>decide (lo<q.1)).filter (fun q=>decide (a<q.1))=P.filter fun q=>decide (a<q.1):=by
    rw[List.filter_filter];exact List.filter_congr fun q _=>by
     by_cases z:a<q.1
     ·have:lo<q.1:=by omega
      simp[z,this]
     ·simp[z]
   have ih:=zhx (P:=P) (as:=as) (lo:=a) hp.2 hp.1 fun q hq z=>by
    rcases List.mem_cons.mp (h q hq (by omega)) with e | e
    ·omega
    ·exact e
   have:=zjL (key:=Prod.fst) (l:=P.filter fun q=>decide (lo<q.1)) (m:=a) (fun q hq=>by
    obtain⟨hq,z⟩:=List.mem_filter.mp hq;rcases List.mem_cons.mp (h q hq (of_decide_eq_true z)) with e | e
    ·exact Int.le_of_eq e.symm
    ·exact Int.le_of_lt (hp.1 _ e)) (by rw[e2];exact ih)
   rw[e1] at this;rw[List.flatMap_cons];exact this
theorem zgi {P:List (Int×Str)}(nd:(P.map (·.2)).Nodup):∀q∈P,∀r∈P,q.2=r.2->q=r:=by
 induction P with
 | nil=>intro q hq;cases hq
 | cons p P ih=>
   rw[List.map_cons,List.nodup_cons] at nd;intro q hq r hr e;rcases List.mem_cons.mp hq with rfl | hq'
   ·rcases List.mem_cons.mp hr with rfl | hr'
    ·rfl
    ·exact absurd (e▸List.mem_map.mpr ⟨r,hr',rfl⟩) nd.1
   ·rcases List.mem_cons.mp hr with rfl | hr'
    ·exact absurd (e▸List.mem_map.mpr ⟨q,hq',rfl⟩) nd.1
    ·exact ih nd.2 q hq' r hr' e
theorem zhy {P:List (Int×Str)}(nd:(P.map (·.2)).Nodup):∀{as:List Int},as.Nodup->((as.flatMap fun a=>P.filter fun q=>decide (q.1=a)).map (·.2)).Nodup
 | [],_=>.nil
 | a::as,h=>by
   rw[List.nodup_cons] at h;rw[List.flatMap_cons,List.map_append];refine List.nodup_append.mpr ⟨?_,zhy nd h.2,fun x hx y hy e=>?_⟩
   ·exact nd.sublist (List.filter_sublist.map _)
   ·obtain⟨q,hq,rfl⟩:=List.mem_map.mp hx;obtain⟨r,hr,rfl⟩:=List.mem_map.mp hy;obtain⟨b,hb,hr⟩:=List.mem_flatMap.mp hr;obtain⟨q1,q2⟩:=List.mem_filter.mp hq;obtain⟨r1,r2⟩:=List.mem_filter.mp hr;have:=zgi nd q q1 r r1 e
    subst this;have e1:=of_decide_eq_true q2
    have e2:=of_decide_eq_true r2
    exact h.1 (by rw[<-e1,e2];exact hb)
def ordP (as:List Int)(L:List (List Itm)):List (Int×Str):=as.flatMap fun a=>(opn frS L).filter fun q=>decide (q.1=a)
theorem zm9 {as:List Int}{L:List (List Itm)}:∀q∈ordP as L,q∈opn frS L:=fun q hq=>by
 obtain⟨a,_,h⟩:=List.mem_flatMap.mp hq;exact(List.mem_filter.mp h).1
theorem zjM {L:List (List Itm)}(nd:(L.map fun l=>(zaB l).nm).Nodup):((opn frS L).map (·.2)).Nodup:=by
 unfold opn;rw[List.map_map];exact nd.sublist (List.filter_sublist.map _)
theorem zna {L:List (List Itm)}(hl:L.length<=40):(opn frS L).length<=40:=by
 unfold opn;rw[List.length_map];exact Nat.le_trans (List.length_filter_le _ _) hl
def ws (as:List Int)(L:List (List Itm)):List Str:=(ordP as L).map (·.2)
theorem ws_D (as:List Int)(L:List (List Itm)):(ordP as L).map (fun q=>D.str q.2)=(ws as L).map D.str:=by unfold ws;rw[List.map_map];rfl
theorem znb {as:List Int}{L:List (List Itm)}(t:Lines [] L)(hl:L.length<=40)(hp:as.Pairwise (· < ·))(h0:∀a∈as,0<a)(hr:∀q∈opn frS L,0<q.1->q.1∈as):zeF [.tup (fo L 0)]=some (.new 1 (.lst ((ws (as++[0]) L).map D.str)),[.non]):=by
 obtain⟨s1,h1,w1⟩:=zm3 t hl;have es:=h1.eq (zhx hp h0 hr)
 rw[w1,es,<-ws_D];unfold ordP;rw[List.flatMap_append,List.flatMap_cons,List.flatMap_nil,List.append_nil]
theorem zkN {as:List Int}{L:List (List Itm)}(ha:as.Nodup)(nd:(L.map fun l=>(zaB l).nm).Nodup):(ws as L).Nodup:=zhy (zjM nd) ha
theorem zoT {as:List Int}{L:List (List Itm)}:∀x∈ws as L,x∈(opn frS L).map (·.2):=fun x hx=>by
 obtain⟨q,hq,rfl⟩:=List.mem_map.mp hx;exact List.mem_map.mpr ⟨q,zm9 q hq,rfl⟩
theorem zfd:∀(xs:List Str),(xs.map D.str).all zaS=true
 | []=>rfl
 | x::xs=>by rw[List.map_cons,List.all_cons,zfd xs];rfl
theorem zhz {nm:Str}:∀{xs:List Str}{i:Nat},xs.Nodup->xs[i]?=some nm->(xs.map D.str).findIdx? (fun z=>decide (z=.str nm))=some i
 | [],i,_,h=>by cases h
 | x::xs,i,nd,h=>by
   rw[List.nodup_cons] at nd;rw[List.map_cons,List.findIdx?_cons];cases i with
   | zero=>
     cases h;rw[decide_eq_true rfl];rfl
   | succ i=>
     have h:xs[i]?=some nm:=h
     have hne:¬(D.str x=D.str nm):=fun e=>by
      cases e;exact nd.1 (List.mem_of_getElem? h)
     rw[decide_eq_false hne,if_neg (by decide),zhz nd.2 h];rfl
theorem zoU {xs:List Str}{i:Nat}{nm:Str}(nd:xs.Nodup)(h:xs[i]?=some nm):dIdx (.lst (xs.map D.str)) (.str nm)=some (.int (i:Int)):=by
 show(if zaS (.str nm)=true/\(xs.map D.str).all zaS=true then _ else none)=_
 rw[if_pos ⟨rfl,zfd xs⟩,zhz nd h];rfl
theorem znc {xs:List Str}{i:Nat}{nm:Str}(h:xs[i]?=some nm):dIx (.lst (xs.map D.str)) (.int (i:Int))=some (.str nm):=zaP (by rw[List.getElem?_map,h];rfl)
theorem znd {L:List (List Itm)}(hR:∀l∈L,RowI (zaB l)):∀q∈opn frS L,0<q.1->q.1∈[(1:Int),2]:=fun q hq h=>by
 unfold opn at hq;obtain⟨l,hl,rfl⟩:=List.mem_map.mp hq;have:=(hR l (List.mem_filter.mp hl).1).1
 have h:0<(zaB l).rk:=h
 have:(zaB l).rk=1\/(zaB l).rk=2:=by omega
 simpa using this
theorem zh8 {L:List (List Itm)}{i j:Nat}{nm nm2:Str}{st:Int}(t:Lines [] L)(hl:L.length<=40)(nd:(L.map fun l=>(zaB l).nm).Nodup)(hR:∀l∈L,RowI (zaB l))(h1:(ws [1,2,0] L)[i]?=some nm)(h2:(ws [1,2,0] L)[j]?=some nm2)
 (hs:((i:Int)+st) % ((ws [1,2,0] L).length:Int)=(j:Int)):zbM [.tup (fo L 0),.str nm,.int st]=some (.str nm2):=by
 have hw:zeF [.tup (fo L 0)]=some (.new 1 (.lst ((ws [1,2,0] L).map D.str)),[.non]):=znb (as:=[1,2]) t hl (by decide) (by decide) (znd hR)
 have hn:=zjH t hl nd (zoT nm (List.mem_of_getElem? h1))
 have hp:0<(ws [1,2,0] L).length:=by
  have:=(List.getElem?_eq_some_iff.mp h1).1
  omega
 show zdn (.tup (fo L 0)) (.str nm) (.int st)=_
 unfold zdn;rw[hn,zOB,zOB,zOB];dsimp only[];rw[hw];show Option.bind (Option.bind (Option.bind (Option.bind (dIdx (.lst ((ws [1,2,0] L).map D.str)) (.str nm)) _) _) _) _=_
 rw[zoU (zkN (by decide) nd) h1,zOB];show Option.bind (Option.bind (dMod (.int ((i:Int)+st)) (.int (((ws [1,2,0] L).map D.str).length:Int))) _) _=_
 rw[List.length_map,show dMod (.int ((i:Int)+st)) (.int ((ws [1,2,0] L).length:Int))=some (.int (((i:Int)+st) % ((ws [1,2,0] L).length:Int))) from if_pos (by omega),zOB,hs];show Option.bind (dIx (.lst ((ws [1,2,0] L).map D.str)) (.int (j:Int))) _=_
 rw[znc h2];rfl
theorem ac3 (a b c:D):aC (some a) (aC (some b) (aC (some c) aN))=some [a,b,c]:=rfl
theorem zoV {L:List (List Itm)}(hR:∀l∈L,RowI (zaB l)){nm:Str}(h:nm∈(opn frS L).map (·.2)):∃i:Nat,(ws [1,2,0] L)[i]?=some nm:=by
 obtain⟨q,hq,rfl⟩:=List.mem_map.mp h;refine List.getElem?_of_mem (List.mem_map.mpr ⟨q,List.mem_flatMap.mpr ?_,rfl⟩);have hr:q.1=1\/q.1=2\/q.1=0:=by
  have hq':=hq
  unfold opn at hq';obtain⟨l,hl,e⟩:=List.mem_map.mp hq';have:=(hR l (List.mem_filter.mp hl).1).1
  have e1:(zaB l).rk=q.1:=congrArg Prod.fst e
  omega
 rcases hr with e | e | e
 ·exact⟨1,by simp,List.mem_filter.mpr ⟨hq,by simp[e]⟩⟩
 ·exact⟨2,by simp,List.mem_filter.mpr ⟨hq,by simp[e]⟩⟩
 ·exact⟨0,by simp,List.mem_filter.mpr ⟨hq,by simp[e]⟩⟩
def IsA (d:D):Prop:=d=.non\/∃x,d=.str x
theorem zhA {L:List (List Itm)}{nm:Str}{st:Int}(t:Lines [] L)(hl:L.length<=40)(nd:(L.map fun l=>(zaB l).nm).Nodup)(hR:∀l∈L,RowI (zaB l))(h:nm∈(opn frS L).map (·.2)):Po (zbM [.tup (fo L 0),.str nm,.int st]) IsA:=by
 obtain⟨i,hi⟩:=zoV hR h;have hp:i<(ws [1,2,0] L).length:=(List.getElem?_eq_some_iff.mp hi).1
 have b1:=Int.emod_nonneg ((i:Int)+st) (show((ws [1,2,0] L).length:Int)≠0 by omega)
 have b2:=Int.emod_lt_of_pos ((i:Int)+st) (show(0:Int)<((ws [1,2,0] L).length:Int) by omega)
 exact⟨_,zh8 (j:=(((i:Int)+st) % ((ws [1,2,0] L).length:Int)).toNat) t hl nd hR hi (List.getElem?_eq_getElem (by omega)) (by omega),.inr ⟨_,rfl⟩⟩
theorem zoW {L:List (List Itm)}{nm:Str}(t:Lines [] L)(hl:L.length<=40)(nd:(L.map fun l=>(zaB l).nm).Nodup)(hR:∀l∈L,RowI (zaB l))(h:nm∈(opn frS L).map (·.2)):Po (zb4 [.tup (fo L 0),.str nm]) IsA:=by
 show Po (zdo _ _) _
 unfold zdo;exact(zhA t hl nd hR h).bind fun a ha=>⟨a,rfl,ha⟩
theorem zkO {L:List (List Itm)}{nm:Str}(t:Lines [] L)(hl:L.length<=40)(nd:(L.map fun l=>(zaB l).nm).Nodup)(hR:∀l∈L,RowI (zaB l))(h:nm∈(opn frS L).map (·.2)):Po (zbp [.tup (fo L 0),.str nm]) IsA:=by
 show Po (zcg _ _) _
 unfold zcg;rw[show dNeg (.int 1)=some (.int (-1)) from rfl,ac3,zOB];exact(zhA t hl nd hR h).bind fun a ha=>⟨a,rfl,ha⟩
def Rw (x:Itm)(inn:List D):Prop:=RowI x/\inn.length<=1000
def OkR:Nat->List D->Prop
 | 0,ds=>ds = []
 | n+1,ds=>∀d∈ds,∃x dp inn,d=part x dp inn/\Rw x inn/\OkR n inn
theorem OkR.nil:∀{n:Nat},OkR n []
 | 0=>rfl
 | _+1=>fun d h=>by cases h
theorem OkR.ok:∀{n:Nat}{ds:List D},OkR n ds->Ok n ds
 | 0,_,h=>h
 | n+1,ds,h=>fun d hd=>by
   obtain⟨x,dp,inn,e,_,o⟩:=h d hd;exact⟨x,dp,inn,e,o.ok⟩
theorem OkR.up:∀{n:Nat}{ds:List D},OkR n ds->OkR (n+1) ds
 | 0,ds,h=>by rw[show ds = [] from h];exact OkR.nil
 | n+1,ds,h=>fun d hd=>by
   obtain⟨x,dp,inn,e,r,o⟩:=h d hd;exact⟨x,dp,inn,e,r,o.up⟩
theorem zgj:∀{p:List Itm}{S:List (List Itm)},Lines p S->(∀l∈S,RowI (zaB l))->S.length<=1000->∀d,OkR (6 - d) (fo S d)
 | _,_,.nil,_,_,_=>OkR.nil
 | p,_,.cons (L:=S) c x hc h4 t,hR,hS,d=>by
   rw[List.length_cons] at hS;have hS':S.length<=1000:=by omega
   have hl:(p.take c++[x]).length=c+1:=by simp;omega
   have hR':=fun l h=>hR l (List.mem_cons_of_mem _ h)
   show OkR (6 - d) (if d+1=(p.take c++[x]).length then part (zaB (p.take c++[x])) d (fo S (d+1))::fo S d else if d=(p.take c++[x]).length then[] else fo S d)
   rw[hl];by_cases e:d+1=c+1
   ·rw[if_pos e];have h1:=zgj t hR' hS' (d+1)
    have h2:=zgj t hR' hS' d
    rw[show 6 - d=(6 - (d+1))+1 by omega] at h2⊢;intro y hy;rcases List.mem_cons.mp hy with rfl | hy
    ·exact⟨_,_,_,rfl,⟨hR _ List.mem_cons_self,Nat.le_trans zht hS'⟩,h1⟩
    ·exact h2 y hy
   ·rw[if_neg e];by_cases e2:d=c+1
    ·rw[if_pos e2];exact OkR.nil
    ·rw[if_neg e2];exact zgj t hR' hS' d
def Gd (d:D):Prop:=∃x dp inn n,d=part x dp inn/\Rw x inn/\OkR n inn
theorem zjN:∀{n:Nat}{ds pre ch:List D},OkR n ds->(∀d∈ch,Gd d)->∀q∈pl (n+1) ds pre ch,(∀d∈q.2,Gd d)/\q.2.length<=ch.length+n:=by
 intro n;induction n with
 | zero=>intro ds pre ch o _ q hq;rw[show ds = [] from o] at hq;cases hq
 | succ n ih=>
   intro ds pre ch o hch;have key:∀(es:List D) (b:Nat),(∀d∈es,∃x dp inn,d=part x dp inn/\Rw x inn/\OkR n inn)->∀q∈plI (pl (n+1)) pre ch b es,(∀d∈q.2,Gd d)/\q.2.length<=ch.length+(n+1):=by
    intro es;induction es with
    | nil=>intro b _ q hq;cases hq
    | cons d es ih2=>
      intro b o q hq;obtain⟨x,dp,inn,rfl,r,oi⟩:=o d List.mem_cons_self;have hch2:∀e∈ch++[part x dp inn],Gd e:=fun e he=>by
       rcases List.mem_append.mp he with he | he
       ·exact hch e he
       ·rw[List.mem_singleton.mp he];exact⟨_,_,_,_,rfl,r,oi⟩
      rw[zdr] at hq;rcases List.mem_cons.mp hq with rfl | hq
      ·exact⟨hch2,by simp⟩
      ·rcases List.mem_append.mp hq with hq | hq
       ·obtain⟨h1,h2⟩:=ih oi hch2 q hq;rw[List.length_append,List.length_singleton] at h2;exact⟨h1,by omega⟩
       ·exact ih2 (b+1) (fun y hy=>o y (List.mem_cons_of_mem _ hy)) q hq
   exact key ds 0 o
section
variable {ds:List D}{nm:Str}{d:D}(o:OkR 7 ds)(hl:(ot (fun _=>true) 8 ds).length<=1000)(nd:((ot (fun _=>true) 8 ds).map fun d=>(nr d).2).Nodup)(hd:d∈ot frS 8 ds)(hn:(nr d).2=nm)
include o hl nd hd hn
theorem zhB:∃c,za1 [.tup ds,.str nm]=some (.lst c)/\c≠[]/\c.length<=7/\∀e∈c,Gd e:=by
 obtain⟨p,c,h1,h2,h3⟩:=zgT (pre:=[]) (ch:=[]) o.ok d hd;have e1:=zcB (nm:=nm) (q:=(p,[]++c)) o.ok hl nd h1 (by unfold nmQ;dsimp only[];rw[h2];exact hn)
 obtain⟨p',c',e2,h0,hp,hf⟩:=zhu o.ok _ h1;have ep:p=p':=congrArg Prod.fst e2
 have ec:c=c':=congrArg Prod.snd e2
 subst ep;subst ec;obtain⟨z,e3⟩:=hf [] (by decide);obtain⟨g1,g2⟩:=zjN o (fun e he=>by cases he) _ h1;refine⟨c,?_,h0,by simpa using g2,fun e he=>g1 e (by simpa using he)⟩;show zbE (.tup ds) (.str nm)=_
 unfold zbE;rw[zOB,zOB,e1,zOB];show Option.bind (Option.bind (some p) (zaN gC ([],.tup ds))) _=_
 rw[zOB,e3];rfl
end
theorem zhC {f:Unit->D->Option (Fl Unit D)}{p:D->Bool}:∀{ds:List D},(∀d∈ds,f () d=some (if p d then .ret d else .nx ()))->(∃d∈ds,p d=true)->∃d∈ds,zdf f () ds=some (.ret d)
 | [],_,⟨d,h,_⟩ =>by cases h
 | a::ds,hf,⟨d,h,hp⟩ =>by
   show ∃d∈a::ds,(f () a).bind _=_
   rw[hf a List.mem_cons_self,zOB];cases ha:p a with
   | true=>exact⟨a,List.mem_cons_self,rfl⟩
   | false=>
     have:∃d∈ds,p d=true:=by
      rcases List.mem_cons.mp h with rfl | h
      ·rw[ha] at hp;cases hp
      ·exact⟨d,h,hp⟩
     obtain⟨e,he,q⟩:=zhC (fun y hy=>hf y (List.mem_cons_of_mem _ hy)) this;exact⟨e,List.mem_cons_of_mem _ he,q⟩
def hd:List Str->D
 | []=>.non
 | x::_=>.str x
theorem zoX (xs:List Str):IsA (hd xs):=by
 cases xs with
 | nil=>exact .inl rfl
 | cons x xs=>exact .inr ⟨_,rfl⟩
theorem zkP {xs:List Str}:(Option.bind (dTru (.lst (xs.map D.str))) fun k=>if k then dIx (.lst (xs.map D.str)) (.int 0) else some .non)=some (hd xs):=by
 cases xs with
 | nil=>rfl
 | cons x xs=>exact zaP (j:=0) rfl
section
variable {ds:List D}{nm:Str}{d:D}(o:OkR 7 ds)(hl:(ot (fun _=>true) 8 ds).length<=1000)(nd:((ot (fun _=>true) 8 ds).map fun d=>(nr d).2).Nodup)(hd':d∈ot frS 8 ds)(hn:(nr d).2=nm)
include o hl nd hd' hn
theorem zjO:∃e,zb3 [.tup ds,.str nm]=some e/\Gd e:=by
 have pll:=zjG (pre:=[]) (ch:=[]) o.ok
 have l1:(pl 8 ds [] []).length<=1000:=by
  have:=congrArg List.length pll
  rw[List.length_map] at this;show(pl (7+1) ds [] []).length<=1000
  rw[this];exact hl
 have e1:zaK [.tup ds]=some (.lst ((pl 8 ds [] []).map ent)):=by
  show zaT (.tup ds)=_
  unfold zaT;rw[zgh (n:=7) (ch:=[]) o.ok l1 (by decide)];rfl
 have e2:zcG [.tup ds]=some (.lst ((pl 8 ds [] []).map fun q=>zc3 q.2)):=by
  show zcF (.tup ds)=_
  unfold zcF;rw[e1,zOB];show Option.bind (Option.bind (zbk _ ((pl 8 ds [] []).map ent)) _) _=_
  rw[zdh ent (fun q=>zc3 q.2) (by omega) fun q _=>rfl];rfl
 have gd:∀e∈(pl 8 ds [] []).map (fun q=>zc3 q.2),Gd e:=fun e he=>by
  obtain⟨q,hq,rfl⟩:=List.mem_map.mp he;obtain⟨p,c,rfl,h0,_,_⟩:=zhu o.ok q hq;obtain⟨g1,_⟩:=zjN o (fun e he=>by cases he) _ hq;obtain⟨c0,d0,rfl⟩:∃c0 d0,c=c0++[d0]:=⟨c.dropLast,c.getLast h0,(List.dropLast_concat_getLast h0).symm⟩
  show Gd (zc3 ([]++(c0++[d0])))
  rw[List.nil_append,zb6];exact g1 d0 (by simp)
 obtain⟨p,c,h1,h2,_⟩:=zgT (pre:=[]) (ch:=[]) o.ok d hd';obtain⟨e,he,q⟩:=zhC (f:=fun(s1:Unit) (d2:D)=>(Option.bind (Option.bind (Option.bind (dIx d2 (.int 0)) fun v4=>((dEqG false) v4 (.str nm))) dB) fun k3=>if k3 then(Option.bind (some d2) fun(r5:D)=>(some (Fl.ret r5:Fl (Unit) (D)))) else(some (Fl.nx ():Fl (Unit) (D))))) (p:=fun d=>decide ((nr d).2=nm)) (ds:=(pl 8 ds [] []).map fun q=>zc3 q.2) (fun e he=>by
  obtain⟨x,dp,inn,n,rfl,_,_⟩:=gd e he;rw[(zaU x dp inn).1,zOB,zb9];show(if decide (x.nm=nm)=true then _ else _)=some (if decide (x.nm=nm)=true then _ else _)
  cases decide (x.nm=nm) <;> rfl) ⟨d,List.mem_map.mpr ⟨_,h1,h2⟩,decide_eq_true hn⟩
 refine⟨e,?_,gd e he⟩;show zdj (.tup ds) (.str nm)=_
 unfold zdj;rw[e2,zOB];show Option.bind (some _) _=_
 rw[zOB,q];rfl
end
def nmS (d:D):Str:=(nr d).2
def wdS:D->Str
 | .tup [_,_,.str w,_,_,_]=>w
 | _=>""
section
variable {ds:List D}{nm:Str}{d:D}(o:OkR 7 ds)(hl:(ot (fun _=>true) 8 ds).length<=1000)(nd:((ot (fun _=>true) 8 ds).map fun d=>(nr d).2).Nodup)(hd':d∈ot frS 8 ds)(hn:(nr d).2=nm)
include o hl nd hd' hn
theorem zkQ:Po (ze9 [.tup ds,.str nm]) IsA:=by
 obtain⟨e,e1,x,dp,inn,n,rfl,⟨_,hi⟩,oi⟩:=zjO o hl nd hd' hn;show Po (zhr (.tup ds) (.str nm)) _
 unfold zhr;rw[zhw o.ok hl nd hd' hn,e1,zOB,zOB,(zaU x dp inn).2.2.2,zOB];show Po (Option.bind (Option.bind (zbk _ inn) _) _) _
 have ip:∀y∈inn,∃x dp l,y=part x dp l:=fun y hy=>by
  cases n with
  | zero=>rw[show inn = [] from oi] at hy;cases hy
  | succ n=>obtain⟨x,dp,l,e,_⟩:=oi y hy;exact⟨x,dp,l,e⟩
 have hc:=zcx (f:=fun d3=>(Option.bind (Option.bind (Option.bind (dIx d3 (.int 2)) fun v5=>((dEqG false) v5 (.str "free"))) dB) fun k4=>if k4 then(Option.bind (dIx d3 (.int 0)) fun z=>some (some z)) else some none)) (fun d:D=>d) (fun d=>decide (wdS d = "free")) (fun d=>D.str (nmS d)) (xs:=inn) (by omega) fun y hy=>by
  obtain⟨x,dp,l,rfl⟩:=ip y hy;rw[(zaU x dp l).2.1,zOB,zb9];show(if decide (x.wd = "free")=true then _ else _)=some (if decide (x.wd = "free")=true then some (D.str x.nm) else none)
  rw[(zaU x dp l).1];cases decide (x.wd = "free") <;> rfl
 rw[List.map_id'] at hc;rw[hc,zOB,zOB,show(inn.filter fun d=>decide (wdS d = "free")).map (fun d=>D.str (nmS d))=((inn.filter fun d=>decide (wdS d = "free")).map nmS).map D.str by rw[List.map_map];rfl,zkP];exact⟨_,rfl,zoX _⟩
end
theorem zne {xs:List D}{lo hi:Option Int}:∀y∈VD.cut xs lo hi,y∈xs:=fun y hy=>by
 unfold VD.cut at hy;exact List.mem_of_mem_drop (List.mem_of_mem_take hy)
theorem znf {xs:List D}{lo hi:Option Int}:(VD.cut xs lo hi).length<=xs.length:=by
 unfold VD.cut;rw[List.length_take,List.length_drop];omega
theorem zoY (xs:List Str):Po (Option.bind (dTru (.lst (xs.map D.str))) fun k=>if k then(Option.bind (dNeg (.int 1)) fun v4=>dIx (.lst (xs.map D.str)) v4) else some .non) IsA:=by
 cases xs with
 | nil=>exact⟨_,rfl,.inl rfl⟩
 | cons x xs=>
   have e:ixN ((x::xs).map D.str).length (-1)=some xs.length:=by
    unfold ixN;rw[List.length_map,List.length_cons,if_neg (by omega),if_pos (by omega)];congr 1;omega
   refine⟨_,show(ixN ((x::xs).map D.str).length (-1)).bind (fun j=>((x::xs).map D.str)[j]?)=_ from by rw[e,zOB,List.getElem?_map,List.getElem?_eq_getElem (by simp)];rfl,.inr ⟨_,rfl⟩⟩
section
variable {ds:List D}{nm:Str}{d:D}(o:OkR 7 ds)(hl:(ot (fun _=>true) 8 ds).length<=1000)(nd:((ot (fun _=>true) 8 ds).map fun d=>(nr d).2).Nodup)(hd':d∈ot frS 8 ds)(hn:(nr d).2=nm)
include o hl nd hd' hn
theorem zng:Po (zcJ [.tup ds,.str nm]) IsA:=by
 obtain⟨c,e1,h0,h7,hG⟩:=zhB o hl nd hd' hn;have ea:zd9 [.tup ds,.str nm]=some (.lst (((VD.cut c none (some (-1))).map nmS).map D.str)):=by
  show zd8 (.tup ds) (.str nm)=_
  unfold zd8;rw[e1,zOB];show Option.bind (Option.bind (zbk _ (VD.cut c none (some (-1)))) _) _=_
  have hlen:=znf (xs:=c) (lo:=none) (hi:=some (-1))
  rw[zdq (g:=fun d=>D.str (nmS d)) (by omega) fun y hy=>by
   obtain⟨x,dp,inn,n,rfl,_,_⟩:=hG y (zne y hy);rw[(zaU x dp inn).1];rfl]
  rw[zOB,zOB,List.map_map];rfl
 show Po (zea (.tup ds) (.str nm)) _
 unfold zea;rw[zhw o.ok hl nd hd' hn,zOB,ea,zOB];exact(zoY _).bind fun a ha=>⟨a,rfl,ha⟩
end
end Pg
namespace Pg
open PySem PyProof PyProof.Rows L2 VD GM
def zkR:Option (Int×Int×Int)->D
 | none=>.non
 | some (a,g,c)=>.tup [.int a,.int g,.int c]
theorem zjP:zaq [.str "up"]=some .non:=by rfl
theorem zgk:zaq [.str "down"]=some .non:=by rfl
theorem zgl:zaq [.str "left"]=some .non:=by rfl
theorem zfe:zaq [.str "right"]=some .non:=by rfl
theorem znh {way:Str}(h:zmG way):zaq [.str way]=some .non:=by
 rcases h with rfl | rfl | rfl | rfl
 ·exact zjP
 ·exact zgk
 ·exact zgl
 ·exact zfe
theorem zpI:dInG false (.str "up") (.tup [.str "up",.str "down"])=some (.bl true):=by rfl
theorem zni:dInG false (.str "down") (.tup [.str "up",.str "down"])=some (.bl true):=by rfl
theorem znj:dInG false (.str "left") (.tup [.str "up",.str "down"])=some (.bl false):=by rfl
theorem zkS:dInG false (.str "right") (.tup [.str "up",.str "down"])=some (.bl false):=by rfl
theorem zpJ:dInG false (.str "up") (.tup [.str "up",.str "left"])=some (.bl true):=by rfl
theorem znk:dInG false (.str "down") (.tup [.str "up",.str "left"])=some (.bl false):=by rfl
theorem znl:dInG false (.str "left") (.tup [.str "up",.str "left"])=some (.bl true):=by rfl
theorem zkT:dInG false (.str "right") (.tup [.str "up",.str "left"])=some (.bl false):=by rfl
theorem zds (b:Bx):zbu [b.d,.bl true]=some (.tup [.int b.y,.int (b.y+b.hg)]):=rfl
theorem zdt (b:Bx):zbu [b.d,.bl false]=some (.tup [.int b.x,.int (b.x+b.wd)]):=rfl
theorem zeb {gap a:Int}:(Option.bind (Option.bind (dLt (.int gap) (.int 0)) dB) fun k7=>if k7 then(Option.bind (some D.non) fun(r8:D)=>(some r8)) else(Option.bind (some (D.int a)) fun(x11:D)=>(Option.bind (Option.bind (Option.bind (dLt x11 (.int 0)) dB) fun k12=>if k12 then(some (.int 0)) else(some (.int 1))) fun(x13:D)=>(Option.bind (Option.bind (aC (some x13) (aC (some (.int gap)) (aC (bMax [x11,(.int 0)]) aN))) mkT) fun(r14:D)=>(some r14))))) =
 some (zkR (if gap<0 then none else some (if a<0 then 0 else 1,gap,max a 0))):=by
 show(if decide (gap<0)=true then some D.non else Option.bind (Option.bind (some (decide (a<0))) fun k12=>if k12 then(some (D.int 0)) else(some (.int 1))) fun(x13:D)=>some (.tup [x13,.int gap,.int (if 0>a then 0 else a)]))=_
 by_cases hg:gap<0
 ·rw[if_pos (by simpa using hg),if_pos hg];rfl
 ·rw[if_neg (by simpa using hg),if_neg hg,zev];by_cases ha:a<0
  ·rw[if_pos ha,decide_eq_true ha];rfl
  ·rw[if_neg ha,decide_eq_false ha];rfl
theorem zec (gap s1 l1 s2 l2:Int):(if gap<0 then none else some ((if max s1 s2 - min (s1+l1) (s2+l2)<0 then 0 else 1:Int),gap,max (max s1 s2 - min (s1+l1) (s2+l2)) 0))=zeO gap s1 l1 s2 l2:=by
 unfold zeO;by_cases hg:gap<0
 ·rw[if_pos hg,if_pos hg]
 ·rw[if_neg hg,if_neg hg];by_cases h:max s1 s2 - min (s1+l1) (s2+l2)<0
  ·rw[if_pos h,if_neg (by omega),Int.max_comm]
  ·rw[if_neg h,if_pos (by omega),Int.max_comm]
theorem znm {way:Str}(h:zmG way)(b o:Bx):ze8 [b.d,o.d,.str way]=some (zkR (near b o way)):=by
 rcases h with rfl | rfl | rfl | rfl
 ·show zcP b.d o.d (.str "up")=_
  unfold zcP;rw[zjP,zOB,zpI,zOB,zds,zds,zpJ];refine Eq.trans (zeb (gap:=b.y - (o.y+o.hg)) (a:=(if o.x>b.x then o.x else b.x) - (if o.x+o.wd<b.x+b.wd then o.x+o.wd else b.x+b.wd))) ?_;rw[zev,zfv,zmH,<-zec,show b.y - (o.y+o.hg)=b.y - o.y - o.hg by omega]
 ·show zcP b.d o.d (.str "down")=_
  unfold zcP;rw[zgk,zOB,zni,zOB,zds,zds,znk];refine Eq.trans (zeb (gap:=o.y - (b.y+b.hg)) (a:=(if o.x>b.x then o.x else b.x) - (if o.x+o.wd<b.x+b.wd then o.x+o.wd else b.x+b.wd))) ?_;rw[zev,zfv,zjj,<-zec,show o.y - (b.y+b.hg)=o.y - b.y - b.hg by omega]
 ·show zcP b.d o.d (.str "left")=_
  unfold zcP;rw[zgl,zOB,znj,zOB,zdt,zdt,znl];refine Eq.trans (zeb (gap:=b.x - (o.x+o.wd)) (a:=(if o.y>b.y then o.y else b.y) - (if o.y+o.hg<b.y+b.hg then o.y+o.hg else b.y+b.hg))) ?_;rw[zev,zfv,zjk,<-zec,show b.x - (o.x+o.wd)=b.x - o.x - o.wd by omega]
 ·show zcP b.d o.d (.str "right")=_
  unfold zcP;rw[zfe,zOB,zkS,zOB,zdt,zdt,zkT];refine Eq.trans (zeb (gap:=o.x - (b.x+b.wd)) (a:=(if o.y>b.y then o.y else b.y) - (if o.y+o.hg<b.y+b.hg then o.y+o.hg else b.y+b.hg))) ?_;rw[zev,zfv,zhX,<-zec,show o.x - (b.x+b.wd)=o.x - b.x - b.wd by omega]
end Pg
namespace Pg
open PySem PyProof PyProof.Rows L2 VD GM GB
theorem zlw:∀{n m:Nat}{ds:List D},OkR (n+1) ds->ds.length<=(ot (fun _=>true) (m+1) ds).length
 | n,m,[],_=>Nat.zero_le _
 | n,m,d::ds,o=>by
   obtain⟨x,dp,inn,rfl,_,_⟩:=o d List.mem_cons_self;have:=zlw (n:=n) (m:=m) (ds:=ds) fun y hy=>o y (List.mem_cons_of_mem _ hy)
   rw[zdI,if_pos rfl,List.length_append,List.length_cons,List.length_cons];omega
theorem OkR.gd:∀{n:Nat}{es:List D},OkR n es->∀e∈es,Gd e
 | 0,es,o,e,he=>by rw[show es = [] from o] at he;cases he
 | n+1,es,o,e,he=>by
   obtain⟨x,dp,inn,q,r,oi⟩:=o e he;exact⟨x,dp,inn,n,q,r,oi⟩
def bxS:D->Bx
 | .tup [_,.tup [.int a,.int b,.int c,.int d],_,_,_,_]=>⟨a,b,c,d⟩
 | _=>⟨0,0,0,0⟩
theorem zkU {e:D}(h:Gd e):dIx e (.int 0)=some (.str (nmS e))/\dIx e (.int 1)=some (bxS e).d/\dIx e (.int 2)=some (.str (wdS e)):=by
 obtain⟨x,dp,inn,n,rfl,⟨⟨_,a,b,c,d,hb⟩,_⟩,_⟩:=h;refine⟨(zaU x dp inn).1,?_,(zaU x dp inn).2.1⟩;unfold part bxS;rw[hb];exact zaP (j:=1) rfl
theorem znn {α:Type}(g:α->D){xs:List α}(hne:xs≠[])(hm:minC (xs.map g)=true)(hlt:∀x∈xs,∀y∈xs,(ltD (g x) (g y)).isSome=true):∃q∈xs,zkx [.lst (xs.map g)]=some (g q):=by
 have hpos:0<xs.length:=List.length_pos_iff.mpr hne
 obtain⟨i,hi⟩:=ze5 (lt:=ltIx (xs.map g)) (k:=xs.length - 1) fun a b ha hb=>by
  unfold ltIx;rw[List.getElem?_map,List.getElem?_map,List.getElem?_eq_getElem (show a<xs.length by omega),List.getElem?_eq_getElem (show b<xs.length by omega)];exact hlt _ (List.getElem_mem _) _ (List.getElem_mem _)
 have hil:=zd5 hi
 refine⟨xs[i]'(by omega),List.getElem_mem _,?_⟩;show(if minC _=true then minL _ else none)=_
 rw[if_pos hm];unfold minL;rw[if_neg (by simpa using hne),List.length_map,hi,zOB,List.getElem?_map,List.getElem?_eq_getElem (show i<xs.length by omega)];rfl
theorem zkV {α:Type}(f:α->D)(xs:List α)(h:∀x∈xs,ndD (f x)=true/\depD (f x)<=2):minC (xs.map f)=true:=by
 unfold minC;rw[Bool.and_eq_true,decide_eq_true_eq];refine⟨zgH fun d hd=>?_,?_⟩
 ·obtain⟨x,hx,rfl⟩:=List.mem_map.mp hd;exact(h x hx).1
 ·induction xs with
  | nil=>exact Nat.zero_le _
  | cons x xs ih=>exact Nat.max_le.mpr ⟨Nat.le_trans (h x List.mem_cons_self).2 (by decide),ih fun y hy=>h y (List.mem_cons_of_mem _ hy)⟩
section
variable {ds:List D}{nm:Str}{d:D}(o:OkR 7 ds)(hl:(ot (fun _=>true) 8 ds).length<=1000)(nd:((ot (fun _=>true) 8 ds).map fun d=>(nr d).2).Nodup)(hd':d∈ot frS 8 ds)(hn:(nr d).2=nm)
include o hl nd hd' hn
theorem zkW:∃es,zbz [.tup ds,.str nm]=some (.tup es)/\es.length<=1000/\∀e∈es,Gd e:=by
 obtain⟨c,e1,h0,h7,hG⟩:=zhB o hl nd hd' hn;have hp:0<c.length:=List.length_pos_iff.mpr h0
 have hs:∀(K:Bool->Option D),(Option.bind (Option.bind (Option.bind (bLen [.lst c]) fun v3=>dEqG false v3 (.int 1)) dB) K)=K (decide (((c.length:Nat):Int)=1)):=fun K=>by
  show(Option.bind (Option.bind (Option.bind (some (D.int (c.length:Nat))) fun v3=>dEqG false v3 (.int 1)) dB) K)=_
  rw[zOB,zfw];rfl
 by_cases h1:c.length=1
 ·refine⟨ds,?_,Nat.le_trans (zlw (n:=6) (m:=7) o) hl,o.gd⟩;show za2 (.tup ds) (.str nm)=_
  unfold za2;rw[e1,zOB,hs,decide_eq_true (by omega)];rfl
 ·have hj:c.length - 2<c.length:=by omega
  obtain⟨x,dp,inn,n,e,⟨_,hi⟩,oi⟩:=hG (c[c.length - 2]'hj) (List.getElem_mem _);refine⟨inn,?_,hi,oi.gd⟩;have ea:dIx (.lst c) (.int (-2))=some (part x dp inn):=by
   show(ixN c.length (-2)).bind (fun j=>c[j]?)=_
   have:ixN c.length (-2)=some (c.length - 2):=by
    unfold ixN;rw[if_neg (by decide),if_pos (by omega)];congr 1;omega
   rw[this,zOB,List.getElem?_eq_getElem hj,e]
  show za2 (.tup ds) (.str nm)=_
  unfold za2;rw[e1,zOB,hs,decide_eq_false (by omega)];show(Option.bind (dIx (.lst c) (.int (-2))) fun v5=>dIx v5 (.int 5)).bind (fun r6=>some r6)=_
  rw[ea,zOB,(zaU x dp inn).2.2.2];rfl
theorem zcl {way:Str}(hw:zmG way):Po (zbg [.tup ds,.str nm,.str way]) IsA:=by
 obtain⟨e,e1,ge⟩:=zjO o hl nd hd' hn;obtain⟨es,e2,hes,gs⟩:=zkW o hl nd hd' hn;show Po (zdp (.tup ds) (.str nm) (.str way)) _
 unfold zdp;rw[znh hw,zOB,zhw o.ok hl nd hd' hn,zOB,e1,zOB,(zkU ge).2.1,zOB,zOB,e2];show Po (Option.bind (zaN _ [] (zdW es)) _) _
 have em:zdW es=es.zipIdx.map fun p=>.tup [.int (p.2:Nat),p.1]:=by
  have:=zjm (fun d:D=>d) es
  rwa [List.map_id'] at this
 have hmem:∀p∈es.zipIdx,es[p.2]?=some p.1:=fun p hp=>by
  have:=List.mem_zipIdx hp
  rw[List.getElem?_eq_getElem (by omega),this.2.2];simp
 rw[em,zdg (acc:=[]) (fun p:D×Nat=>.tup [.int (p.2:Nat),p.1]) (fun p=>(near (bxS e) (bxS p.1) way).isSome&&decide (wdS p.1 = "free")) (fun p=>.tup [trD ((near (bxS e) (bxS p.1) way).getD (0,0,0)),.int (p.2:Nat),.str (nmS p.1)]) (by rw[List.length_nil,List.length_zipIdx];omega) (fun acc p hp hl=>?_)]
 ·rw[List.nil_append,zOB];generalize hz:(es.zipIdx.filter fun p=>(near (bxS e) (bxS p.1) way).isSome&&decide (wdS p.1 = "free"))=zs;have hzm:∀p∈zs,es[p.2]?=some p.1:=fun p hp=>by rw[<-hz] at hp;exact hmem p (List.mem_filter.mp hp).1
  by_cases h0:zs = []
  ·rw[h0];exact⟨_,rfl,.inl rfl⟩
  ·obtain⟨q,hq,h3⟩:=znn (fun p:D×Nat=>D.tup [trD ((near (bxS e) (bxS p.1) way).getD (0,0,0)),.int (p.2:Nat),.str (nmS p.1)]) h0 (zkV _ _ fun x _=>⟨rfl,Nat.le_refl _⟩) fun x hx y hy=>by
    rw[zmI (xs:=[.str (nmS x.1)]) (ys:=[.str (nmS y.1)]) rfl fun h=>?_]
    ·rfl
    ·have hxy:x.2=y.2:=by omega
     have:=(hzm x hx).symm.trans ((congrArg (fun j=>es[j]?) hxy).trans (hzm y hy))
     rw[Option.some.inj this,ltL,if_pos (by rfl),if_pos rfl];rfl
   cases zs with
   | nil=>exact absurd rfl h0
   | cons z zs=>
     refine sx (a:=.str (nmS q.1)) ?_ ⟨_,rfl,.inr ⟨_,rfl⟩⟩;show Option.bind (zkx [.lst ((z::zs).map _)]) (fun v15=>dIx v15 (.int 2))=_
     rw[h3,zOB];exact zaP (j:=2) rfl
 ·have gp:Gd p.1:=gs _ (List.mem_of_getElem? (hmem p hp))
  show(Option.bind (Option.bind (aC (some (bxS e).d) (aC (dIx p.1 (.int 1)) (aC (some (.str way)) aN))) ze8) _)=_
  rw[(zkU gp).2.1];show(Option.bind (ze8 [(bxS e).d,(bxS p.1).d,.str way]) _)=_
  rw[znm hw,zOB];show(Option.bind (Option.bind (Option.bind (Option.bind (dIs true (zkR (near (bxS e) (bxS p.1) way)) D.non) dB) fun k10=>if k10 then(Option.bind (Option.bind (dIx p.1 (.int 2)) fun v9=>(dEqG false v9 (.str "free"))) dB) else some false) fun k11=>if k11 then(Option.bind (Option.bind (Option.bind (aC (some (zkR (near (bxS e) (bxS p.1) way))) (aC (some (.int (p.2:Nat))) (aC (dIx p.1 (.int 0)) aN))) mkT) (appL acc)) fun(x12:List D)=>(some x12)) else(some acc)) fun(s13:List D)=>(some s13))=_
  rw[(zkU gp).2.2,(zkU gp).1,zOB,zb9];cases hq:near (bxS e) (bxS p.1) way with
  | none=>rfl
  | some t=>
    show(Option.bind (Option.bind (some (decide (wdS p.1=("free" : Str)))) fun k11=>if k11 then _ else(some acc)) fun(s13:List D)=>(some s13))=_
    cases hf:decide (wdS p.1=("free" : Str)) with
    | false=>rfl
    | true=>
      obtain⟨t1,t2,t3⟩:=t;show(Option.bind (Option.bind (appL acc _) fun(x12:List D)=>(some x12)) fun(s13:List D)=>(some s13))=_
      rw[zcw hl];rfl
end
def keys8:List Str:=["on","back","up","down","left","right","into","out"]
structure Good (L:List (List Itm)):Prop where
 t:Lines [] L
 l6:L.length<=6
 l3:∀l∈L,l.length<=3
 nd:(L.map fun l=>(zaB l).nm).Nodup
 rI:∀l∈L,RowI (zaB l)
theorem Good.nil:Good []:=⟨Lines.nil,by simp,fun l h=>(by cases h),List.nodup_nil,fun l h=>(by cases h)⟩
def nmsO (L:List (List Itm)):List Str:=(opn frS L).map (·.2)
def shD (L:List (List Itm)):D:=.tup (fo L 0)
theorem nk {k:Str}(h:zbh [.str k]=some .non:=by decide +kernel)(a b:D):zbi [a,b,.str k]=(Option.bind (Option.bind ((dEqG false) (.str k) (.str "on")) dB) fun k2=>if k2 then(Option.bind (zb4 [a,b]) fun(r3:D)=>(some r3)) else(Option.bind (Option.bind ((dEqG false) (.str k) (.str "back")) dB) fun k4=>if k4 then(Option.bind (zbp [a,b]) fun(r5:D)=>(some r5)) else(Option.bind (Option.bind ((dEqG false) (.str k) (.str "into")) dB) fun k6=>if k6 then(Option.bind (ze9 [a,b]) fun(r7:D)=>(some r7)) else(Option.bind (Option.bind ((dEqG false) (.str k) (.str "out")) dB) fun k8=>if k8 then(Option.bind (zcJ [a,b]) fun(r9:D)=>(some r9)) else(Option.bind (zbg [a,b,.str k]) fun(r10:D)=>(some r10)))))):=by
 show zhs a b (.str k)=_
 unfold zhs;rw[h];rfl
theorem eqS {A:Type}{x y:Str}{K:Bool->Option A}(c:Bool)(h:decide (x=y)=c:=by decide +kernel):(Option.bind (Option.bind ((dEqG false) (.str x) (.str y)) dB) K)=K c:=by rw[zb9,h];rfl
theorem k_on (a b:D):zbi [a,b,.str "on"]=(zb4 [a,b]).bind fun r=>some r:=by
 rw[nk];rw[eqS true];rfl
theorem zoZ (a b:D):zbi [a,b,.str "back"]=(zbp [a,b]).bind fun r=>some r:=by
 rw[nk];rw[eqS false];rw[eqS true];rfl
theorem k_up (a b:D):zbi [a,b,.str "up"]=(zbg [a,b,.str "up"]).bind fun r=>some r:=by
 rw[nk];rw[eqS false];rw[eqS false];rw[eqS false];rw[eqS false];rfl
theorem zo0 (a b:D):zbi [a,b,.str "down"]=(zbg [a,b,.str "down"]).bind fun r=>some r:=by
 rw[nk];rw[eqS false];rw[eqS false];rw[eqS false];rw[eqS false];rfl
theorem zo1 (a b:D):zbi [a,b,.str "left"]=(zbg [a,b,.str "left"]).bind fun r=>some r:=by
 rw[nk];rw[eqS false];rw[eqS false];rw[eqS false];rw[eqS false];rfl
theorem zno (a b:D):zbi [a,b,.str "right"]=(zbg [a,b,.str "right"]).bind fun r=>some r:=by
 rw[nk];rw[eqS false];rw[eqS false];rw[eqS false];rw[eqS false];rfl
theorem zo2 (a b:D):zbi [a,b,.str "into"]=(ze9 [a,b]).bind fun r=>some r:=by
 rw[nk];rw[eqS false];rw[eqS false];rw[eqS true];rfl
theorem zpK (a b:D):zbi [a,b,.str "out"]=(zcJ [a,b]).bind fun r=>some r:=by
 rw[nk];rw[eqS false];rw[eqS false];rw[eqS false];rw[eqS true];rfl
theorem zdU {o:Option D}{R:D->Prop}(h:Po o R):Po (o.bind fun r=>some r) R:=h.bind fun a ha=>⟨a,rfl,ha⟩
theorem zkX {L:List (List Itm)}(g:Good L){nm:Str}(h:nm∈nmsO L):∀key∈keys8,Po (zbi [shD L,.str nm,.str key]) IsA:=by
 have l40:L.length<=40:=Nat.le_trans g.l6 (by decide)
 have e:=zca (fr:=fun _=>true) g.t
 have e':=zca (fr:=frS) g.t
 have h':=h
 unfold nmsO at h';rw[e',List.map_map] at h';obtain⟨d,hd,hn⟩:=List.mem_map.mp h';have ea:opn (fun _=>true) L=L.map fun l=>((zaB l).rk,(zaB l).nm):=by
  unfold opn;rw[List.filter_eq_self.mpr fun l _=>by simp]
 have o:=(zgj g.t g.rI (Nat.le_trans g.l6 (by decide)) 0).up
 have hl:(ot (fun _=>true) 8 (fo L 0)).length<=1000:=by
  have:=congrArg List.length e
  rw[ea,List.length_map,List.length_map] at this;omega
 have nd:((ot (fun _=>true) 8 (fo L 0)).map fun d=>(nr d).2).Nodup:=by
  have:(ot (fun _=>true) 8 (fo L 0)).map (fun d=>(nr d).2)=L.map fun l=>(zaB l).nm:=by
   have:=congrArg (List.map Prod.snd) e
   rw[ea,List.map_map,List.map_map] at this;exact this.symm
  rw[this];exact g.nd
 intro key hk;simp only[keys8,List.mem_cons,List.not_mem_nil,or_false] at hk;unfold shD;rcases hk with rfl | rfl | rfl | rfl | rfl | rfl | rfl | rfl
 ·rw[k_on];exact zdU (zoW g.t l40 g.nd g.rI h)
 ·rw[zoZ];exact zdU (zkO g.t l40 g.nd g.rI h)
 ·rw[k_up];exact zdU (zcl o hl nd hd hn (.inl rfl))
 ·rw[zo0];exact zdU (zcl o hl nd hd hn (.inr (.inl rfl)))
 ·rw[zo1];exact zdU (zcl o hl nd hd hn (.inr (.inr (.inl rfl))))
 ·rw[zno];exact zdU (zcl o hl nd hd hn (.inr (.inr (.inr rfl))))
 ·rw[zo2];exact zdU (zkQ o hl nd hd hn)
 ·rw[zpK];exact zdU (zng o hl nd hd hn)
def go (L:List (List Itm))(nm key:Str):D:=(zbi [shD L,.str nm,.str key]).getD .non
theorem zeU {L:List (List Itm)}(g:Good L){nm key:Str}(h:nm∈nmsO L)(hk:key∈keys8):zbi [shD L,.str nm,.str key]=some (go L nm key)/\IsA (go L nm key):=by
 obtain⟨a,e,ha⟩:=zkX g h key hk;unfold go;rw[e];exact⟨rfl,ha⟩
theorem neA {d e:D}(h1:IsA d)(h2:IsA e):dEqG true d e=some (.bl (!decide (d=e))):=by
 unfold dEqG;rw[if_pos (by rcases h1 with rfl | ⟨x,rfl⟩ <;> rcases h2 with rfl | ⟨y,rfl⟩ <;> rfl),if_pos rfl]
def rw8 (L M:List (List Itm))(nm key:Str):D:=.tup [.str nm,.str key,go L nm key,go M nm key]
def df1 (L M:List (List Itm))(nm:Str):List D:=(keys8.filter fun k=>!decide (go L nm k=go M nm k)).map (rw8 L M nm)
def dfs (L M:List (List Itm)):List D:=((nmsO M).filter fun x=>decide (x∈nmsO L)).flatMap (df1 L M)
theorem zfE (L M:List (List Itm))(nm:Str):(df1 L M nm).length<=8:=by
 unfold df1;rw[List.length_map];exact Nat.le_trans (List.length_filter_le _ _) (by decide)
theorem mk4 (a b c d:D):mkT [a,b,c,d]=some (.tup [a,b,c,d]):=if_pos (by show 4<=lim;decide)
theorem ac4 (a b c d:D):aC (some a) (aC (some b) (aC (some c) (aC (some d) aN)))=some [a,b,c,d]:=rfl
theorem i2 (a b c d:D):dIx (.tup [a,b,c,d]) (.int 2)=some c:=zaP (j:=2) rfl
theorem i3 (a b c d:D):dIx (.tup [a,b,c,d]) (.int 3)=some d:=zaP (j:=3) rfl
theorem k8:[D.str "on",D.str "back",D.str "up",D.str "down",D.str "left",D.str "right",D.str "into",D.str "out"]=keys8.map D.str:=rfl
section
variable {L M:List (List Itm)}(g1:Good L)(g2:Good M)
include g1 g2
theorem zjQ {nm:Str}(h1:nm∈nmsO L)(h2:nm∈nmsO M):zaY [shD L,shD M,.str nm]=some (.lst (df1 L M nm)):=by
 show zaX (shD L) (shD M) (.str nm)=_
 unfold zaX;rw[k8,zdh D.str (rw8 L M nm) (by decide) fun k hk=>by
  rw[(zeU g1 h1 hk).1,(zeU g2 h2 hk).1,ac4,zOB,mk4];rfl]
 rw[zOB,zOB];show Option.bind (Option.bind (zbk _ (keys8.map (rw8 L M nm))) _) _=_
 rw[zcx (rw8 L M nm) (fun k=>!decide (go L nm k=go M nm k)) (rw8 L M nm) (by decide) fun k hk=>by
  unfold rw8;rw[i2,i3,zOB,zOB,neA (zeU g1 h1 hk).2 (zeU g2 h2 hk).2];show(if(!decide (go L nm k=go M nm k))=true then _ else _)=_
  cases(!decide (go L nm k=go M nm k)) <;> rfl]
 rfl
theorem zo3 (g:Good L):zbt [shD L]=some (.lst ((nmsO L).map D.str)):=by
 have l6:=g.l6
 show zbU (shD L)=_
 unfold zbU shD;rw[zjC g.t (by omega),zOB];show Option.bind (Option.bind (zbk _ (ot frS 8 (fo L 0))) _) _=_
 have e':=zca (fr:=frS) g.t
 have hlen:(ot frS 8 (fo L 0)).length<=40:=by
  have:=congrArg List.length e'
  rw[List.length_map] at this;rw[<-this];exact zna (by omega)
 rw[zdq (g:=fun d=>D.str (nr d).2) (by omega) fun y hy=>by
  obtain⟨x,dp,inn,rfl⟩:=zjD (zgN g.t 0).up y hy;rw[(zaU x dp inn).1];rfl]
 rw[zOB,zOB];unfold nmsO;rw[e',List.map_map,List.map_map];rfl
theorem zgU (g:Good L):(nmsO L).length<=6:=by
 unfold nmsO opn;rw[List.length_map,List.length_map];exact Nat.le_trans (List.length_filter_le _ _) g.l6
end
theorem zdu {α:Type}{f:List D->D->Option (List D)}(h:α->D)(p:α->Bool)(g:α->List D):∀{xs:List α}{acc:List D},acc.length+8*xs.length<=1000->(∀acc x,x∈xs->acc.length+8<=1000->f acc (h x)=some (if p x then acc++g x else acc))->(∀x,(g x).length<=8)->zaN f acc (xs.map h)=some (acc++(xs.filter p).flatMap g)
 | [],acc,_,_,_=>by show some acc=_;simp
 | x::xs,acc,hl,hf,hg=>by
   rw[List.length_cons] at hl;show(f acc (h x)).bind _=_
   rw[hf acc x List.mem_cons_self (by omega),zOB];have:=hg x
   cases hp:p x with
   | true=>
     refine Eq.trans (zdu h p g (xs:=xs) (acc:=acc++g x) (by rw[List.length_append];omega) (fun a y hy=>hf a y (List.mem_cons_of_mem _ hy)) hg) ?_;simp[hp]
   | false=>
     refine Eq.trans (zdu h p g (xs:=xs) (acc:=acc) (by omega) (fun a y hy=>hf a y (List.mem_cons_of_mem _ hy)) hg) ?_;simp[hp]
section
variable {L M:List (List Itm)}(g1:Good L)(g2:Good M)
include g1 g2
theorem znp:zaw [shD L,shD M]=some (.new 1 (.lst (dfs L M)),[.non,.non]):=by
 have n2:=zgU g2 g2 g2
 show zbB (shD L) (shD M)=_
 unfold zbB;rw[zo3 g1 g1 g1,zo3 g2 g2 g2,zOB,zOB,zOB];show Option.bind (zaN _ [] ((nmsO M).map D.str)) _=_
 rw[zdu (acc:=[]) D.str (fun x=>decide (x∈nmsO L)) (df1 L M) (by rw[List.length_nil];omega) (fun acc x hx hl=>?_) (zfE L M)]
 ·rfl
 ·rw[zjo];show(Option.bind (if decide (x∈nmsO L)=true then _ else _) _)=_
  by_cases h:x∈nmsO L
  ·rw[if_pos (decide_eq_true h),if_pos (decide_eq_true h),zjQ g1 g2 h hx,zOB,zlv (by have:=zfE L M x;omega)];rfl
  ·rw[if_neg (by simpa using h),if_neg (by simpa using h)];rfl
end
theorem zeG {f:List D×D->D->Option (List D×D)}(hf:∀(acc:List D) (p:List Itm) (c:Nat) (x:Itm),acc.length<100->p.length<=5->c<=p.length->f (acc,.lst (p.map fun y=>.str y.wd)) (rowD (p.take c++[x]))=some (if(p.take c++[x]).all (fun y=>frS y.wd) then acc++[.str x.nm] else acc,.lst ((p.take c++[x]).map fun y=>.str y.wd))) :
 ∀{p:List Itm}{L:List (List Itm)},Lines p L->p.length<=5->∀acc:List D,acc.length+L.length<=100->∃z,zaN f (acc,.lst (p.map fun y=>.str y.wd)) (L.map rowD)=some (acc++((opn frS L).map (·.2)).map D.str,z)
 | _,_,.nil,_,acc,_=>⟨_,by show some (acc,_)=_;simp[opn];rfl⟩
 | p,_,.cons (L:=S) c x hc h4 t,hp,acc,hl=>by
   rw[List.length_cons] at hl;have hlen:(p.take c++[x]).length=c+1:=by simp;omega
   obtain⟨z,e⟩:=zeG hf t (by omega) (if(p.take c++[x]).all (fun y=>frS y.wd) then acc++[.str x.nm] else acc) (by split <;> (try rw[List.length_append,List.length_singleton]) <;> omega);refine⟨z,?_⟩;show(f (acc,_) (rowD _)).bind _=_
   rw[hf acc p c x (by omega) hp hc,zOB,e];congr 2;unfold opn;rw[List.filter_cons];cases h:(p.take c++[x]).all (fun y=>frS y.wd)
   ·simp
   ·simp[zaB]
theorem zo4 {p:List Itm}{x:Itm}{c:Nat}(hc:c<=p.length):un5 (rowD (p.take c++[x]))=some (.int (c:Int),.str x.nm,x.bx c,.str x.wd,.int x.rk):=by
 have hlen:(p.take c++[x]).length=c+1:=by simp;omega
 unfold rowD;rw[hlen];simp only[List.getLast?_append,List.getLast?_singleton,Option.some_or,Option.getD_some];show some _=some _
 congr 2;congr 1;omega
theorem zkY {ws:List D}{c:Nat}(h:c<=ws.length):dSl (.lst ws) none (some (c:Int))=some (.lst (ws.take c)):=by
 show some (D.lst (VD.cut ws none (some (c:Int))))=_
 rw[zkF (by omega) (by omega),Int.toNat_natCast]
theorem zjR:∀(xs:List Itm),blsD (xs.map fun y=>D.bl (frS y.wd))=some (xs.map fun y=>frS y.wd)
 | []=>rfl
 | x::xs=>by
   show(blsD (xs.map _)).bind _=_
   rw[zjR xs];rfl
def opF:List D×D->D->Option (List D×D):=fun(s3:List D×D) (d13:D)=>Option.bind (un5 d13) fun(y4:D×D×D×D×D)=>(Option.bind (Option.bind (Option.bind (Option.bind (dInt y4.1) fun i=>some (some i)) fun v5=>(dSl s3.2 none v5)) fun v6=>(dAdd v6 (.lst [y4.2.2.2.1]))) fun(x7:D)=>(Option.bind (Option.bind (Option.bind (Option.bind (aC (Option.bind (Option.bind (dSeq x7) (zbk (fun d9=>(Option.bind ((dEqG false) d9 (.str "free")) fun z=>some (some z))))) fun ds=>some (.lst ds)) aN) bAll) dTru) fun k8=>if k8 then(Option.bind (appL s3.1 y4.2.1) fun(x10:List D)=>(some x10)) else(some s3.1)) fun(s11:List D)=>(some (s11,x7))))
theorem zo5 (acc:List D)(p:List Itm)(c:Nat)(x:Itm)(ha:acc.length<100)(hp:p.length<=5)(hc:c<=p.length):opF (acc,.lst (p.map fun y=>.str y.wd)) (rowD (p.take c++[x]))=some (if(p.take c++[x]).all (fun y=>frS y.wd) then acc++[.str x.nm] else acc,.lst ((p.take c++[x]).map fun y=>.str y.wd)):=by
 unfold opF;rw[zo4 hc,zOB];show Option.bind (Option.bind (dSl (.lst (p.map fun y=>D.str y.wd)) none (some (c:Int))) _) _=_
 rw[zkY (by rw[List.length_map];exact hc),zOB];show Option.bind (mkL ((p.map fun y=>D.str y.wd).take c++[.str x.wd])) _=_
 have e1:(p.map fun y=>D.str y.wd).take c++[D.str x.wd]=(p.take c++[x]).map fun y=>D.str y.wd:=by rw[List.map_append,List.map_take];rfl
 have hlen:(p.take c++[x]).length=c+1:=by simp;omega
 unfold mkL;rw[e1,if_pos (Nat.le_trans (by rw[List.length_map];omega:_<=1000) (by decide)),zOB];show Option.bind (Option.bind (Option.bind (Option.bind (aC (Option.bind (zbk _ ((p.take c++[x]).map fun y=>D.str y.wd)) _) aN) bAll) dTru) _) _=_
 rw[zdh (fun y:Itm=>D.str y.wd) (fun y=>D.bl (frS y.wd)) (by omega) fun y _=>by rw[zb9];rfl];show Option.bind (Option.bind (Option.bind (Option.bind (blsD ((p.take c++[x]).map fun y=>D.bl (frS y.wd))) _) dTru) _) _=_
 rw[zjR,zOB,zOB];show Option.bind (if((p.take c++[x]).map fun y=>frS y.wd).all id=true then _ else _) _=_
 rw[List.all_map,show(id∘fun y:Itm=>frS y.wd)=fun y=>frS y.wd from rfl];cases h:(p.take c++[x]).all (fun y=>frS y.wd)
 ·rfl
 ·rw[if_pos rfl,if_pos rfl];show Option.bind (Option.bind (appL acc (.str x.nm)) _) _=_
  rw[zcw (Nat.lt_of_lt_of_le ha (by decide))];rfl
theorem zgm {L:List (List Itm)}(g:Good L):zbj [rwsD L]=some (.lst ((nmsO L).map D.str)):=by
 have l6:=g.l6
 show zbC (rwsD L)=_
 unfold zbC;rw[zOB,zOB];show Option.bind (zaN opF (([]:List D),D.lst (([]:List Itm).map fun y=>.str y.wd)) (L.map rowD)) _=_
 obtain⟨z,e⟩:=zeG zo5 g.t (by simp) [] (by simp;omega);rw[e,zOB,List.nil_append];rfl
section
variable {L M:List (List Itm)}(g1:Good L)(g2:Good M)
include g1 g2
theorem zlx:zb5 [rwsD L,rwsD M,.tup [shD L,shD M]]=some (.lst (dfs L M)):=by
 have n2:=zgU g2 g2 g2
 have j0:dIx (.tup [shD L,shD M]) (.int 0)=some (shD L):=zaP (j:=0) rfl
 have j1:dIx (.tup [shD L,shD M]) (.int 1)=some (shD M):=zaP (j:=1) rfl
 show zcK (rwsD L) (rwsD M) (.tup [shD L,shD M])=_
 unfold zcK;rw[zOB,zgm g2,zgm g1,zOB,j0,j1];show Option.bind (zaN _ [] ((nmsO M).map D.str)) _=_
 rw[zdu (acc:=[]) D.str (fun x=>decide (x∈nmsO L)) (df1 L M) (by rw[List.length_nil];omega) (fun acc x hx hl=>?_) (zfE L M)]
 ·rfl
 ·rw[zOB,zjo];show(Option.bind (if decide (x∈nmsO L)=true then _ else _) _)=_
  by_cases h:x∈nmsO L
  ·rw[if_pos (decide_eq_true h),if_pos (decide_eq_true h)];rw[k8,zOB,zdg D.str (fun k=>!decide (go L x k=go M x k)) (rw8 L M x) (by show acc.length+8<=10000;omega) fun acc k hk hl=>?_]
   ·rfl
   ·rw[ac3,ac3,zOB,zOB,(zeU g1 h hk).1,(zeU g2 hx hk).1,zOB,zOB,neA (zeU g1 h hk).2 (zeU g2 hx hk).2];show(Option.bind (if(!decide (go L x k=go M x k))=true then _ else _) _)=_
    cases(!decide (go L x k=go M x k))
    ·rfl
    ·rw[if_pos rfl,if_pos rfl,zcw hl];rfl
  ·rw[if_neg (by simpa using h),if_neg (by simpa using h)];rfl
end
theorem zly:∀(xs:List D),blsD (xs.map fun _=>D.bl false)=some (xs.map fun _=>false)
 | []=>rfl
 | x::xs=>by
   show(blsD (xs.map _)).bind _=_
   rw[zly xs];rfl
theorem zhD {ds:List D}(hl:ds.length<=100)(ht:∀d∈ds,∃nm k a b,d=.tup [.str nm,.str k,a,b]/\IsA a/\IsA b):Option.bind (zaJ [.lst ds,.lst ds]) zb2=some (.bl true):=by
 have hc:eqC (.lst ds) (.lst ds)=true:=by
  refine zhk (zjn fun d hd=>?_) (Nat.succ_le_succ (Nat.le_trans (zgL (m:=1) fun d hd=>?_) (by decide)))
  ·obtain⟨nm,k,a,b,rfl,ha,hb⟩:=ht d hd;rcases ha with rfl | ⟨x,rfl⟩ <;> rcases hb with rfl | ⟨y,rfl⟩ <;> rfl
  ·obtain⟨nm,k,a,b,rfl,ha,hb⟩:=ht d hd;rcases ha with rfl | ⟨x,rfl⟩ <;> rcases hb with rfl | ⟨y,rfl⟩ <;> exact Nat.le_refl _
 show Option.bind (zbV (.lst ds) (.lst ds)) zb2=_
 unfold zbV;rw[show isD "list" (.lst ds)=some (.bl true) from rfl];show Option.bind (Option.bind (Option.bind (Option.bind (Option.bind (aC (Option.bind (zbk _ ds) _) aN) bAny) dTru) fun k2=>if k2 then some true else(Option.bind ((dEqG true) (.lst ds) (.lst ds)) dB)) _) zb2=_
 rw[zdq (g:=fun _=>D.bl false) (by omega) fun d hd=>by
  obtain⟨nm,k,a,b,rfl,_,_⟩:=ht d hd;rfl]
 show Option.bind (Option.bind (Option.bind (Option.bind (Option.bind (blsD (ds.map fun _=>D.bl false)) _) dTru) fun k2=>if k2 then some true else(Option.bind ((dEqG true) (.lst ds) (.lst ds)) dB)) _) zb2=_
 rw[zly,zf6 hc,zOB];have:((ds.map fun _=>false).any id)=false:=by
  rw[List.any_eq_false];intro b hb;obtain⟨d,_,rfl⟩:=List.mem_map.mp hb;decide
 rw[this];show Option.bind (Option.bind (appD (.lst ds) .non) _) zb2=_
 show Option.bind (Option.bind (Option.bind (appL ds .non) _) _) zb2=_
 rw[zcw (Nat.lt_of_le_of_lt hl (by decide))];rfl
theorem zlz {L M:List (List Itm)}(g1:Good L)(g2:Good M):(dfs L M).length<=100/\∀d∈dfs L M,∃nm k a b,d=.tup [.str nm,.str k,a,b]/\IsA a/\IsA b:=by
 refine⟨?_,fun d hd=>?_⟩
 ·have n2:=zgU g2 g2 g2
  have:∀(xs:List Str),(xs.flatMap (df1 L M)).length<=8*xs.length:=fun xs=>by
   induction xs with
   | nil=>simp
   | cons x xs ih=>
     rw[List.flatMap_cons,List.length_append,List.length_cons];have:=zfE L M x
     omega
  have h1:=this ((nmsO M).filter fun x=>decide (x∈nmsO L))
  have h2:=List.length_filter_le (fun x=>decide (x∈nmsO L)) (nmsO M)
  unfold dfs;omega
 ·obtain⟨nm,hn,hd⟩:=List.mem_flatMap.mp hd;obtain⟨h2,h1⟩:=List.mem_filter.mp hn;obtain⟨k,hk,rfl⟩:=List.mem_map.mp hd;have hk:=(List.mem_filter.mp hk).1
  exact⟨nm,k,_,_,rfl,(zeU g1 (of_decide_eq_true h1) hk).2,(zeU g2 h2 hk).2⟩
theorem zkZ (L:List (List Itm)):dfs L L = []:=by
 unfold dfs;refine List.flatMap_eq_nil_iff.mpr fun x _=>?_
 unfold df1;rw[List.filter_eq_nil_iff.mpr fun k _=>by simp];rfl
theorem znq (M:List (List Itm)):dfs [] M = []:=by
 unfold dfs;rw[List.filter_eq_nil_iff.mpr fun x _=>by simp[nmsO,opn]];rfl
theorem zfF:∀{n:Nat}{ds:List D},OkR n ds->ndL ds=true/\depL ds<=2*n
 | 0,ds,o=>by rw[show ds = [] from o];exact⟨rfl,Nat.le_refl _⟩
 | n+1,ds,o=>by
   refine⟨zjn fun d hd=>?_,zgL fun d hd=>?_⟩
   ·obtain⟨x,dp,inn,rfl,⟨⟨_,a,b,c,e,hb⟩,_⟩,oi⟩:=o d hd;have:=(zfF oi).1
    unfold part;rw[hb];show(true&&(true&&(true&&(true&&(true&&(ndL inn&&true))))))=true
    rw[this];rfl
   ·obtain⟨x,dp,inn,rfl,⟨⟨_,a,b,c,e,hb⟩,_⟩,oi⟩:=o d hd;have:=(zfF oi).2
    unfold part;rw[hb];show max 0 (max 1 (max 0 (max 0 (max 0 (max (depL inn+1) 0)))))+1<=2*(n+1)
    omega
theorem zo6 (S:Scr):zkL S (.scr S.p)=some (.bl true):=by
 obtain⟨L,e1,t1,a1,b1,c1,d1⟩:=zjK (S:=S) (st:=0) (by decide);obtain⟨M,e2,t2,a2,b2,c2,d2⟩:=zjK (S:=S) (st:=31) (by decide);have g1:Good L:=⟨t1,a1,b1,c1,d1⟩
 have g2:Good M:=⟨t2,a2,b2,c2,d2⟩
 have h1:zaR [rwsD L]=some (shD L):=zjE t1 (fun l h=>Nat.le_succ_of_le (b1 l h)) (by omega)
 have h2:zaR [rwsD M]=some (shD M):=zjE t2 (fun l h=>Nat.le_succ_of_le (b2 l h)) (by omega)
 have mk:∀a b:D,mkT [a,b]=some (.tup [a,b]):=fun _ _=>if_pos (by show 2<=lim;decide)
 have j0:∀a b:D,dIx (.tup [a,b]) (.int 0)=some a:=fun _ _=>zaP (j:=0) rfl
 have j1:∀a b:D,dIx (.tup [a,b]) (.int 1)=some b:=fun _ _=>zaP (j:=1) rfl
 have dn:∀{A B:List (List Itm)},Good A->Good B->(Option.bind (some [shD A,shD B]) fun l=>if l.length=2 then Option.bind (zaw l) zeP else none)=some (dfs A B):=fun ga gb=>by
  rw[zOB,if_pos (show[_,_].length=2 from rfl),znp ga gb];rfl
 have rt:∀{A B:List (List Itm)},Good A->Good B->Option.bind (zaJ [.lst (dfs A B),.lst (dfs A B)]) zb2=some (.bl true):=fun ga gb=>zhD (zlz ga gb).1 (zlz ga gb).2
 have q0:(Option.bind (some [shD L,shD L]) fun l=>if l.length=2 then Option.bind (zaw l) zeP else none)=some []:=by rw[dn g1 g1,zkZ]
 have q1:(Option.bind (some [.tup [],shD M]) fun l=>if l.length=2 then Option.bind (zaw l) zeP else none)=some []:=by
  have:=dn Good.nil g2
  rw[znq] at this;exact this
 have r0:Option.bind (zaJ [.lst [],.lst []]) zb2=some (.bl true):=zhD (ds:=[]) (by simp) fun d h=>by cases h
 have sn:∀{A:List (List Itm)},Good A->ndD (shD A)=true/\depD (shD A)<=13:=fun ga=>by
  have:=zfF (zgj ga.t ga.rI (Nat.le_trans ga.l6 (by decide)) 0)
  exact⟨this.1,Nat.succ_le_succ this.2⟩
 have hc:eqC (.tup [shD L,shD M]) (.tup [shD L,shD M])=true:=zhk (by
  show(ndD (shD L)&&(ndD (shD M)&&true))=true
  rw[(sn g1).1,(sn g2).1];rfl) (by
  show max (depD (shD L)) (max (depD (shD M)) 0)+1<=40
  have:=(sn g1).2;have:=(sn g2).2;omega)
 unfold zkL;rw[e1,zOB,e2,zOB,h1,h2,ac2,zOB,mk,zOB,zlx g1 g2,zOB];rw[show zmP (.tup [shD L,shD M])=some (.tup [shD M,shD L]) from rfl,ac3,zOB,zlx g2 g1,zOB,j0,j1,ac2,ac2,ac2,ac2,q0,q1,dn g1 g2,dn g2 g1];rw[show rngA [.int 2]=some [.int 0,.int 1] from rfl,zOB,zcX fun d _=>?_]
 ·show Option.bind (Option.bind (some (D.tup [shD L,shD M])) fun v23=>dEqG false (.tup [shD L,shD M]) v23) _=_
  rw[zOB,zf6 hc];rfl
 ·simp only[zOB,rt g1 g2,rt g2 g1,r0];rfl
end Pg
namespace VD
open PySem PySem.Spec PyProof PyProof.Rows L2 PySem.W
def spB (K:W.Frag)(q:Str):List Addr->(Addr->Array Value)->Sp
 | [P],nm=>fun vs H Q _=>vs.length=1/\((nm P)[0]?=some (Value.str q 0)->∃S:Scr,vs = [.ref S.p]/\PcL K S P q H/\∀H',Q (.bl true) H')
 | _,_=>fun vs _ _ _=>vs.length=1
theorem lawB {P:Program}{w:World}{K:W.Frag}{mg:Str->Option Value}{base:Heap}{k:Nat}{f tP:Addr}{fd:FuncData}{x q:Str}{m:Scr->List D->Option D}{nm:Addr->Array Value}
 (hn:(nm tP)[0]?=some (Value.str q 0)) (F:∀S:Scr,FnOk P w K mg base CX0 k f fd [x] (pcS (PcL K S tP q) (spF K (m S)))) (hl:∀S:Scr,m S [.scr S.p]=some (.bl true)):FnOk P w K mg base CX0 k f fd [x] (spB K q [tP] nm):=
 ⟨fun vs H Q E h=>h.1,fun A outer s H args us vs Q E hr he hb hv h=>by
  obtain⟨S,e,hP,hq⟩:=h.2 hn;subst e;refine(F S).run A outer s H args us _ Q E hr he hb hv ⟨hP,fun _=>False,[.scr S.p],.bl true,fun _ h=>h.elim,.cons (.scr _) .nil,hl S,fun v H' J' u r=>?_⟩;cases r;exact hq _⟩
theorem walkB {l:PySem.W.OpenLaw}{k:Nat}{x nq:Str}{q:Program}{loose:List Str}{XP:(Str->Option Value)->Heap->Prop}{YP:World->Heap->Prop}{d:DefRec}{K:Params->W.Frag}(hn:l.most=some 63)(hdf:d.params.defaults = [])(hr:Room k callerA)
 (hY:∀(w:World) (h:Heap),YP w h->(K w.params).In h)
 (F:∀(w:World) (mg mb:Str->Option Value) (mean:ExcName->Option Value) (fa:Addr) (h:Heap),(K w.params).In h->Top q (PySem.W.looseW q loose) mean mg mb h->mg d.name=some (.ref fa)->
  ∃(fd:FuncData) (tb:List Addr) (nm:Addr->Array Value),Tabs (K w.params) h tb/\(∀(s:Shared) (u:Value),BindsTo s fd ⟨[u],[]⟩ [(x,u)])/\
   ∀(base:Heap) (bm:Addr) (ob:Obj),(K w.params).In base->base.Ns mainGlobals mg->BMod base mainGlobals mg bm ob->FnOk l.prog w (K w.params) mg base CX0 k fa fd [x] (spB (K w.params) nq tb nm)) :
 PySem.W.WalkO q loose XP YP l.row.toRowW d [] (fun f vs=>PySem.call f vs):=
 zj4 (n:=63) (k:=k) (x:=x) (CX:=fun _=>CX0) (sp:=fun w=>spB (K w.params) nq) hn (by decide) hdf hr hY F
  (fun w tb nm H a ns hl hT hS hF=>match tb,hT with
   | [P],hT=>⟨rfl,fun h0=>⟨⟨a,ns⟩,rfl,⟨SqF.of hS hF,_,hT P (List.mem_singleton.mpr rfl),h0⟩,fun _=>rfl⟩⟩
   | [],_=>rfl
   | _::_::_,_=>rfl) fun _ _ _ _ _ z=>z
end VD
def PySem.W.Fast.tw17018660176490220797:Nat:=0
def PySem.W.Fast.tw9312565096945139354:Nat:=0
def PySem.W.Fast.tw3326425260208881652:Nat:=0
def PySem.W.Fast.tw15887222601478394451:Nat:=0
def PySem.W.Fast.tw6473171682167444479:Nat:=0
def PySem.W.Fast.tw9584523630347867066:Nat:=0
def PySem.W.Fast.tw9109440349128563492:Nat:=0
def PySem.W.Fast.tw12775278309547538480:Nat:=0
def PySem.W.Fast.tw14641929654252244541:Nat:=0
def PySem.W.Fast.tw18374285568833583859:Nat:=0
def PySem.W.Fast.tw13302598987379751634:Nat:=0
def PySem.W.Fast.tw16896096584589094442:Nat:=0
def PySem.W.Fast.tw6314562404988212088:Nat:=0
def PySem.W.Fast.tw5711850022159609928:Nat:=0
def PySem.W.Fast.tw6388711815519375295:Nat:=0
def PySem.W.Fast.tw3382056889910215327:Nat:=0
def PySem.W.Fast.tw15830922314712725609:Nat:=0
def PySem.W.Fast.tw17850199404015163230:Nat:=0
def PySem.W.Fast.tw12854016453689187523:Nat:=0
def PySem.W.Fast.tw13592512735529363985:Nat:=0
def PySem.W.Fast.tw768715036291904119:Nat:=0
def PySem.W.Fast.tw13869709290210205477:Nat:=0
def PySem.W.Fast.tw16410442029055980774:Nat:=0
def PySem.W.Fast.tw10341946923609932165:Nat:=0
def PySem.W.Fast.tw7498861519515433690:Nat:=0
def PySem.W.Fast.tw667295551792326879:Nat:=0
def PySem.W.Fast.tw2833385942940662382:Nat:=0
def PySem.W.Fast.tw8138061891469325144:Nat:=0
def PySem.W.Fast.tw4403590164532134972:Nat:=0
def PySem.W.Fast.tw7692329107839713665:Nat:=0
def PySem.W.Fast.tw1151820739152740812:Nat:=0
def PySem.W.Fast.tw6519509402378940142:Nat:=0
def PySem.W.Fast.tw8853096122834779572:Nat:=0
def PySem.W.Fast.tw11458692320249932887:Nat:=0
def PySem.W.Fast.tw14640993642685202874:Nat:=0
def PySem.W.Fast.tw18247744727689769249:Nat:=0
def PySem.W.Fast.tw798089214669746749:Nat:=0
def PySem.W.Fast.tw10051741705403932843:Nat:=0
def PySem.W.Fast.tw14125399032916082403:Nat:=0
def PySem.W.Fast.tw4512018958572584264:Nat:=0
def PySem.W.Fast.tw2295937001417590058:Nat:=0
def PySem.W.Fast.tw2703681340742074367:Nat:=0
def PySem.W.Fast.tw4632704969305038176:Nat:=0
def PySem.W.Fast.tw15123036518387798933:Nat:=0
def PySem.W.Fast.tw1420650871630482931:Nat:=0
def PySem.W.Fast.tw7619008257849253629:Nat:=0
def PySem.W.Fast.tw6874165534190878552:Nat:=0
def PySem.W.Fast.tw4014275119085972705:Nat:=0
def PySem.W.Fast.tw6335918207763580851:Nat:=0
def PySem.W.Fast.tw9822760039022348890:Nat:=0
def PySem.W.Fast.tw1898202577035994246:Nat:=0
def PySem.W.Fast.tw12647815102647109104:Nat:=0
def PySem.W.Fast.tw5903604266673734945:Nat:=0
def PySem.W.Fast.tw10977997489278431522:Nat:=0
def PySem.W.Fast.tw5065154080212840360:Nat:=0
def PySem.W.Fast.tw14083866382703897338:Nat:=0
def PySem.W.Fast.tw8141370523851132004:Nat:=0
def PySem.W.Fast.tw10647418579352627893:Nat:=0
def PySem.W.Fast.tw18243098333154082887:Nat:=0
def PySem.W.Fast.tw2867492758698324315:Nat:=0
def PySem.W.Fast.tw3447372509902581425:Nat:=0
def PySem.W.Fast.tw13050290718792993174:Nat:=0
def PySem.W.Fast.tw1075372230882590709:Nat:=0
def PySem.W.Fast.tw12098405847289999983:Nat:=0
def PySem.W.Fast.tw4741863918997859522:Nat:=0
def PySem.W.Fast.tw10428972457875211587:Nat:=0
def PySem.W.Fast.tw6833257180966846352:Nat:=0
def PySem.W.Fast.tw18067216893371047562:Nat:=0
def PySem.W.Fast.tw10533766542081882237:Nat:=0
def PySem.W.Fast.tw2081363839090051034:Nat:=0
def PySem.W.Fast.tw15170376406945077601:Nat:=0
def PySem.W.Fast.tw12215944546280148344:Nat:=0
def PySem.W.Fast.tw4849300847975711232:Nat:=0
def PySem.W.Fast.tw12463682175442454589:Nat:=0
def PySem.W.Fast.tw1188507713378855233:Nat:=0
def PySem.W.Fast.tw17270578558626663929:Nat:=0
def PySem.W.Fast.tw17631475740589474767:Nat:=0
def PySem.W.Fast.tw5389972006898266219:Nat:=0
def PySem.W.Fast.tw12498132252500961267:Nat:=0
def PySem.W.Fast.tw15017643786019795240:Nat:=0
def PySem.W.Fast.tw14742598753045014187:Nat:=0
def PySem.W.Fast.tw12744907081719232041:Nat:=0
def PySem.W.Fast.tw9320934767619662738:Nat:=0
def PySem.W.Fast.tw9150279237449026737:Nat:=0
def PySem.W.Fast.tw13936814725321816664:Nat:=0
def PySem.W.Fast.tw621909305314746667:Nat:=0
def PySem.W.Fast.tw980793762020061282:Nat:=0
def PySem.W.Fast.tw14997058794060729180:Nat:=0
def PySem.W.Fast.tw948928519649113351:Nat:=0
def PySem.W.Fast.tw12626294168737770928:Nat:=0
def PySem.W.Fast.tw14340368231124516034:Nat:=0
def PySem.W.Fast.tw9289676490370975606:Nat:=0
def PySem.W.Fast.tw6635602510071195583:Nat:=0
def PySem.W.Fast.tw2453136642172600983:Nat:=0
def PySem.W.Fast.tw1103932403776657369:Nat:=0
def PySem.W.Fast.tw9306155416526773499:Nat:=0
def PySem.W.Fast.tw17974970753791486956:Nat:=0
def PySem.W.Fast.tw15815649642978991082:Nat:=0
def PySem.W.Fast.tw6865135880237559351:Nat:=0
def PySem.W.Fast.tw3927679717418465962:Nat:=0
def PySem.W.Fast.tw16609517631441394926:Nat:=0
def PySem.W.Fast.tw6294904256068237179:Nat:=0
def PySem.W.Fast.tw10142799112635022671:Nat:=0
def PySem.W.Fast.tw18433669460526592596:Nat:=0
def PySem.W.Fast.tw5126286566534013277:Nat:=0
def PySem.W.Fast.tw7897347043895402021:Nat:=0
def PySem.W.Fast.tw17467083827175404444:Nat:=0
def PySem.W.Fast.tw5693833809302103020:Nat:=0
def PySem.W.Fast.tw12410611893616793503:Nat:=0
def PySem.W.Fast.tw14184721566335630870:Nat:=0
def PySem.W.Fast.tw185752080127843067:Nat:=0
namespace Pg
open PySem PySem.Spec PyProof PyProof.Rows L2 VD
theorem zaD {p:Str->Prop}{x:Str}{xs:List Str}(h:p x)(t:∀y∈xs,p y):∀y∈x::xs,p y:=fun y hy=>(List.mem_cons.mp hy).elim (fun e=>e▸h) (t y)
def FH (K:W.Frag)(x:Str)(st:Stmt)(f:Addr):Prop:=W.nsIn K mainGlobals x=some (some (.ref f))/\(∃fd,Fun K x x st f fd)/\W.keepIn K (.ref f)=true
theorem fh_mk {K:W.Frag}{x:Str}{st:Stmt}{f:Addr}{oc:Value}{od an:Option Addr}{osl:Array (Option Value)}{kV doc pm cdv ct:Value}(a:W.nsIn K mainGlobals x=some (some (.ref f)))(l:K.lookup f=some ⟨oc,od,.func (W.fnOf x x (zcp st) (zbc st) (zad st) .none kV doc pm an cdv ct),osl⟩)(c:W.codeIn K cdv x=true)(k:W.keepIn K (.ref f)=true):FH K x st f:=⟨a,⟨_,zix l c k⟩,k⟩
theorem zdv:∀(n:Nat) (ds:List D) (d:D),zaF n ds=some d->ds.length=2
 | 0,ds,d,e=>by cases e
 | n+1,ds,d,e=>zbw ds d e
theorem zd1:∀(n:Nat) (ds:List D) (d:D),zan n ds=some d->ds.length=1
 | 0,ds,d,e=>by cases e
 | n+1,ds,d,e=>zcM ds d e
theorem all_mk {l:PySem.W.OpenLaw}{q:Program}{loose:List Str}{w:World}{K:W.Frag}{h:Heap}{mg mb:Str->Option Value}{mean:ExcName->Option Value}{dR:DefRec}{fa f1 f2 f3 f4 f5 f6 f7 f8 f9 f10 f11 f12 f13 f14 f15 f16 f17 f18 f19 f20 f21 f22 f23 f24 f25 f26 f27 f28 f29 f30 f31 f32 f33 f34 f35:Addr}(X:K.In h)(T:Top q loose mean mg mb h)(hfa:mg "law"=some (.ref fa))
 {od13 an13 od35 an35:Option Addr}{sl13 sl35:Array (Option Value)}{oc13 kV13 dc13 pm13 cd13 ct13 oc35 kV35 dc35 pm35 cd35 ct35:Value}
 (h1:FH K "placed_within" zbJ f1)
 (h2:FH K "placed_parts" zbZ f2)
 (h3:FH K "parts_of" zcE f3)
 (h4:FH K "part_of" zey f4)
 (h5:FH K "place_of" zdJ f5)
 (h6:FH K "chain_of" zdK f6)
 (h7:FH K "around" zd7 f7)
 (h8:FH K "level_parts" zcb f8)
 (h9:FH K "why_not" zez f9)
 (h10:FH K "refuse_not_open" zbo f10)
 (h11:FH K "open_tuples" zcc f11)
 (h12:FH K "open_parts" zbS f12)
 (a13:W.nsIn K mainGlobals "walk"=some (some (.ref f13))) (l13:K.lookup f13=some ⟨oc13,od13,.func (W.fnOf "walk" "walk" (zcp zcO) (zbc zcO) (zad zcO) .none kV13 dc13 pm13 an13 cd13 ct13),sl13⟩) (c13:W.codeIn K cd13 "walk"=true) (k13:W.keepIn K (.ref f13)=true)
 (h14:FH K "stepped" zeB f14)
 (h15:FH K "on_from" zeA f15)
 (h16:FH K "back_from" zcY f16)
 (h17:FH K "refuse_no_side" zbv f17)
 (h18:FH K "stretch" zeC f18)
 (h19:FH K "apart_by" zdL f19)
 (h20:FH K "lies" zjy f20)
 (h21:FH K "nearest" zeD f21)
 (h22:FH K "into" zhp f22)
 (h23:FH K "out_of" zfz f23)
 (h24:FH K "refuse_no_key" zbK f24)
 (h25:FH K "goes" zjz f25)
 (h26:FH K "differences_from" zaI f26)
 (h27:FH K "differences" zcd f27)
 (h28:FH K "_law_feed" zcZ f28)
 (h29:FH K "_law_next" zc0 f29)
 (h30:FH K "_law_rows" zc1 f30)
 (h31:FH K "_law_hung" zce f31)
 (h32:FH K "_law_opened" zby f32)
 (h33:FH K "_law_due" zdM f33)
 (h34:FH K "_law_right" zbT f34)
 (a35:W.nsIn K mainGlobals "law"=some (some (.ref f35))) (l35:K.lookup f35=some ⟨oc35,od35,.func (W.fnOf "law" "law" (zcp zfA) (zbc zfA) (zad zfA) .none kV35 dc35 pm35 an35 cd35 ct35),sl35⟩) (c35:W.codeIn K cd35 "law"=true) (k35:W.keepIn K (.ref f35)=true)
 (z0:W.nsIn K mainGlobals "len"=some none)
 (z1:W.nsIn K mainGlobals "range"=some none)
 (z2:W.nsIn K mainGlobals "min"=some none)
 (z3:W.nsIn K mainGlobals "max"=some none)
 (z4:W.nsIn K mainGlobals "int"=some none)
 (z5:W.nsIn K mainGlobals "str"=some none)
 (z6:W.nsIn K mainGlobals "bool"=some none)
 (z7:W.nsIn K mainGlobals "list"=some none)
 (z8:W.nsIn K mainGlobals "tuple"=some none)
 (z9:W.nsIn K mainGlobals "isinstance"=some none)
 (z10:W.nsIn K mainGlobals "any"=some none)
 (z11:W.nsIn K mainGlobals "all"=some none)
 (z12:W.nsIn K mainGlobals "enumerate"=some none)
 (z13:W.nsIn K mainGlobals "abs"=some none)
 (z14:W.nsIn K mainGlobals "sorted"=some none)
 (z15:W.nsIn K mainGlobals "dict"=some none)
 (z16:W.nsIn K mainGlobals "ord"=some none)
 (z17:W.nsIn K mainGlobals "chr"=some none)
 (z18:W.nsIn K mainGlobals "reversed"=some none)
 {tk_PARTS:Tok}
 {tk_NAME:Tok}
 {tk_WORD:Tok}
 {tk_RANK:Tok}
 {p_SIDES:Addr}{od_SIDES:Option Addr}{n_SIDES:Nat}{sl_SIDES:Array (Option Value)}{tk_SIDES_0 tk_SIDES_1 tk_SIDES_2 tk_SIDES_3:Tok}
 {tk_BOX:Tok}
 {p_KEYS:Addr}{od_KEYS:Option Addr}{n_KEYS:Nat}{sl_KEYS:Array (Option Value)}{tk_KEYS_0 tk_KEYS_1 tk_KEYS_2 tk_KEYS_3 tk_KEYS_4 tk_KEYS_5 tk_KEYS_6 tk_KEYS_7:Tok}
 (t_tuple_NoneType:PySem.W.kitOne K (.type "NoneType") (.type "tuple")=some false)
 (t_tuple_bool:PySem.W.kitOne K (.type "bool") (.type "tuple")=some false)
 (t_tuple_int:PySem.W.kitOne K (.type "int") (.type "tuple")=some false)
 (t_tuple_str:PySem.W.kitOne K (.type "str") (.type "tuple")=some false)
 (t_tuple_tuple:PySem.W.kitOne K (.type "tuple") (.type "tuple")=some true)
 (t_tuple_list:PySem.W.kitOne K (.type "list") (.type "tuple")=some false)
 (t_tuple_dict:PySem.W.kitOne K (.type "dict") (.type "tuple")=some false)
 (t_list_NoneType:PySem.W.kitOne K (.type "NoneType") (.type "list")=some false)
 (t_list_bool:PySem.W.kitOne K (.type "bool") (.type "list")=some false)
 (t_list_int:PySem.W.kitOne K (.type "int") (.type "list")=some false)
 (t_list_str:PySem.W.kitOne K (.type "str") (.type "list")=some false)
 (t_list_tuple:PySem.W.kitOne K (.type "tuple") (.type "list")=some false)
 (t_list_list:PySem.W.kitOne K (.type "list") (.type "list")=some true)
 (t_list_dict:PySem.W.kitOne K (.type "dict") (.type "list")=some false)
 (g_PARTS:W.nsIn K mainGlobals "PARTS"=some (some (.int 5 tk_PARTS)))
 (g_NAME:W.nsIn K mainGlobals "NAME"=some (some (.int 0 tk_NAME)))
 (g_WORD:W.nsIn K mainGlobals "WORD"=some (some (.int 2 tk_WORD)))
 (g_RANK:W.nsIn K mainGlobals "RANK"=some (some (.int 3 tk_RANK)))
 (g_SIDES:W.nsIn K mainGlobals "SIDES"=some (some (.ref p_SIDES)))
 (l_SIDES:K.lookup p_SIDES=some ⟨.type "tuple",od_SIDES,.seq #[.str "up" tk_SIDES_0,.str "down" tk_SIDES_1,.str "left" tk_SIDES_2,.str "right" tk_SIDES_3] n_SIDES,sl_SIDES⟩)
 (g_BOX:W.nsIn K mainGlobals "BOX"=some (some (.int 1 tk_BOX)))
 (g_KEYS:W.nsIn K mainGlobals "KEYS"=some (some (.ref p_KEYS)))
 (l_KEYS:K.lookup p_KEYS=some ⟨.type "tuple",od_KEYS,.seq #[.str "on" tk_KEYS_0,.str "back" tk_KEYS_1,.str "up" tk_KEYS_2,.str "down" tk_KEYS_3,.str "left" tk_KEYS_4,.str "right" tk_KEYS_5,.str "into" tk_KEYS_6,.str "out" tk_KEYS_7] n_KEYS,sl_KEYS⟩)
 (hK:PySem.W.kb_classed K=true) (hf:(recsOf q).find? (fun e=>e.name == (Str.ofString "walk"))=some dR)
 : ∃(fd:FuncData) (tb:List Addr) (nm:Addr->Array Value),Tabs K h tb/\(∀(s:Shared) (v:Value),BindsTo s fd ⟨[v],[]⟩ [("_law_script",v)])/\∀(base:Heap) (bm:Addr) (ob:Obj),K.In base->base.Ns mainGlobals mg->BMod base mainGlobals mg bm ob->FnOk l.prog w K mg base CX0 20 fa fd ["_law_script"] (spB K "walk.<locals>.<lambda>" tb nm):=by
 have e:=hfa.symm.trans (W.mg_of X T.g a35)
 cases e;have K_tuple:Kit K "tuple":=⟨t_tuple_NoneType,t_tuple_bool,t_tuple_int,t_tuple_str,t_tuple_tuple,t_tuple_list,t_tuple_dict⟩
 have K_list:Kit K "list":=⟨t_list_NoneType,t_list_bool,t_list_int,t_list_str,t_list_tuple,t_list_list,t_list_dict⟩
 have G_PARTS:GlobD K mg "PARTS" (.int 5):=zdd (W.mg_of X T.g g_PARTS)
 have G_NAME:GlobD K mg "NAME" (.int 0):=zdd (W.mg_of X T.g g_NAME)
 have G_WORD:GlobD K mg "WORD" (.int 2):=zdd (W.mg_of X T.g g_WORD)
 have G_RANK:GlobD K mg "RANK" (.int 3):=zdd (W.mg_of X T.g g_RANK)
 have G_SIDES:GlobD K mg "SIDES" (.tup [(.str "up"),(.str "down"),(.str "left"),(.str "right")]):=zhf (vs:=[.str "up",.str "down",.str "left",.str "right"]) (W.mg_of X T.g g_SIDES) l_SIDES rfl rfl (by show 4<=sizeLine;decide) (.cons ⟨_,rfl⟩ (.cons ⟨_,rfl⟩ (.cons ⟨_,rfl⟩ (.cons ⟨_,rfl⟩ (.nil))))) (fun _ _=>.cons (.str _) (.cons (.str _) (.cons (.str _) (.cons (.str _) (.nil)))))
 have G_BOX:GlobD K mg "BOX" (.int 1):=zdd (W.mg_of X T.g g_BOX)
 have G_KEYS:GlobD K mg "KEYS" (.tup [(.str "on"),(.str "back"),(.str "up"),(.str "down"),(.str "left"),(.str "right"),(.str "into"),(.str "out")]):=zhf (vs:=[.str "on",.str "back",.str "up",.str "down",.str "left",.str "right",.str "into",.str "out"]) (W.mg_of X T.g g_KEYS) l_KEYS rfl rfl (by show 8<=sizeLine;decide) (.cons ⟨_,rfl⟩ (.cons ⟨_,rfl⟩ (.cons ⟨_,rfl⟩ (.cons ⟨_,rfl⟩ (.cons ⟨_,rfl⟩ (.cons ⟨_,rfl⟩ (.cons ⟨_,rfl⟩ (.cons ⟨_,rfl⟩ (.nil))))))))) (fun _ _=>.cons (.str _) (.cons (.str _) (.cons (.str _) (.cons (.str _) (.cons (.str _) (.cons (.str _) (.cons (.str _) (.cons (.str _) (.nil)))))))))
 obtain⟨a1,⟨_,F1⟩,k1⟩:=h1;have b1:=F1.binds (ps:=["parts","outer_place"]) fun _ _ _ _ _ _ us hl=>match us,hl with | [_,_],_=>rfl
 have m1:=W.mg_of X T.g a1
 obtain⟨a2,⟨_,F2⟩,k2⟩:=h2;have b2:=F2.binds (ps:=["sheet"]) fun _ _ _ _ _ _ us hl=>match us,hl with | [_],_=>rfl
 have m2:=W.mg_of X T.g a2
 obtain⟨a3,⟨_,F3⟩,k3⟩:=h3;have b3:=F3.binds (ps:=["sheet"]) fun _ _ _ _ _ _ us hl=>match us,hl with | [_],_=>rfl
 have m3:=W.mg_of X T.g a3
 obtain⟨a4,⟨_,F4⟩,k4⟩:=h4;have b4:=F4.binds (ps:=["sheet","name"]) fun _ _ _ _ _ _ us hl=>match us,hl with | [_,_],_=>rfl
 have m4:=W.mg_of X T.g a4
 obtain⟨a5,⟨_,F5⟩,k5⟩:=h5;have b5:=F5.binds (ps:=["sheet","name"]) fun _ _ _ _ _ _ us hl=>match us,hl with | [_,_],_=>rfl
 have m5:=W.mg_of X T.g a5
 obtain⟨a6,⟨_,F6⟩,k6⟩:=h6;have b6:=F6.binds (ps:=["sheet","name"]) fun _ _ _ _ _ _ us hl=>match us,hl with | [_,_],_=>rfl
 have m6:=W.mg_of X T.g a6
 obtain⟨a7,⟨_,F7⟩,k7⟩:=h7;have b7:=F7.binds (ps:=["sheet","name"]) fun _ _ _ _ _ _ us hl=>match us,hl with | [_,_],_=>rfl
 have m7:=W.mg_of X T.g a7
 obtain⟨a8,⟨_,F8⟩,k8⟩:=h8;have b8:=F8.binds (ps:=["sheet","name"]) fun _ _ _ _ _ _ us hl=>match us,hl with | [_,_],_=>rfl
 have m8:=W.mg_of X T.g a8
 obtain⟨a9,⟨_,F9⟩,k9⟩:=h9;have b9:=F9.binds (ps:=["sheet","name"]) fun _ _ _ _ _ _ us hl=>match us,hl with | [_,_],_=>rfl
 have m9:=W.mg_of X T.g a9
 obtain⟨a10,⟨_,F10⟩,k10⟩:=h10;have b10:=F10.binds (ps:=["sheet","name"]) fun _ _ _ _ _ _ us hl=>match us,hl with | [_,_],_=>rfl
 have m10:=W.mg_of X T.g a10
 obtain⟨a11,⟨_,F11⟩,k11⟩:=h11;have b11:=F11.binds (ps:=["parts"]) fun _ _ _ _ _ _ us hl=>match us,hl with | [_],_=>rfl
 have m11:=W.mg_of X T.g a11
 obtain⟨a12,⟨_,F12⟩,k12⟩:=h12;have b12:=F12.binds (ps:=["sheet"]) fun _ _ _ _ _ _ us hl=>match us,hl with | [_],_=>rfl
 have m12:=W.mg_of X T.g a12
 have F13:=zix (st:=zcO) l13 c13 k13
 have b13:=F13.binds (ps:=["sheet"]) fun _ _ _ _ _ _ us hl=>match us,hl with | [_],_=>rfl
 have m13:=W.mg_of X T.g a13
 obtain⟨a14,⟨_,F14⟩,k14⟩:=h14;have b14:=F14.binds (ps:=["sheet","name","step"]) fun _ _ _ _ _ _ us hl=>match us,hl with | [_,_,_],_=>rfl
 have m14:=W.mg_of X T.g a14
 obtain⟨a15,⟨_,F15⟩,k15⟩:=h15;have b15:=F15.binds (ps:=["sheet","name"]) fun _ _ _ _ _ _ us hl=>match us,hl with | [_,_],_=>rfl
 have m15:=W.mg_of X T.g a15
 obtain⟨a16,⟨_,F16⟩,k16⟩:=h16;have b16:=F16.binds (ps:=["sheet","name"]) fun _ _ _ _ _ _ us hl=>match us,hl with | [_,_],_=>rfl
 have m16:=W.mg_of X T.g a16
 obtain⟨a17,⟨_,F17⟩,k17⟩:=h17;have b17:=F17.binds (ps:=["way"]) fun _ _ _ _ _ _ us hl=>match us,hl with | [_],_=>rfl
 have m17:=W.mg_of X T.g a17
 obtain⟨a18,⟨_,F18⟩,k18⟩:=h18;have b18:=F18.binds (ps:=["box","upright"]) fun _ _ _ _ _ _ us hl=>match us,hl with | [_,_],_=>rfl
 have m18:=W.mg_of X T.g a18
 obtain⟨a19,⟨_,F19⟩,k19⟩:=h19;have b19:=F19.binds (ps:=["one","other"]) fun _ _ _ _ _ _ us hl=>match us,hl with | [_,_],_=>rfl
 have m19:=W.mg_of X T.g a19
 obtain⟨a20,⟨_,F20⟩,k20⟩:=h20;have b20:=F20.binds (ps:=["box","other","way"]) fun _ _ _ _ _ _ us hl=>match us,hl with | [_,_,_],_=>rfl
 have m20:=W.mg_of X T.g a20
 obtain⟨a21,⟨_,F21⟩,k21⟩:=h21;have b21:=F21.binds (ps:=["sheet","name","way"]) fun _ _ _ _ _ _ us hl=>match us,hl with | [_,_,_],_=>rfl
 have m21:=W.mg_of X T.g a21
 obtain⟨a22,⟨_,F22⟩,k22⟩:=h22;have b22:=F22.binds (ps:=["sheet","name"]) fun _ _ _ _ _ _ us hl=>match us,hl with | [_,_],_=>rfl
 have m22:=W.mg_of X T.g a22
 obtain⟨a23,⟨_,F23⟩,k23⟩:=h23;have b23:=F23.binds (ps:=["sheet","name"]) fun _ _ _ _ _ _ us hl=>match us,hl with | [_,_],_=>rfl
 have m23:=W.mg_of X T.g a23
 obtain⟨a24,⟨_,F24⟩,k24⟩:=h24;have b24:=F24.binds (ps:=["key"]) fun _ _ _ _ _ _ us hl=>match us,hl with | [_],_=>rfl
 have m24:=W.mg_of X T.g a24
 obtain⟨a25,⟨_,F25⟩,k25⟩:=h25;have b25:=F25.binds (ps:=["sheet","name","key"]) fun _ _ _ _ _ _ us hl=>match us,hl with | [_,_,_],_=>rfl
 have m25:=W.mg_of X T.g a25
 obtain⟨a26,⟨_,F26⟩,k26⟩:=h26;have b26:=F26.binds (ps:=["sheet","other","name"]) fun _ _ _ _ _ _ us hl=>match us,hl with | [_,_,_],_=>rfl
 have m26:=W.mg_of X T.g a26
 obtain⟨a27,⟨_,F27⟩,k27⟩:=h27;have b27:=F27.binds (ps:=["sheet","other"]) fun _ _ _ _ _ _ us hl=>match us,hl with | [_,_],_=>rfl
 have m27:=W.mg_of X T.g a27
 obtain⟨a28,⟨_,F28⟩,k28⟩:=h28;have b28:=F28.binds (ps:=["_law_script","_law_k"]) fun _ _ _ _ _ _ us hl=>match us,hl with | [_,_],_=>rfl
 have m28:=W.mg_of X T.g a28
 obtain⟨a29,⟨_,F29⟩,k29⟩:=h29;have b29:=F29.binds (ps:=["_law_feed_here","_law_many"]) fun _ _ _ _ _ _ us hl=>match us,hl with | [_,_],_=>rfl
 have m29:=W.mg_of X T.g a29
 obtain⟨a30,⟨_,F30⟩,k30⟩:=h30;have b30:=F30.binds (ps:=["_law_script","_law_start"]) fun _ _ _ _ _ _ us hl=>match us,hl with | [_,_],_=>rfl
 have m30:=W.mg_of X T.g a30
 obtain⟨a31,⟨_,F31⟩,k31⟩:=h31;have b31:=F31.binds (ps:=["_law_rows_here"]) fun _ _ _ _ _ _ us hl=>match us,hl with | [_],_=>rfl
 have m31:=W.mg_of X T.g a31
 obtain⟨a32,⟨_,F32⟩,k32⟩:=h32;have b32:=F32.binds (ps:=["_law_rows_here"]) fun _ _ _ _ _ _ us hl=>match us,hl with | [_],_=>rfl
 have m32:=W.mg_of X T.g a32
 obtain⟨a33,⟨_,F33⟩,k33⟩:=h33;have b33:=F33.binds (ps:=["_law_one","_law_other","_law_sheets"]) fun _ _ _ _ _ _ us hl=>match us,hl with | [_,_,_],_=>rfl
 have m33:=W.mg_of X T.g a33
 obtain⟨a34,⟨_,F34⟩,k34⟩:=h34;have b34:=F34.binds (ps:=["_law_found","_law_due_here"]) fun _ _ _ _ _ _ us hl=>match us,hl with | [_,_],_=>rfl
 have m34:=W.mg_of X T.g a34
 have F35:=zix (st:=zfA) l35 c35 k35
 have b35:=F35.binds (ps:=["_law_script"]) fun _ _ _ _ _ _ us hl=>match us,hl with | [_],_=>rfl
 have m35:=W.mg_of X T.g a35
 have B:Blt mg:=zaD (W.mg_none_of X T.g z0) (zaD (W.mg_none_of X T.g z1) (zaD (W.mg_none_of X T.g z2) (zaD (W.mg_none_of X T.g z3) (zaD (W.mg_none_of X T.g z4) (zaD (W.mg_none_of X T.g z5) (zaD (W.mg_none_of X T.g z6) (zaD (W.mg_none_of X T.g z7) (zaD (W.mg_none_of X T.g z8) (zaD (W.mg_none_of X T.g z9) (zaD (W.mg_none_of X T.g z10) (zaD (W.mg_none_of X T.g z11) (zaD (W.mg_none_of X T.g z12) (zaD (W.mg_none_of X T.g z13) (zaD (W.mg_none_of X T.g z14) (zaD (W.mg_none_of X T.g z15) (zaD (W.mg_none_of X T.g z16) (zaD (W.mg_none_of X T.g z17) (zaD (W.mg_none_of X T.g z18) (fun _ hy=>by cases hy)))))))))))))))))))
 obtain⟨ct,Pt,hcd,hB⟩:=PySem.W.based_of_top T hf m13 (X _ _ l13) rfl;have hcd':cd13=.ref ct:=hcd
 have hC:CodeK K ct Pt:=CodeK.of X (hcd'▸c13) hB
 refine⟨W.fnOf "law" "law" (zcp zfA) (zbc zfA) (zad zfA) .none kV35 dc35 pm35 an35 cd35 ct35,[Pt],fun _=>#[.str "walk.<locals>.<lambda>" 0],⟨fun P hP=>⟨ct,by rw[List.mem_singleton.mp hP];exact hB.tab⟩,fun P hP=>by rw[List.mem_singleton.mp hP];exact zlT X T.g hB hK⟩,fun s v=>.of_eq rfl,fun base bm ob hk hn hM=>lawB (m:=zoJ) rfl (fun S=>?_) fun S=>zo6 S⟩;have TT:TabF K mg base _ Pt:=⟨ct,bm,ob,hcd,hC,hM⟩
 have g_placed_within:=zi0 (P:=l.prog) (w:=w) (K:=K) (mg:=mg) (base:=base) (x:="placed_within") (ps:=["parts","outer_place"]) (b:=zbL) (m:=zaF) (k:=0) (fun _=>rfl) (fun _=>rfl) b1 k1 m1 (zdv) (fun {n} {self} C=>by rw[Nat.zero_add] at *;exact zdZ F1 B C G_PARTS) 8
 have C_placed_within:=zaz (x:="placed_within") g_placed_within b1 k1 m1
 have g_placed_parts:=zeE (P:=l.prog) (w:=w) (mg:=mg) (base:=base) F2 B C_placed_within
 have C_placed_parts:=zaz (x:="placed_parts") g_placed_parts b2 k2 m2
 have g_parts_of:=zgO (P:=l.prog) (w:=w) (mg:=mg) (base:=base) F3 B C_placed_parts
 have C_parts_of:=zaz (x:="parts_of") g_parts_of b3 k3 m3
 have g_part_of:=zh2 (P:=l.prog) (w:=w) (mg:=mg) (base:=base) F4 B C_parts_of G_NAME
 have C_part_of:=zaz (x:="part_of") g_part_of b4 k4 m4
 have g_place_of:=zgP (P:=l.prog) (w:=w) (mg:=mg) (base:=base) F5 B C_placed_parts G_NAME
 have C_place_of:=zaz (x:="place_of") g_place_of b5 k5 m5
 have g_chain_of:=zgQ (P:=l.prog) (w:=w) (mg:=mg) (base:=base) F6 B C_place_of G_PARTS
 have C_chain_of:=zaz (x:="chain_of") g_chain_of b6 k6 m6
 have g_around:=zjA (P:=l.prog) (w:=w) (mg:=mg) (base:=base) F7 B C_chain_of G_NAME
 have C_around:=zaz (x:="around") g_around b7 k7 m7
 have g_level_parts:=zeQ (P:=l.prog) (w:=w) (mg:=mg) (base:=base) F8 B C_chain_of G_PARTS
 have C_level_parts:=zaz (x:="level_parts") g_level_parts b8 k8 m8
 have g_why_not:=zh3 (P:=l.prog) (w:=w) (mg:=mg) (base:=base) F9 B C_chain_of G_WORD G_NAME
 have C_why_not:=zaz (x:="why_not") g_why_not b9 k9 m9
 have g_refuse_not_open:=zdm (P:=l.prog) (w:=w) (mg:=mg) (base:=base) F10 B C_why_not
 have C_refuse_not_open:=zaz (x:="refuse_not_open") g_refuse_not_open b10 k10 m10
 have g_open_tuples:=zi0 (P:=l.prog) (w:=w) (K:=K) (mg:=mg) (base:=base) (x:="open_tuples") (ps:=["parts"]) (b:=zcf) (m:=zan) (k:=0) (fun _=>rfl) (fun _=>rfl) b11 k11 m11 (zd1) (fun {n} {self} C=>by rw[Nat.zero_add] at *;exact zeR F11 B C G_WORD G_PARTS) 8
 have C_open_tuples:=zaz (x:="open_tuples") g_open_tuples b11 k11 m11
 have g_open_parts:=zfB (P:=l.prog) (w:=w) (mg:=mg) (base:=base) F12 B C_open_tuples G_NAME
 have C_open_parts:=zaz (x:="open_parts") g_open_parts b12 k12 m12
 have g_walk:=zmX (P:=l.prog) (w:=w) (mg:=mg) (base:=base) F13 B (Pc:=PcL K S Pt "walk.<locals>.<lambda>") zcy TT (fun H h=>h.2) C_open_tuples G_RANK G_NAME
 have C_walk:=zaz (x:="walk") g_walk b13 k13 m13
 have g_stepped:=zh4 (P:=l.prog) (w:=w) (mg:=mg) (base:=base) F14 B (Pc:=PcL K S Pt "walk.<locals>.<lambda>") zcy C_refuse_not_open C_walk
 have C_stepped:=zaz (x:="stepped") g_stepped b14 k14 m14
 have g_on_from:=zh5 (P:=l.prog) (w:=w) (mg:=mg) (base:=base) F15 B (Pc:=PcL K S Pt "walk.<locals>.<lambda>") zcy C_stepped
 have C_on_from:=zaz (x:="on_from") g_on_from b15 k15 m15
 have g_back_from:=zga (P:=l.prog) (w:=w) (mg:=mg) (base:=base) F16 B (Pc:=PcL K S Pt "walk.<locals>.<lambda>") zcy C_stepped
 have C_back_from:=zaz (x:="back_from") g_back_from b16 k16 m16
 have g_refuse_no_side:=zdN (P:=l.prog) (w:=w) (mg:=mg) (base:=base) F17 B G_SIDES
 have C_refuse_no_side:=zaz (x:="refuse_no_side") g_refuse_no_side b17 k17 m17
 have g_stretch:=zh6 (P:=l.prog) (w:=w) (mg:=mg) (base:=base) F18 B
 have C_stretch:=zaz (x:="stretch") g_stretch b18 k18 m18
 have g_apart_by:=zgR (P:=l.prog) (w:=w) (mg:=mg) (base:=base) F19 B
 have C_apart_by:=zaz (x:="apart_by") g_apart_by b19 k19 m19
 have g_lies:=zmY (P:=l.prog) (w:=w) (mg:=mg) (base:=base) F20 B C_refuse_no_side C_stretch C_apart_by
 have C_lies:=zaz (x:="lies") g_lies b20 k20 m20
 have g_nearest:=zh7 (P:=l.prog) (w:=w) (mg:=mg) (base:=base) F21 B C_refuse_no_side C_refuse_not_open C_part_of C_level_parts C_lies G_BOX G_WORD G_NAME
 have C_nearest:=zaz (x:="nearest") g_nearest b21 k21 m21
 have g_into:=zmZ (P:=l.prog) (w:=w) (mg:=mg) (base:=base) F22 B C_refuse_not_open C_part_of G_PARTS G_WORD G_NAME
 have C_into:=zaz (x:="into") g_into b22 k22 m22
 have g_out_of:=zjB (P:=l.prog) (w:=w) (mg:=mg) (base:=base) F23 B C_refuse_not_open C_around
 have C_out_of:=zaz (x:="out_of") g_out_of b23 k23 m23
 have g_refuse_no_key:=zd0 (P:=l.prog) (w:=w) (mg:=mg) (base:=base) F24 B G_KEYS
 have C_refuse_no_key:=zaz (x:="refuse_no_key") g_refuse_no_key b24 k24 m24
 have g_goes:=zm0 (P:=l.prog) (w:=w) (mg:=mg) (base:=base) F25 B (Pc:=PcL K S Pt "walk.<locals>.<lambda>") zcy C_refuse_no_key C_on_from C_back_from C_into C_out_of C_nearest
 have C_goes:=zaz (x:="goes") g_goes b25 k25 m25
 have g_differences_from:=zc2 (P:=l.prog) (w:=w) (mg:=mg) (base:=base) F26 B (Pc:=PcL K S Pt "walk.<locals>.<lambda>") zcy C_goes G_KEYS
 have C_differences_from:=zaz (x:="differences_from") g_differences_from b26 k26 m26
 have g_differences:=zeS (P:=l.prog) (w:=w) (mg:=mg) (base:=base) F27 B (Pc:=PcL K S Pt "walk.<locals>.<lambda>") zcy C_open_parts C_differences_from
 have C_differences:=zaz (x:="differences") g_differences b27 k27 m27
 have gLfeed:=zgc (P:=l.prog) (w:=w) (mg:=mg) (base:=base) F28 B (Pc:=PcL K S Pt "walk.<locals>.<lambda>") zcy (S:=S) (fun H h=>h.1)
 have CLfeed:=zaz (x:="_law_feed") gLfeed b28 k28 m28
 have gLnext:=zgd (P:=l.prog) (w:=w) (mg:=mg) (base:=base) F29 B
 have CLnext:=zaz (x:="_law_next") gLnext b29 k29 m29
 have gLrows:=zge (P:=l.prog) (w:=w) (mg:=mg) (base:=base) F30 B (Pc:=PcL K S Pt "walk.<locals>.<lambda>") zcy (S:=S) CLfeed CLnext
 have CLrows:=zaz (x:="_law_rows") gLrows b30 k30 m30
 have gLhung:=zgf (P:=l.prog) (w:=w) (mg:=mg) (base:=base) F31 B
 have CLhung:=zaz (x:="_law_hung") gLhung b31 k31 m31
 have gLopened:=zeT (P:=l.prog) (w:=w) (mg:=mg) (base:=base) F32 B
 have CLopened:=zaz (x:="_law_opened") gLopened b32 k32 m32
 have gLdue:=zgS (P:=l.prog) (w:=w) (mg:=mg) (base:=base) F33 B (Pc:=PcL K S Pt "walk.<locals>.<lambda>") zcy CLopened C_goes
 have CLdue:=zaz (x:="_law_due") gLdue b33 k33 m33
 have gLright:=zfC (P:=l.prog) (w:=w) (mg:=mg) (base:=base) F34 B K_tuple K_list
 have CLright:=zaz (x:="_law_right") gLright b34 k34 m34
 exact zoK (P:=l.prog) (w:=w) (mg:=mg) (base:=base) F35 B (Pc:=PcL K S Pt "walk.<locals>.<lambda>") zcy (S:=S) CLrows CLhung CLdue CLright C_differences
end Pg
open PySem PySem.W PyProof.Rows
set_option maxRecDepth 100000 in
set_option maxHeartbeats 0 in
theorem PySem.Challenge.cw_focuswalk_k76_differences_holds : PySem.Challenge.rw_focuswalk_k76_differences.Holds := by
 w_on;o_law;k_head;(case hw=>w_witness2)
 k_fill
 refine VD.walkB (l:=PySem.Challenge.rw_focuswalk_k76_differences) (k:=20) (x:="_law_script") (nq:="walk.<locals>.<lambda>") rfl rfl ⟨rfl,by decide,by decide⟩ (fun w h Y=>PySem.W.km_in_of Y) ?F;case F=>
  intro w mg mb mean fa h KX T hmg;refine' Pg.all_mk KX T hmg (Pg.fh_mk ?a1 ?l1 ?c1 ?k1) (Pg.fh_mk ?a2 ?l2 ?c2 ?k2) (Pg.fh_mk ?a3 ?l3 ?c3 ?k3) (Pg.fh_mk ?a4 ?l4 ?c4 ?k4) (Pg.fh_mk ?a5 ?l5 ?c5 ?k5) (Pg.fh_mk ?a6 ?l6 ?c6 ?k6) (Pg.fh_mk ?a7 ?l7 ?c7 ?k7) (Pg.fh_mk ?a8 ?l8 ?c8 ?k8) (Pg.fh_mk ?a9 ?l9 ?c9 ?k9) (Pg.fh_mk ?a10 ?l10 ?c10 ?k10) (Pg.fh_mk ?a11 ?l11 ?c11 ?k11) (Pg.fh_mk ?a12 ?l12 ?c12 ?k12) ?a13 ?l13 ?c13 ?k13 (Pg.fh_mk ?a14 ?l14 ?c14 ?k14) (Pg.fh_mk ?a15 ?l15 ?c15 ?k15) (Pg.fh_mk ?a16 ?l16 ?c16 ?k16) (Pg.fh_mk ?a17 ?l17 ?c17 ?k17) (Pg.fh_mk ?a18 ?l18 ?c18 ?k18) (Pg.fh_mk ?a19 ?l19 ?c19 ?k19) (Pg.fh_mk ?a20 ?l20 ?c20 ?k20) (Pg.fh_mk ?a21 ?l21 ?c21 ?k21) (Pg.fh_mk ?a22 ?l22 ?c22 ?k22) (Pg.fh_mk ?a23 ?l23 ?c23 ?k23) (Pg.fh_mk ?a24 ?l24 ?c24 ?k24) (Pg.fh_mk ?a25 ?l25 ?c25 ?k25) (Pg.fh_mk ?a26 ?l26 ?c26 ?k26) (Pg.fh_mk ?a27 ?l27 ?c27 ?k27) (Pg.fh_mk ?a28 ?l28 ?c28 ?k28) (Pg.fh_mk ?a29 ?l29 ?c29 ?k29) (Pg.fh_mk ?a30 ?l30 ?c30 ?k30) (Pg.fh_mk ?a31 ?l31 ?c31 ?k31) (Pg.fh_mk ?a32 ?l32 ?c32 ?k32) (Pg.fh_mk ?a33 ?l33 ?c33 ?k33) (Pg.fh_mk ?a34 ?l34 ?c34 ?k34) ?a35 ?l35 ?c35 ?k35 ?z0 ?z1 ?z2 ?z3 ?z4 ?z5 ?z6 ?z7 ?z8 ?z9 ?z10 ?z11 ?z12 ?z13 ?z14 ?z15 ?z16 ?z17 ?z18 ?t_tuple_NoneType ?t_tuple_bool ?t_tuple_int ?t_tuple_str ?t_tuple_tuple ?t_tuple_list ?t_tuple_dict ?t_list_NoneType ?t_list_bool ?t_list_int ?t_list_str ?t_list_tuple ?t_list_list ?t_list_dict ?g_PARTS ?g_NAME ?g_WORD ?g_RANK ?g_SIDES ?l_SIDES ?g_BOX ?g_KEYS ?l_KEYS ?hK ?hf
  (case hK=>first | (with_unfolding_all rfl) | rfl)
  (case hf=>rfl)
  all_goals try first | k_is | kit_is

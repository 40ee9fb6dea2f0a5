import PyProof.Rows.All
import Wide.All
import OpenK.AllK
import Wide.FinOn
import Lean
import PyProof.EqAt
import PyProof.EqKinds
import PyProof.TupleCall
import KE.KSortTup
import KE.KLam
import PyProof.NeKinds
import PyProof.StrCalls2
import PyProof.StrLawsJoin
import PyProof.MinMaxWalk
import PyProof.Rows.CallKwBuiltin
import KE.KRevIter
import PyProof.FactsAll.list_3
import PyProof.ExcInit
import PyProof.ExcClass3
import PyProof.StationsW
import KE.KSuper
import PyProof.ExcBaseAll.ValueError
import PyProof.RulesAs
import PyProof.NsDelKeeps
import PyProof.ExcArgs
import KE.KIsAll
import PyProof.FString4
import PyProof.GenQ
import PyProof.ConsumeS
import PyProof.CodeObjX
import PySem.Challenge.RW_focuswalk_k11_seen_and_open
set_option Elab.async false
set_option linter.all false
set_option maxRecDepth 100000
set_option maxHeartbeats 4000000
def waa:=@PySem.wpAny_bind
def wab:=@PySem.Heap.get?_push_of_some
def wac:=@List.size_toArray
def wad:=@List.getElem?_set_ne
def wae:=@PySem.Heap.lt_size
def waf:=@List.mem_cons_of_mem
def wag:=@PySem.wpAny_pure
def wah:=@Nat.lt_of_lt_of_le
def wai:=@List.mem_cons
def waj:=@List.mem_cons_self
def wak:=@List.mem_singleton
def wal:=@List.getElem?_eq_some_iff
def wam:=@Nat.le_refl
def wan:=@Nat.le_trans
def wao:=@List.length_map
def wap:=@List.getElem?_eq_getElem
def waq:=@List.getElem?_set_self
def war:=@PySem.Heap.get?_push_size
def was:=@List.mem_append_right
def wat:=@List.length_append
def wau:=@decide_eq_false
def wav:=@Option.some.inj
def waw:=@List.getElem?_map
def wax:=@Nat.ne_of_lt
def way:=@List.mem_append
def waz:=@PySem.wpAny_mono
def waA:=@Bool.and_eq_true
def waB:=@decide_eq_true
def waC:=@List.all_eq_true
def waD:=@PySem.W.mg_none_of
def waE:=@PySem.Heap.get?_update_other
def waF:=@List.append_nil
def waG:=@PySem.wpAny_Call_Name_kw
def waH:=@PySem.W.kia_one
def waI:=@List.nodup_cons
def waJ:=@List.mem_of_getElem?
def waK:=@PyProof.Rows.callWith_type1
def waL:=@List.getElem?_eq_none
def waM:=@Nat.lt_of_le_of_lt
def waN:=@Nat.lt_irrefl
def waO:=@List.lookup_cons
def waP:=@PySem.wpAny_field
def waQ:=@List.replicate_succ
def waR:=@PySem.Heap.get?_update_self
def waS:=@Nat.le_of_eq
def waT:=@List.mem_map
def waU:=@List.map_append
def waV:=@List.length_cons
def waW:=@Array.getElem?_eq_some_iff
def waX:=@Nat.le_of_succ_le_succ
def waY:=@PySem.wpAny_newObj_type
def waZ:=@congrArg
def wba:=@List.nodup_nil
def wbb:=@Bool.eq_iff_iff
def wbc:=@PySem.wpAny_loadPart'
def wbd:=@List.map_map
def wbe:=@PySem.Obj.data_mapFields
def wbf:=@List.map_cons
def wbg:=@Nat.le_of_lt
def wbh:=@List.length_reverse
def wbi:=@PySem.Heap.size_after_update
def wbj:=@PySem.W.mg_of
def wbk:=@List.not_mem_nil
def wbl:=@PySem.wpAny_holding
def wbm:=@List.mem_range
def wbn:=@List.getElem?_append_left
def wbo:=@Nat.zero_le
def wbp:=@PySem.wpAny_loadName_local
def wbq:=@List.flatten_cons
def wbr:=@List.append_assoc
def wbs:=@PySem.wpAny_loadPart_at
def wbt:=@PyProof.Rows.callWith_builtin1
def wbu:=@PySem.wpAny_standAt
def wbv:=@PySem.mem_of_lookup
def wbw:=@PySem.wpAny_getItem_str_slice
def wbx:=@List.length_take
def wby:=@List.getElem_cons_drop
def wbz:=@Bool.false_ne_true
def wbA:=@PySem.Calls.spliced_cons
def wbB:=@List.mem_replicate
def wbC:=@Bool.false_eq_true
def wbD:=@Int.emod_lt_of_pos
def wbE:=@List.length_replicate
def wbF:=@PySem.Obj.isFreed_of_fields
def wbG:=@List.find?_cons
def wbH:=@List.reverse_cons
def wbI:=@List.nodup_append
def wbJ:=@List.flatMap_cons
def wbK:=@PySem.Heap.get?_none_of_le
def wbL:=@List.mem_append_left
def wbM:=@PySem.codeAny_call_builtin
def wbN:=@PySem.Heap.size_push
def wbO:=@PySem.wpAny_setField
def wbP:=@List.getElem?_zip_eq_some
def wbQ:=@PySem.wpAny_call_entry
def wbR:=@PySem.F.args_tuple_add_2
def wbS:=@PySem.wpAny_pyIter_tuple
def wbT:=@PySem.wpAny_passesOwn
def wbU:=@PySem.W.callWith_K
def wbV:=@PySem.F.entry_tuple_add
def wbW:=@PySem.wpAny_callSpecial?_slot
def wbX:=@PySem.Code.quiet_builtin
def wbY:=@Int.emod_nonneg
def wbZ:=@PySem.wpAny_pyIter_rangeiter
def wca:=@PySem.F.slot_tuple_add
def wcb:=@Option.map_eq_some_iff
def wcc:=@PySem.wpAny_truthy_bool
def wcd:=@PySem.wpAny_of_eq
def wce:=@PySem.Heap.get?_push_at
def wcf:=@PySem.codeAny_mono
def wcg:=@List.singleton_append
def wch:=@Bool.beq_eq_decide_eq
def wci:=@Nat.zero_add
def wcj:=@List.length_filter_le
def wck:=@List.drop_length
def wcl:=@PySem.F.plain_all_loop
def wcm:=@PySem.Around.under_plainId
def wcn:=@PySem.wpAny_call
def wco:=@List.filterMap_cons
def wcp:=@Array.length_toList
def wcq:=@PySem.wpAny_execs_nil
def wcr:=@List.nil_append
def wcs:=@Nat.le_succ
def wct:=@PySem.codeAny_builtin
def wcu:=@List.getElem?_range
def wcv:=@Nat.min_eq_left
def wcw:=@PySem.wpAny_isSubtype_exc
def wcx:=@PySem.Sem.onRaise_eq_wrap
def wcy:=@PySem.wpAny_Name
theorem zOB {α β:Type _} (a:α) (f:α->Option β):Option.bind (some a) f=f a:=rfl
namespace L2
open PySem PySem.Spec PyProof.Rows
abbrev Key:=Sum Int Str
def zgm:Key->Value->Bool
 | .inl k,v=>Value.isInt k v
 | .inr x,v=>Value.isStrOf x v
def keyH (w:World):Key->Int
 | .inl k=>hashInt k
 | .inr x=>hashStr w x
theorem zas:∀{k:Key}{v:Value},zgm k v=true->(∃i t,k=Sum.inl i/\v=Value.int i t)\/(∃x t,k=Sum.inr x/\v=Value.str x t)
 | .inl i,v,h=>by
   obtain⟨t,e⟩:=Value.isInt_shape (k:=i) (v:=v) h;exact .inl ⟨i,t,rfl,e⟩
 | .inr x,v,h=>by
   obtain⟨t,e⟩:=Value.isStrOf_shape (x:=x) (v:=v) h;exact .inr ⟨x,t,rfl,e⟩
theorem zgL (i:Int)(t:Tok):zgm (.inl i) (.int i t)=true:=by simp[zgm,Value.isInt]
theorem zgM (x:Str)(t:Tok):zgm (.inr x) (.str x t)=true:=by simp[zgm,Value.isStrOf]
theorem zlR (a b:Int):decide ((Sum.inl a:Key)=Sum.inl b)=(a == b):=by
 by_cases e:a=b
 ·subst e;simp
 ·have h:¬(Sum.inl a:Key)=Sum.inl b:=fun q=>e (Sum.inl.inj q)
  rw[wau h];exact(beq_eq_false_iff_ne.mpr e).symm
theorem zlS (a b:Str):decide ((Sum.inr a:Key)=Sum.inr b)=decide (a=b):=by
 by_cases e:a=b
 ·subst e;simp
 ·have h:¬(Sum.inr a:Key)=Sum.inr b:=fun q=>e (Sum.inr.inj q)
  rw[wau h,wau e]
theorem zlT (a:Int)(b:Str):decide ((Sum.inl a:Key)=Sum.inr b)=false:=wau (fun q=>nomatch q)
theorem zlU (a:Str)(b:Int):decide ((Sum.inr a:Key)=Sum.inl b)=false:=wau (fun q=>nomatch q)
def za2 (prog:Program)(w:World):PySem.KeyKind prog w Key where
 is:=zgm
 hash:=keyH w
 inj:=fun v a b ha hb=>by
  rcases zas ha with⟨i,t,rfl,rfl⟩ | ⟨x,t,rfl,rfl⟩
  ·rcases zas hb with⟨j,u,rfl,e⟩ | ⟨y,u,rfl,e⟩
   ·injection e with e1 _;rw[e1]
   ·exact nomatch e
  ·rcases zas hb with⟨j,u,rfl,e⟩ | ⟨y,u,rfl,e⟩
   ·exact nomatch e
   ·injection e with e1 _;rw[e1]
 byValue:=fun k v h=>by
  rcases zas h with⟨i,t,rfl,rfl⟩ | ⟨x,t,rfl,rfl⟩ <;> rfl
 pyHash:=fun hv h=>by
  rcases zas hv with⟨i,t,rfl,rfl⟩ | ⟨x,t,rfl,rfl⟩
  ·exact wpAny_pyHash_int h
  ·exact wpAny_pyHash_str h
 eqBool:=fun hu hv h=>by
  rcases zas hu with⟨i,t,rfl,rfl⟩ | ⟨x,t,rfl,rfl⟩
  ·rcases zas hv with⟨j,u,rfl,rfl⟩ | ⟨y,u,rfl,rfl⟩
   ·rw[zlR] at h;exact wpAny_eqBool_int h
   ·rw[zlT] at h;exact SeqAt.EqAt.int_str i t y u _ _ _ _ h
  ·rcases zas hv with⟨j,u,rfl,rfl⟩ | ⟨y,u,rfl,rfl⟩
   ·rw[zlU] at h;exact SeqAt.EqAt.str_int x t j u _ _ _ _ h
   ·rw[zlS] at h;exact wpAny_eqBool_str h
 «strs»:=fun k x t v h=>by
  rcases zas h with⟨i,u,rfl,e⟩ | ⟨y,u,rfl,e⟩
  ·exact nomatch e
  ·injection e with e1 _
   subst e1;cases v <;> rfl
theorem zff (prog:Program)(w:World)(i:Int)(t:Tok):(za2 prog w).is (.inl i) (.int i t)=true:=zgL i t
theorem zfg (prog:Program)(w:World)(x:Str)(t:Tok):(za2 prog w).is (.inr x) (.str x t)=true:=zgM x t
inductive V where
 | non | bl (b:Bool) | int (i:Int) | str (x:Str) | byt (b:Array UInt8) | flt (b:UInt64) | ref (a:Addr) | ty (n:String)
 deriving DecidableEq
def RelV:V->Value->Prop
 | .non,u=>u=Value.none
 | .bl b,u=>u=Value.bool b
 | .int i,u=>∃t,u=Value.int i t
 | .str x,u=>∃t,u=Value.str x t
 | .byt b,u=>∃t,u=Value.bytes b t
 | .flt b,u=>∃t,u=Value.float b t
 | .ref a,u=>u=Value.ref a
 | .ty n,u=>u=Value.type n
abbrev Vals:List V->List Value->Prop:=Paired RelV
theorem Vals.length {xs:List V}{us:List Value}(r:Vals xs us):xs.length=us.length:=Paired.length r
theorem Vals.get:∀{xs:List V}{us:List Value}{i:Nat}{x:V},Vals xs us->xs[i]?=some x->∃u,us[i]?=some u/\RelV x u
 | _,_,_,_,.nil,e=>by simp at e
 | _,_,0,_,.cons r _,e=>by simp at e;subst e;exact⟨_,rfl,r⟩
 | _,_,i+1,x,.cons _ t,e=>by
   obtain⟨u,h1,h2⟩:=Vals.get (i:=i) (x:=x) t (by simpa using e);exact⟨u,by simpa using h1,h2⟩
theorem Vals.set {x:V}{u:Value}(r:RelV x u):∀{xs:List V}{us:List Value}(i:Nat),Vals xs us->Vals (xs.set i x) (us.set i u)
 | _,_,_,.nil=>.nil
 | _,_,0,.cons _ t=>.cons r t
 | _,_,i+1,.cons q t=>.cons q (Vals.set r i t)
theorem Vals.append:∀{xs ys:List V}{us ws:List Value},Vals xs us->Vals ys ws->Vals (xs++ys) (us++ws)
 | _,_,_,_,.nil,s=>s
 | _,_,_,_,.cons r t,s=>.cons r (Vals.append t s)
theorem Vals.take:∀{xs:List V}{us:List Value}(n:Nat),Vals xs us->Vals (xs.take n) (us.take n)
 | _,_,0,_=>.nil
 | _,_,_+1,.nil=>.nil
 | _,_,n+1,.cons r t=>.cons r (Vals.take n t)
theorem Vals.drop:∀{xs:List V}{us:List Value}(n:Nat),Vals xs us->Vals (xs.drop n) (us.drop n)
 | _,_,0,r=>r
 | _,_,_+1,.nil=>.nil
 | _,_,n+1,.cons _ t=>Vals.drop n t
def RelO:Option V->Option Value->Prop
 | some v,some u=>RelV v u
 | none,none=>True
 | _,_=>False
def KV {κ:Type}:List (κ×V)->List (κ×Value)->Prop:=Paired fun(p:κ×V) (q:κ×Value)=>p.1=q.1/\RelV p.2 q.2
def kV:Key->V
 | .inl i=>.int i
 | .inr x=>.str x
inductive HO where
 | lst (xs:List V)
 | tup (xs:List V)
 | dK (kvs:List (Key×V)) | dT (kvs:List (List Key×V))
 | set (S:Int->Bool) (n:Nat)
 | ins (C dx:Addr) (fs:List (Str×V))
 | own (x:Addr)
 | xd (fs:List (Str×V))
 | met (f x:Addr)
 | rng (lo hi:Int)
 | frz (o:Obj) (u:HO)
 | tbl (ps:Array Value)
 | ext (φ:Heap->Prop)
abbrev Hp:=Addr->Option HO
def upd (H:Hp)(a:Addr)(o:HO):Hp:=fun b=>if b=a then some o else H b
theorem zaf {H:Hp}{a:Addr}{o:HO}:upd H a o a=some o:=by unfold upd;rw[if_pos rfl]
theorem zae {H:Hp}{a b:Addr}{o:HO}(h:b≠a):upd H a o b=H b:=by unfold upd;rw[if_neg h]
theorem zax {H:Hp}{a b:Addr}{o:HO}(h:H a=some o)(h':H b=none):a≠b:=by
 intro e;subst e;rw[h] at h';cases h'
section
variable (P:Program)(w:World)
def ObjOk (H:Hp)(h:Heap)(a:Addr):HO->Prop
 | .lst xs=>xs.length<=sizeLine/\∃(its:List Value) (n:Nat),Vals xs its/\h.get? a=some {cls:=.type "list",data:=.seq its.toArray n}
 | .tup xs=>xs.length<=sizeLine/\∃its:List Value,Vals xs its/\IsTup h a its.toArray
 | .dK kvs=>kvs.length<=sizeLine/\(a == sysModules)=false/\∃vs,KV kvs vs/\h.DictOf (za2 P w) a vs
 | .dT kvs=>kvs.length<=sizeLine/\(a == sysModules)=false/\∃xs:List (List Key×Addr×Value),
  Paired (fun(p:List Key×V) (q:List Key×Addr×Value)=>p.1=q.1/\H q.2.1=some (.tup (p.1.map kV))/\RelV p.2 q.2.2) kvs xs/\
  ∃o es ep,h.get? a=some o/\o.ExactDict/\o.data=.dict es ep/\es.toList=xs.map (entryOfKey (tupleKind (za2 P w)))/\(xs.map (·.1)).Nodup
 | .set S n=>h.SetOf (intKind P w) a S n
 | .ins C dx fs=>H dx=some (.own a)/\fs.length<=1000/\dx≠a/\h.get? a=some (PySem.W.instObj C dx)/\
  ∃mA,h.Ns1 dx mA/\(∀f,RelO (fs.lookup f) (mA f))/\PySem.Within mA (fs.map (·.1))
 | .own _=>∃o,h.get? a=some o
 | .xd fs=>∃mA,h.Ns1 a mA/\∀f,RelO (fs.lookup f) (mA f)
 | .rng lo hi=>∃t u v,h.get? a=some {cls:=.type "range",data:=.fields #[.int lo t,.int hi u,.int 1 v]}
 | .frz o u=>h.get? a=some o/\ObjOk H h a u
 | .tbl ps=>∃qs:Array Value,h.get? a=some {cls:=.none,data:=.fields qs}/\TriplesOk qs.toList/\∀pos cv,codeAmong pos qs.toList=some cv->∃c' o u vs t q,cv=Value.ref c'/\H c'=some (.frz o u)/\o.data=.fields vs/\vs[1]?=some (Value.str q t)/\ps[0]?=some (Value.str q 0)
 | .met f x=>h.get? a=some (PySem.W.methodObj (.ref f) (.ref x))
 | .ext φ=>φ h/\(∃o,h.get? a=some o)/\∀h1 h2:Heap,φ h1->(∀o,h1.get? a=some o->h2.get? a=some o)->φ h2
def HOk (H:Hp)(h:Heap):Prop:=∀a o,H a=some o->ObjOk P w H h a o
end
section
variable {P:Program}{w:World}{H H':Hp}{h h':Heap}{a:Addr}{o:HO}
theorem ObjOk.lt (x:ObjOk P w H h a o):a<h.objs.size:=by
 cases o with
 | lst xs=>obtain⟨_,_,_,_,e⟩:=x;exact wae e
 | tup xs=>obtain⟨_,_,_,p⟩:=x;exact p.lt
 | dK kvs=>obtain⟨_,_,_,_,o,_,_,e,_⟩:=x;exact wae e
 | dT kvs=>obtain⟨_,_,_,_,o,_,_,e,_⟩:=x;exact wae e
 | set S n=>obtain⟨o,_,_,_,e,_⟩:=x;exact wae e
 | ins C dx fs=>obtain⟨_,_,_,e,_⟩:=x;exact wae e
 | own y=>obtain⟨_,e⟩:=x;exact wae e
 | xd fs=>obtain⟨_,⟨_,_,_,e,_⟩,_⟩:=x;exact wae e
 | rng lo hi=>obtain⟨_,_,_,e⟩:=x;exact wae e
 | frz ob u=>obtain⟨e,_⟩:=x;exact wae e
 | tbl ps=>obtain⟨_,e,_⟩:=x;exact wae e
 | met f y=>exact wae (show h.get? a=some _ from x)
 | ext φ=>obtain⟨_,⟨_,e⟩,_⟩:=x;exact wae e
theorem Paired.mapP {α β:Type}{F G:α->β->Prop}:∀{l₁:List α}{l₂:List β},Paired F l₁ l₂->(∀a b,F a b->G a b)->Paired G l₁ l₂
 | _,_,.nil,_=>.nil
 | _,_,.cons r t,f=>.cons (f _ _ r) (Paired.mapP t f)
def Cst:HO->Prop
 | .tup _=>True
 | .frz _ _=>True
 | _=>False
theorem ObjOk.stay (x:ObjOk P w H h a o)(k:∀b u,(b=a\/H b=some (.own a))->h.get? b=some u->h'.get? b=some u)
 (ho:∀b,H b=some (.own a)->H' b=some (.own a)) (ht:∀b z,Cst z->H b=some z->H' b=some z):ObjOk P w H' h' a o:=by
 induction o with
 | lst xs=>obtain⟨z,its,n,r,e⟩:=x;exact⟨z,its,n,r,k _ _ (.inl rfl) e⟩
 | tup xs=>obtain⟨z,its,r,ob,e,c⟩:=x;exact⟨z,its,r,ob,k _ _ (.inl rfl) e,c⟩
 | dK kvs=>obtain⟨z,y,vs,r,ob,es,ep,e,c⟩:=x;exact⟨z,y,vs,r,ob,es,ep,k _ _ (.inl rfl) e,c⟩
 | dT kvs=>
   obtain⟨z,y,xs,r,ob,es,ep,e,c⟩:=x;exact⟨z,y,xs,Paired.mapP r fun p q z=>⟨z.1,ht _ _ trivial z.2.1,z.2.2⟩,ob,es,ep,k _ _ (.inl rfl) e,c⟩
 | set S n=>obtain⟨ob,es,ep,t,e,c⟩:=x;exact⟨ob,es,ep,t,k _ _ (.inl rfl) e,c⟩
 | ins C dx fs=>
   obtain⟨d,z,ne,e,mA,⟨od,es,ep,e2,c⟩,r⟩:=x;exact⟨ho _ d,z,ne,k _ _ (.inl rfl) e,mA,⟨od,es,ep,k _ _ (.inr d) e2,c⟩,r⟩
 | own y=>obtain⟨ob,e⟩:=x;exact⟨ob,k _ _ (.inl rfl) e⟩
 | xd fs=>obtain⟨mA,⟨od,es,ep,e,c⟩,r⟩:=x;exact⟨mA,⟨od,es,ep,k _ _ (.inl rfl) e,c⟩,r⟩
 | rng lo hi=>obtain⟨t,u,v,e⟩:=x;exact⟨t,u,v,k _ _ (.inl rfl) e⟩
 | frz ob u ih=>obtain⟨e,q⟩:=x;exact⟨k _ _ (.inl rfl) e,ih q⟩
 | tbl ps=>obtain⟨qs,e,r,rc⟩:=x;exact⟨qs,k a _ (.inl rfl) e,r,fun pos cv q=>let ⟨c',o,u,vs,t,q',e1,e2,e3⟩:=rc pos cv q;⟨c',o,u,vs,t,q',e1,ht _ _ trivial e2,e3⟩⟩
 | met f y=>
   have e:h.get? a=some (PySem.W.methodObj (.ref f) (.ref y)):=x
   show h'.get? a=some (PySem.W.methodObj (.ref f) (.ref y))
   exact k a _ (.inl rfl) e
 | ext φ=>obtain⟨p,⟨o,e⟩,st⟩:=x;exact⟨st _ _ p fun o q=>k _ _ (.inl rfl) q,⟨o,k _ _ (.inl rfl) e⟩,st⟩
theorem HOk.lt (x:HOk P w H h)(e:H a=some o):a<h.objs.size:=(x a o e).lt
theorem HOk.fresh (x:HOk P w H h)(e:h.objs.size<=a):H a=none:=by
 cases q:H a with
 | none=>rfl
 | some u=>exact absurd (wah (x.lt q) e) (waN _)
theorem HOk.kept (x:HOk P w H h)(k:∀b u,h.get? b=some u->h'.get? b=some u):HOk P w H h':=fun a o e=>
 (x a o e).stay (fun b u _ q=>k b u q) (fun _ q=>q) fun _ _ _ q=>q
theorem HOk.laid (x:HOk P w H h)(k:∀b u,h.get? b=some u->h'.get? b=some u)(hp:h.objs.size<=a)(new:ObjOk P w (upd H a o) h' a o):HOk P w (upd H a o) h':=fun b u e=>by
 have hn:=x.fresh hp
 by_cases hb:b=a
 ·subst hb;rw[zaf] at e;cases e;exact new
 ·rw[zae hb] at e;exact(x b u e).stay (fun c v _ q=>k c v q) (fun c q=>by rw[zae (zax q hn)];exact q) fun c xs _ q=>by rw[zae (zax q hn)];exact q
end
def Rd (H:Hp)(a:Addr)(u:HO):Prop:=H a=some u\/∃o,H a=some (.frz o u)
theorem Rd.ok {P:Program}{w:World}{H:Hp}{h:Heap}{a:Addr}{u:HO}(r:Rd H a u)(x:HOk P w H h):ObjOk P w H h a u:=by
 rcases r with r | ⟨o,r⟩
 ·exact x a u r
 ·obtain⟨_,q⟩:=x a _ r;exact q
def Mut:Option HO->Prop
 | some (.lst _)=>True
 | some (.dK _)=>True
 | some (.dT _)=>True
 | some (.set _ _)=>True
 | some (.ins _ _ _)=>True
 | some (.ext _)=>True
 | _=>False
section
variable {P:Program}{w:World}{H:Hp}{h h':Heap}{x e:Addr}{o':HO}
theorem HOk.write (ok:HOk P w H h)(mu:Mut (H x))(he:e=x\/H e=some (.own x))(k:∀b u,b≠e->h.get? b=some u->h'.get? b=some u)(heo:∃u,h'.get? e=some u)
 (new:ObjOk P w (upd H x o') h' x o'):HOk P w (upd H x o') h':=fun b u q=>by
 have nown:∀c y,H c=some (.own y)->c≠x:=fun c y r z=>by subst z;rw[r] at mu;exact mu
 have ntup:∀c o,Cst o->H c=some o->c≠x:=fun c o hc r z=>by subst z;rw[r] at mu;cases o <;> first | exact mu | exact hc
 by_cases hb:b=x
 ·subst hb;rw[zaf] at q;cases q;exact new
 ·rw[zae hb] at q;by_cases hbe:b=e
  ·have q':H b=some (.own x):=by
    rcases he with z | z
    ·exact absurd (hbe.trans z) hb
    ·rw[hbe];exact z
   rw[q] at q';cases q';obtain⟨v,hv⟩:=heo;exact⟨v,by rw[hbe];exact hv⟩
  ·refine(ok b u q).stay (fun c v hc r=>k c v ?_ r) (fun c r=>by rw[zae (nown c b r)];exact r) fun c xs hc r=>by rw[zae (ntup c xs hc r)];exact r
   rcases hc with rfl | hc
   ·exact hbe
   ·rintro rfl;rcases he with z | z
    ·exact nown c b hc z
    ·rw[hc] at z;cases z;exact hb rfl
end
structure Un (fs ex:List Addr)(H H':Hp)(h h':Heap):Prop where
 keep:∀b o,h.get? b=some o->H b=none->b∉fs->b∉ex->h'.get? b=some o
 slot:∀b o,h.get? b=some o->H b=none->b∈fs->b∉ex->∃sl,h'.get? b=some {o with slots:=sl}
 free:∀b o,h.get? b=some o->H b=none->b∉ex->H' b=none
 there:∀b o,h.get? b=some o->b∉ex->∃o',h'.get? b=some o'
 tups:∀b xs,H b=some (.tup xs)->H' b=some (.tup xs)
 frzs:∀b o u,H b=some (.frz o u)->H' b=some (.frz o u)
 tbls:∀b ps,H b=some (.tbl ps)->∃more,H' b=some (.tbl (ps++more))
section
variable {fs fs' ex ex':List Addr}{H H1 H2:Hp}{h h1 h2 h':Heap}{a x e:Addr}{o:HO}
theorem Un.any (u:Un fs ex H H1 h h1){b:Addr}{ob:Obj}(q:h.get? b=some ob)(n:H b=none)(hx:b∉ex):∃sl,h1.get? b=some {ob with slots:=sl}:=by
 by_cases hb:b∈fs
 ·exact u.slot b ob q n hb hx
 ·exact⟨ob.slots,u.keep b ob q n hb hx⟩
theorem Un.kept (k:∀b u,h.get? b=some u->h'.get? b=some u):Un fs ex H H h h':=
 ⟨fun b ob q _ _ _=>k b ob q,fun b ob q _ _ _=>⟨ob.slots,k b ob q⟩,fun _ _ _ n _=>n,fun b ob q _=>⟨ob,k b ob q⟩,fun _ _ q=>q,fun _ _ _ q=>q,fun _ ps q=>⟨#[],by rw[q];simp⟩⟩
theorem Un.refl:Un fs ex H H h h:=Un.kept fun _ _ q=>q
theorem Un.laid (k:∀b u,h.get? b=some u->h'.get? b=some u)(hp:h.objs.size<=a)(hn:H a=none):Un fs ex H (upd H a o) h h' where
 keep:=fun b u q _ _ _=>k b u q
 slot:=fun b u q _ _ _=>⟨u.slots,k b u q⟩
 free:=fun b u q n _=>by rw[zae (wax (wah (wae q) hp))];exact n
 there:=fun b u q _=>⟨u,k b u q⟩
 tups:=fun b xs q=>by rw[zae (zax q hn)];exact q
 frzs:=fun b u xs q=>by rw[zae (zax q hn)];exact q
 tbls:=fun b ps q=>⟨#[],by rw[zae (zax q hn),q];simp⟩
theorem Un.write (mu:Mut (H x))(he:e=x\/H e=some (.own x))(k:∀b u,b≠e->h.get? b=some u->h'.get? b=some u)(heo:∃u,h'.get? e=some u):Un fs ex H (upd H x o) h h':=by
 have hx:∀b,H b=none->b≠x:=fun b n z=>by subst z;rw[n] at mu;exact mu
 have hb:∀b,H b=none->b≠e:=fun b n z=>by
  subst z;rcases he with r | r
  ·exact hx b n r
  ·rw[n] at r;cases r
 have hm:∀b u,H b=some u->¬Mut (some u)->b≠x:=fun b u q nm z=>by subst z;rw[q] at mu;exact nm mu
 refine⟨fun b u q n _ _=>k b u (hb b n) q,fun b u q n _ _=>⟨u.slots,k b u (hb b n) q⟩,fun b u q n _=>by rw[zae (hx b n)];exact n,fun b u q _=>?_,
  fun b xs q=>by rw[zae (hm b _ q fun z=>z)];exact q,fun b u xs q=>by rw[zae (hm b _ q fun z=>z)];exact q,fun b ps q=>⟨#[],by rw[zae (hm b _ q fun z=>z),q];simp⟩⟩
 by_cases hbe:b=e
 ·subst hbe;exact heo
 ·exact⟨u,k b u hbe q⟩
end
def trk (h:Heap)(H:Hp):List Addr:=(List.range h.objs.size).filter fun a=>(H a).isSome
def hidT (h:Heap)(H:Hp):Heap:=PySem.W.hideAll h (trk h H)
theorem zgN (h:Heap)(H:Hp):(hidT h H).objs.size=h.objs.size:=PySem.W.hideAll_size _ _
theorem zin {h:Heap}{H:Hp}{b:Addr}{o:Obj}(e:h.get? b=some o)(n:H b=none):(hidT h H).get? b=some o:=
 PySem.W.hideAll_get _ e fun hm=>by
  have q:(H b).isSome=true:=(List.mem_filter.mp hm).2
  rw[n] at q;simp at q
theorem zkj {h:Heap}{H:Hp}{b:Addr}{o:Obj}(e:(hidT h H).get? b=some o):h.get? b=some o/\H b=none:=by
 have e':h.get? b=some o:=PySem.W.of_hideAll (trk h H) e
 refine⟨e',?_⟩;cases q:H b with
 | none=>rfl
 | some x=>
   have hm:b∈trk h H:=List.mem_filter.mpr ⟨wbm.mpr (wae e'),by simp[q]⟩
   have z:(hidT h H).get? b=none:=PySem.W.hideAll_none (trk h H) hm
   rw[z] at e;cases e
structure Mod (K:W.Frag)(mg:Str->Option Value)(base:Heap):Prop where
 kin:K.In base
 glob:base.Ns mainGlobals mg
 blt:∃mb,base.Ns builtinsNs mb/\∀x:Str,x≠"__name__"->mb x=bootBuiltins x
 nolimit:base.NoLimit
structure Cx where
 prog:Program
 w:World
 K:W.Frag
 mg:Str->Option Value
 base:Heap
 A:Around
 N:List Str
 s₀:Shared
 Hz:Hp
 env:Env
 outer:List Env
 stack:List Env
 ex:List Addr
 fn:Str->Bool
 calm:Bool
 pn:List (Addr×Obj)
 xe:Value->Shared->Prop
def frs (l:List Env):List Addr:=l.filterMap (·.frame)
abbrev Cx.fs (X:Cx):List Addr:=frs X.outer
def Vis (sc:Scope)(x:Str):Prop:=sc.names.lookup x=some .local\/sc.names.lookup x=some .cell\/sc.names.lookup x=some .free
def Loc (sc:Scope)(x:Str):Prop:=sc.names.lookup x=some .local\/sc.names.lookup x=some .cell
def Look (env:Env)(h:Heap)(m:Str->Option Value)(x:Str)(u:Value):Prop:=
 (env.kindOf x=some .local/\m x=some u)\/((env.kindOf x=some .cell\/env.kindOf x=some .free)/\∃c,env.cells.lookup x=some c/\h.IsCell c (some u))
structure Cx.Ok (X:Cx):Prop where
 mod:Mod X.K X.mg X.base
 kind:X.env.scope.kind=.function
 glob:X.env.globals=mainGlobals
 blt:X.env.builtins=builtinsNs
 above:X.s₀.heap.objs.size<=X.env.locals
 inj:∀x y c,X.env.cells.lookup x=some c->X.env.cells.lookup y=some c->x=y
 has:∀x,(X.env.kindOf x=some .cell\/X.env.kindOf x=some .free)->∃c,X.env.cells.lookup x=some c
 cab:∀x c,X.fn x=true->X.env.cells.lookup x=some c->X.s₀.heap.objs.size<=c
 hd:X.calm=true->X.A.handled=none
 frames:X.A.frames=some X.stack
 stk:X.stack=X.outer\/(X.stack=X.env::X.outer/\X.env.frame=some X.env.locals)
 exf:∀b∈X.ex,b≠X.env.locals/\∀x c,X.env.cells.lookup x=some c->c≠b
 bs:∀b o,X.base.get? b=some o->X.s₀.heap.get? b=some o/\X.Hz b=none
 bsz:X.base.objs.size<=X.s₀.heap.objs.size
 noex:∀b o,X.base.get? b=some o->b∉X.ex
 exfs:∀b∈X.ex,b∉X.fs
 funs:X.s₀.heap.FunFrames X.base X.outer
 frf:∀b∈X.fs,X.Hz b=none
structure Inv (X:Cx)(pins:List (Addr×Obj))(σ:List (Option V))(H:Hp)(s:Shared):Prop where
 ok:X.Ok
 os:s.os=X.s₀.os
 bare:AllBare s.gens
 base:Un X.fs X.ex X.Hz H X.s₀.heap s.heap
 loc:∃m,s.heap.Ns X.env.locals m/\∀(i:Nat) (x:Str) (v:V),X.N[i]?=some x->σ[i]?=some (some v)->Vis X.env.scope x->∃u,RelV v u/\Look X.env s.heap m x u
 cell:∀x c,X.env.cells.lookup x=some c->∃v,s.heap.IsCell c v
 free:H X.env.locals=none
 freeC:∀x c,X.env.cells.lookup x=some c->H c=none
 pin:∀p∈X.pn++pins,s.heap.get? p.1=some p.2/\H p.1=none/\p.1≠X.env.locals/\p.1∉X.fs/\∀v,p.2.data≠.cell v
 hok:HOk X.prog X.w H s.heap
 len:σ.length=X.N.length
section
variable {X:Cx}{pins:List (Addr×Obj)}{σ:List (Option V)}{H H':Hp}{s:Shared}{h':Heap}
theorem Cx.Ok.nofr (ok:X.Ok){b:Addr}{o:Obj}(e:X.base.get? b=some o):b∉X.fs:=fun hb=>by
 have:=(ok.funs.mem hb).1
 rw[e] at this;cases this
theorem Inv.bs (I:Inv X pins σ H s):∀b o,X.base.get? b=some o->s.heap.get? b=some o/\H b=none:=fun b o e=>
 ⟨I.base.keep b o (I.ok.bs b o e).1 (I.ok.bs b o e).2 (I.ok.nofr e) (I.ok.noex b o e),I.base.free b o (I.ok.bs b o e).1 (I.ok.bs b o e).2 (I.ok.noex b o e)⟩
theorem Inv.bk (I:Inv X pins σ H s):∀b o,X.base.get? b=some o->s.heap.get? b=some o:=fun b o e=>(I.bs b o e).1
theorem Inv.mod (I:Inv X pins σ H s):Mod X.K X.mg X.base:=I.ok.mod
theorem Inv.kIn (I:Inv X pins σ H s):X.K.In s.heap:=I.ok.mod.kin.keeps I.bk
theorem Inv.nolimit (I:Inv X pins σ H s):s.heap.NoLimit:=I.ok.mod.nolimit.keeps I.bk
theorem Inv.lt (I:Inv X pins σ H s):X.env.locals<s.heap.objs.size:=let ⟨_,hn,_⟩:=I.loc;hn.lt
theorem Inv.sz (I:Inv X pins σ H s):X.s₀.heap.objs.size<=s.heap.objs.size:=wan I.ok.above (wbg I.lt)
theorem Inv.nofs (I:Inv X pins σ H s){a:Addr}(h:s.heap.objs.size<=a):a∉X.fs:=fun hb=>by
 obtain⟨_,o,ho,_⟩:=I.ok.funs.mem hb;exact absurd (wah (wae ho) (wan I.sz h)) (waN _)
theorem Inv.cne (I:Inv X pins σ H s):∀x c,X.env.cells.lookup x=some c->c≠X.env.locals:=fun x c e z=>by
 obtain⟨v,o,ho,hd⟩:=I.cell x c e;obtain⟨m,⟨o',es,ep,ho',hd',_⟩,_⟩:=I.loc;rw[z,ho'] at ho;cases ho;rw[hd'] at hd;cases hd
theorem Inv.funs (I:Inv X pins σ H s):s.heap.FunFrames X.base X.outer:=by
 have all:∀(l:List Env),(∀b∈frs l,b∈X.fs)->X.s₀.heap.FunFrames X.base l->s.heap.FunFrames X.base l:=by
  intro l;induction l with
  | nil=>intro _ _;trivial
  | cons env r ih=>
    intro hs hl;obtain⟨hk,⟨L,o,hf,hn,ho,hd⟩,hr⟩:=hl;have hL:L∈X.fs:=hs L (by unfold frs;rw[wco,hf];exact waj)
    obtain⟨sl,e⟩:=I.base.slot L o ho (I.ok.frf L hL) hL fun z=>I.ok.exfs L z hL
    exact⟨hk,⟨L,_,hf,hn,e,hd⟩,ih (fun b hb=>hs b (by unfold frs;rw[wco,hf];exact waf _ hb)) hr⟩
 exact all X.outer (fun _ hb=>hb) I.ok.funs
theorem Inv.stack (I:Inv X pins σ H s):s.heap.FunFrames X.base X.stack:=by
 rcases I.ok.stk with e | ⟨e,hf⟩
 ·rw[e];exact I.funs
 ·rw[e];obtain⟨m,hn,_⟩:=I.loc;refine .cons (by rw[I.ok.kind];decide) hf hn ?_ I.funs;exact wbK (wan I.ok.bsz I.ok.above)
theorem Inv.stkSub (I:Inv X pins σ H s):∀b∈frs X.stack,b∈X.env.locals::X.fs:=fun b hb=>by
 rcases I.ok.stk with e | ⟨e,hf⟩
 ·rw[e] at hb;exact waf _ hb
 ·rw[e] at hb;unfold frs at hb;rw[wco,hf] at hb;exact hb
theorem Inv.stkFree (I:Inv X pins σ H s):∀b∈frs X.stack,H b=none:=fun b hb=>by
 rcases wai.mp (I.stkSub b hb) with e | hb
 ·rw[e];exact I.free
 ·obtain⟨_,o,ho,_⟩:=I.ok.funs.mem hb;exact I.base.free b o ho (I.ok.frf b hb) fun z=>I.ok.exfs b z hb
theorem Inv.step {g':Array GenState}{t':Nat}{d':Drawn}{ch:List Addr}(I:Inv X pins σ H s)
 (hch:∀b∈ch,(b∈X.ex\/X.s₀.heap.objs.size<=b)/\b≠X.env.locals/\(∀x c,X.env.cells.lookup x=some c->c≠b)/\∀p∈X.pn++pins,p.1≠b)
 (keep:∀b o,b≠X.env.locals->b∉X.fs->b∉ch->s.heap.get? b=some o->H b=none->h'.get? b=some o)
 (slot:∀b o,b≠X.env.locals->b∈X.fs->b∉ch->s.heap.get? b=some o->H b=none->∃sl,h'.get? b=some {o with slots:=sl}) (free:∀b o,b∉ch->s.heap.get? b=some o->H b=none->H' b=none)
 (there:∀b o,b∉ch->s.heap.get? b=some o->∃o',h'.get? b=some o')
 (tups:∀b xs,H b=some (.tup xs)->H' b=some (.tup xs)) (frzs:∀b o u,H b=some (.frz o u)->H' b=some (.frz o u)) (tbls:∀b ps,H b=some (.tbl ps)->∃more,H' b=some (.tbl (ps++more)))
 (ns:∀m,s.heap.Ns X.env.locals m->h'.Ns X.env.locals m) (hok:HOk X.prog X.w H' h') (hg:AllBare g') :
 Inv X pins σ H' {s with heap:=h',gens:=g',drawn:=d',toks:=t'}:=by
 have neL:∀b o,X.s₀.heap.get? b=some o->b≠X.env.locals:=fun b o e=>wax (wah (wae e) I.ok.above)
 have neC:∀b o,X.s₀.heap.get? b=some o->b∉X.ex->b∉ch:=fun b o e hx hb=>by
  rcases(hch b hb).1 with z | z
  ·exact hx z
  ·exact absurd (wah (wae e) z) (waN _)
 have cellK:∀x c,X.env.cells.lookup x=some c->∀v,s.heap.IsCell c v->h'.IsCell c v:=fun x c e v ⟨o,ho,hd⟩ =>by
  have nch:c∉ch:=fun z=>(hch c z).2.2.1 x c e rfl
  by_cases hc:c∈X.fs
  ·obtain⟨sl,q⟩:=slot c o (I.cne x c e) hc nch ho (I.freeC x c e);exact⟨_,q,hd⟩
  ·exact⟨o,keep c o (I.cne x c e) hc nch ho (I.freeC x c e),hd⟩
 refine⟨I.ok,I.os,hg,⟨fun b o e n hb hx=>?_,fun b o e n hb hx=>?_,fun b o e n hx=>?_,fun b o e hx=>?_,fun b xs e=>tups b xs (I.base.tups b xs e),fun b o xs e=>frzs b o xs (I.base.frzs b o xs e),fun b ps e=>?_⟩,?_,fun x c e=>?_,?_,fun x c e=>?_,fun p hp=>?_,hok,I.len⟩
 ·exact keep b o (neL b o e) hb (neC b o e hx) (I.base.keep b o e n hb hx) (I.base.free b o e n hx)
 ·obtain⟨sl,e1⟩:=I.base.slot b o e n hb hx;obtain⟨sl',e2⟩:=slot b _ (neL b o e) hb (neC b o e hx) e1 (I.base.free b o e n hx);exact⟨sl',e2⟩
 ·obtain⟨o',e1⟩:=I.base.there b o e hx;exact free b o' (neC b o e hx) e1 (I.base.free b o e n hx)
 ·obtain⟨o',e1⟩:=I.base.there b o e hx;exact there b o' (neC b o e hx) e1
 ·obtain⟨m1,e1⟩:=I.base.tbls b ps e;obtain⟨m2,e2⟩:=tbls b _ e1;exact⟨m1++m2,by rw[e2,Array.append_assoc]⟩
 ·obtain⟨m,hn,hl⟩:=I.loc;refine⟨m,ns m hn,fun i x v e1 e2 e3=>?_⟩;obtain⟨u,r,l⟩:=hl i x v e1 e2 e3;refine⟨u,r,?_⟩;rcases l with l | ⟨k,c,e,z⟩
  ·exact .inl l
  ·exact .inr ⟨k,c,e,cellK x c e _ z⟩
 ·obtain⟨v,z⟩:=I.cell x c e;exact⟨v,cellK x c e v z⟩
 ·obtain⟨m,⟨o,_,_,ho,_⟩,_⟩:=I.loc;exact free _ o (fun z=>(hch _ z).2.1 rfl) ho I.free
 ·obtain⟨v,o,ho,hd⟩:=I.cell x c e;exact free c o (fun z=>(hch c z).2.2.1 x c e rfl) ho (I.freeC x c e)
 ·obtain⟨e,n,ne,nf,d⟩:=I.pin p hp;have nch:p.1∉ch:=fun z=>(hch p.1 z).2.2.2 p hp rfl
  exact⟨keep p.1 p.2 ne nf nch e n,free p.1 p.2 nch e n,ne,nf,d⟩
theorem Inv.un {t':Nat}(I:Inv X pins σ H s)(u:Un X.fs [] H H' s.heap h')(hok:HOk X.prog X.w H' h'):Inv X pins σ H' {s with heap:=h',toks:=t'}:=by
 obtain⟨m,⟨o,es,ep,ho,r⟩,_⟩:=id I.loc;obtain⟨sl,hL⟩:=u.any ho I.free (by simp);exact I.step (g':=s.gens) (d':=s.drawn) (ch:=[]) (fun _ z=>nomatch z) (fun b o _ hb _ e n=>u.keep b o e n hb (by simp)) (fun b o _ hb _ e n=>u.slot b o e n hb (by simp)) (fun b o _ e n=>u.free b o e n (by simp)) (fun b o _ e=>u.there b o e (by simp)) u.tups u.frzs u.tbls (fun m' hm=>by
  obtain⟨o',es',ep',ho',r'⟩:=hm;rw[ho] at ho';cases ho';exact⟨_,es',ep',hL,r'⟩) hok I.bare
theorem Inv.call {g':Array GenState}{t':Nat}{d':Drawn}{ch:List Addr}(I:Inv X pins σ H s)(u:Un (frs X.stack) ch H H' s.heap h')(hok:HOk X.prog X.w H' h')(hg:AllBare g')
 (hch:∀b∈ch,(b∈X.ex\/X.s₀.heap.objs.size<=b)/\b≠X.env.locals/\(∀x c,X.env.cells.lookup x=some c->c≠b)/\∀p∈X.pn++pins,p.1≠b) :
 Inv X pins σ H' {s with heap:=h',gens:=g',drawn:=d',toks:=t'}:=by
 obtain⟨m,⟨o,es,ep,ho,r⟩,_⟩:=id I.loc;obtain⟨sl,hL⟩:=u.any ho I.free fun z=>(hch _ z).2.1 rfl
 exact I.step (ch:=ch) hch (fun b o hL hb hc e n=>u.keep b o e n (fun z=>(wai.mp (I.stkSub b z)).elim hL hb) hc) (fun b o _ _ hc e n=>u.any e n hc) (fun b o hc e n=>u.free b o e n hc) (fun b o hc e=>u.there b o e hc) u.tups u.frzs u.tbls (fun m' hm=>by
  obtain⟨o',es',ep',ho',r'⟩:=hm;rw[ho] at ho';cases ho';exact⟨_,es',ep',hL,r'⟩) hok hg
theorem Inv.turned {t':Nat}{it:Addr}(I:Inv X pins σ H s)(k:∀b o,b≠it->s.heap.get? b=some o->h'.get? b=some o)(hn:H it=none)(hL:it≠X.env.locals)
 (h1:it∈X.ex\/X.s₀.heap.objs.size<=it) (h2:∀x c,X.env.cells.lookup x=some c->c≠it) (h3:∀p∈X.pn++pins,p.1≠it):Inv X pins σ H {s with heap:=h',toks:=t'}:=by
 have nit:∀b u,H b=some u->b≠it:=fun b u e z=>by rw[z,hn] at e;cases e
 refine I.step (g':=s.gens) (d':=s.drawn) (ch:=[it]) (fun b hb=>?_) (fun b o _ _ hc e _=>k b o (fun z=>hc (by simp[z])) e) (fun b o _ _ hc e _=>⟨o.slots,k b o (fun z=>hc (by simp[z])) e⟩) (fun _ _ _ _ n=>n)
  (fun b o hc e=>⟨o,k b o (fun z=>hc (by simp[z])) e⟩) (fun _ _ e=>e) (fun _ _ _ e=>e) (fun b ps e=>⟨#[],by rw[e];simp⟩) (fun m hm=>?_) (fun b u e=>?_) I.bare
 ·have e:b=it:=by simpa using hb
  subst e;exact⟨h1,hL,h2,h3⟩
 ·obtain⟨o,es,ep,ho,r⟩:=hm;exact⟨o,es,ep,k _ o (Ne.symm hL) ho,r⟩
 ·refine(I.hok b u e).stay (fun c v hc q=>k c v ?_ q) (fun _ q=>q) fun _ _ _ q=>q
  rcases hc with z | z
  ·rw[z];exact nit b u e
  ·exact nit c _ z
theorem Inv.tok (I:Inv X pins σ H s)(t:Nat):Inv X pins σ H {s with toks:=t}:=I.un (h':=s.heap) (t':=t) Un.refl I.hok
theorem Inv.kept {t':Nat}(I:Inv X pins σ H s)(k:∀b u,s.heap.get? b=some u->h'.get? b=some u):Inv X pins σ H {s with heap:=h',toks:=t'}:=I.un (Un.kept k) (I.hok.kept k)
theorem Inv.laid {a:Addr}{o:HO}{t':Nat}(I:Inv X pins σ H s)(k:∀b u,s.heap.get? b=some u->h'.get? b=some u)(hp:s.heap.objs.size<=a)(new:ObjOk X.prog X.w (upd H a o) h' a o) :
 Inv X pins σ (upd H a o) {s with heap:=h',toks:=t'}:=I.un (Un.laid k hp (I.hok.fresh hp)) (I.hok.laid k hp new)
theorem Inv.write {x e:Addr}{o:HO}{t':Nat}(I:Inv X pins σ H s)(mu:Mut (H x))(he:e=x\/H e=some (.own x))(k:∀b u,b≠e->s.heap.get? b=some u->h'.get? b=some u)(heo:∃u,h'.get? e=some u)
 (new:ObjOk X.prog X.w (upd H x o) h' x o):Inv X pins σ (upd H x o) {s with heap:=h',toks:=t'}:=I.un (Un.write mu he k heo) (I.hok.write mu he k heo new)
theorem Inv.pins_of {pins':List (Addr×Obj)}(I:Inv X pins σ H s)(h:∀p∈pins',s.heap.get? p.1=some p.2/\H p.1=none/\p.1≠X.env.locals/\p.1∉X.fs/\∀v,p.2.data≠.cell v):Inv X pins' σ H s:=
 ⟨I.ok,I.os,I.bare,I.base,I.loc,I.cell,I.free,I.freeC,fun p hp=>(way.mp hp).elim (fun z=>I.pin p (wbL _ z)) (h p),I.hok,I.len⟩
theorem zdN {N:List Str}(hN:N.Nodup){i j:Nat}{x:Str}(a:N[i]?=some x)(b:N[j]?=some x):i=j:=by
 obtain⟨h1,e1⟩:=wal.mp a;obtain⟨h2,e2⟩:=wal.mp b;exact(List.getElem_inj hN).mp (e1.trans e2.symm)
theorem zet {M:Model}{A:Around}{E:Value->Shared->Prop}{i:Nat}{x:Str}{v:V}{u:Value}{Q:Unit->Shared->Prop}(I:Inv X pins σ H s)(hN:X.N.Nodup)(hi:X.N[i]?=some x)(hx:Loc X.env.scope x)(r:RelV v u)
 (h:∀s',Inv X pins (σ.set i (some v)) H s'->(∃a,Heap.SameBut a s.heap s'.heap/\(a=X.env.locals\/X.env.cells.lookup x=some a))->Q () s') (hf:X.fn x=true\/X.env.scope.names.lookup x=some .local:=by first | exact .inl rfl | exact .inr rfl | assumption):wpAny M A (storeName X.env x u) Q E s:=by
 obtain⟨m,hn,hl⟩:=id I.loc;have hcls:(X.env.scope.kind == .class||(X.env.scope.kind == .module&&X.env.locals != X.env.globals))=false:=by rw[I.ok.kind];rfl
 have hiσ:i<σ.length:=by rw[I.len];exact(wal.mp hi).1
 have cne:=I.cne
 have tracked:∀{a:Addr}{h':Heap},(∃o,s.heap.get? a=some o/\H a=none)->Heap.SameBut a s.heap h'->HOk X.prog X.w H h':=fun {a h'} ha hs b ob e=>by
  obtain⟨_,_,hfree⟩:=ha;refine(I.hok b ob e).stay (fun c w' hc q=>(hs.2 c ?_).trans q) (fun _ q=>q) fun _ _ _ q=>q
  rintro rfl;rcases hc with rfl | hc
  ·rw[hfree] at e;cases e
  ·rw[hfree] at hc;cases hc
 rcases hx with hk | hk
 ·refine wpAny_storeName_local hk hn (fun h' hn' hs=>?_) hcls;obtain⟨oL,_,_,hoL,_⟩:=id hn;refine h _ ⟨I.ok,I.os,I.bare,⟨fun b o e n hb hx=>?_,fun b o e n hb hx=>?_,I.base.free,fun b o e hx=>?_,I.base.tups,I.base.frzs,I.base.tbls⟩,⟨_,hn',fun j y v' e1 e2 e3=>?_⟩,fun y c e=>?_,I.free,I.freeC,fun p hp=>?_,tracked ⟨oL,hoL,I.free⟩ hs,by simpa using I.len⟩ ⟨_,hs,.inl rfl⟩
  ·exact(hs.2 b (wax (wah (wae e) I.ok.above))).trans (I.base.keep b o e n hb hx)
  ·obtain⟨sl,e1⟩:=I.base.slot b o e n hb hx;exact⟨sl,(hs.2 b (wax (wah (wae e) I.ok.above))).trans e1⟩
  ·obtain⟨o',e1⟩:=I.base.there b o e hx;exact⟨o',(hs.2 b (wax (wah (wae e) I.ok.above))).trans e1⟩
  ·by_cases hj:j=i
   ·subst hj;rw[hi] at e1;cases e1;rw[waq hiσ] at e2;cases e2;exact⟨u,r,.inl ⟨hk,by simp⟩⟩
   ·rw[wad (Ne.symm hj)] at e2;obtain⟨u',r',q⟩:=hl j y v' e1 e2 e3;refine⟨u',r',?_⟩;rcases q with⟨k,e⟩ | ⟨k,c,e,z⟩
    ·refine .inl ⟨k,?_⟩;have:y≠x:=fun e=>hj (zdN hN e1 (e▸hi))
     simp[this,e]
    ·exact .inr ⟨k,c,e,z.sameBut hs (cne y c e)⟩
  ·obtain⟨w',z⟩:=I.cell y c e;exact⟨w',z.sameBut hs (cne y c e)⟩
  ·obtain⟨e,n,ne,nf,d⟩:=I.pin p hp;exact⟨(hs.2 p.1 ne).trans e,n,ne,nf,d⟩
 ·have hfn:X.fn x=true:=by
   rcases hf with z | z
   ·exact z
   ·rw[z] at hk;cases hk
  obtain⟨c,hc⟩:=I.ok.has x (.inl hk);obtain⟨w',z⟩:=I.cell x c hc;refine wpAny_storeName_cell I.ok.kind hk hc z (fun h' hc' hs=>?_);obtain⟨oc,hoc,hocd⟩:=id z;refine h {s with heap:=h'} ⟨I.ok,I.os,I.bare,⟨fun b o e n hb hx=>?_,fun b o e n hb hx=>?_,I.base.free,fun b o e hx=>?_,I.base.tups,I.base.frzs,I.base.tbls⟩,⟨m,hn.sameBut hs (Ne.symm (cne x c hc)),fun j y v' e1 e2 e3=>?_⟩,fun y c' e=>?_,I.free,I.freeC,fun p hp=>?_,tracked ⟨oc,hoc,I.freeC x c hc⟩ hs,by simpa using I.len⟩ ⟨c,hs,.inr hc⟩
  ·exact(hs.2 b (wax (wah (wae e) (I.ok.cab x c hfn hc)))).trans (I.base.keep b o e n hb hx)
  ·obtain⟨sl,e1⟩:=I.base.slot b o e n hb hx;exact⟨sl,(hs.2 b (wax (wah (wae e) (I.ok.cab x c hfn hc)))).trans e1⟩
  ·obtain⟨o',e1⟩:=I.base.there b o e hx;exact⟨o',(hs.2 b (wax (wah (wae e) (I.ok.cab x c hfn hc)))).trans e1⟩
  ·by_cases hj:j=i
   ·subst hj;rw[hi] at e1;cases e1;rw[waq hiσ] at e2;cases e2;exact⟨u,r,.inr ⟨.inl hk,c,hc,hc'⟩⟩
   ·rw[wad (Ne.symm hj)] at e2;obtain⟨u',r',q⟩:=hl j y v' e1 e2 e3;refine⟨u',r',?_⟩;rcases q with q | ⟨k,c',e,z'⟩
    ·exact .inl q
    ·refine .inr ⟨k,c',e,z'.sameBut hs ?_⟩;rintro rfl;exact hj (zdN hN e1 (I.ok.inj _ _ _ e hc▸hi))
  ·by_cases hcc:c'=c
   ·subst hcc;exact⟨_,hc'⟩
   ·obtain⟨w2,z2⟩:=I.cell y c' e;exact⟨w2,z2.sameBut hs hcc⟩
  ·obtain⟨e,n,ne,nf,d⟩:=I.pin p hp;refine⟨(hs.2 p.1 ?_).trans e,n,ne,nf,d⟩;intro q;rw[q,hoc] at e;have q':oc=p.2:=wav e
   exact d w' (by rw[<-q'];exact hocd)
theorem zdO {M:Model}{A:Around}{E:Value->Shared->Prop}{i:Nat}{x:Str}{v:V}{u:Value}{Q:Unit->Shared->Prop}(I:Inv X pins σ H s)(hN:X.N.Nodup)(hi:X.N[i]?=some x)(hx:Loc X.env.scope x)(r:RelV v u)
 (h:∀s',Inv X pins (σ.set i (some v)) H s'->Q () s') (hf:X.fn x=true\/X.env.scope.names.lookup x=some .local:=by first | exact .inl rfl | exact .inr rfl | assumption):wpAny M A (storeName X.env x u) Q E s:=
 zet I hN hi hx r (fun s' I' _=>h s' I') hf
theorem Inv.call' {s':Shared}{ch:List Addr}(I:Inv X pins σ H s)(ho:s'.os=s.os)(u:Un (frs X.stack) ch H H' s.heap s'.heap)(hok:HOk X.prog X.w H' s'.heap)(hg:AllBare s'.gens)
 (hch:∀b∈ch,(b∈X.ex\/X.s₀.heap.objs.size<=b)/\b≠X.env.locals/\(∀x c,X.env.cells.lookup x=some c->c≠b)/\∀p∈X.pn++pins,p.1≠b):Inv X pins σ H' s':=by
 obtain⟨h',g',d',t',o'⟩:=s';have e:o'=s.os:=ho
 subst e;exact I.call (g':=g') (t':=t') (d':=d') u hok hg hch
end
abbrev XK:=Value->Option Addr->Hp->Prop
abbrev St:=List (Option V)
abbrev VK:=V->Hp->Prop
abbrev TE:=St->Hp->VK->Prop
abbrev TT:=St->Hp->(Bool->Hp->Prop)->Prop
abbrev TA:=St->Hp->(List V->Hp->Prop)->Prop
structure Ends where
 nx:St->Hp->Prop
 rt:VK
 bk:St->Hp->Prop:=fun _ _=>False
 ct:St->Hp->Prop:=fun _ _=>False
abbrev TS:=Ends->St->Hp->Prop
def EP (X:Cx)(pins:List (Addr×Obj))(σ:St)(Q:VK)(u:Value)(s':Shared):Prop:=∃v H',Inv X pins σ H' s'/\RelV v u/\Q v H'
def TP (X:Cx)(pins:List (Addr×Obj))(σ:St)(Q:Bool->Hp->Prop)(b:Bool)(s':Shared):Prop:=∃H',Inv X pins σ H' s'/\Q b H'
def AP (X:Cx)(pins:List (Addr×Obj))(σ:St)(Q:List V->Hp->Prop)(us:List Value)(s':Shared):Prop:=∃vs H',Inv X pins σ H' s'/\Vals vs us/\Q vs H'
def SP (X:Cx)(pins:List (Addr×Obj))(D:Ends)(f:Flow)(s':Shared):Prop:=
 match f with
 | .next=>∃σ' H',Inv X pins σ' H' s'/\D.nx σ' H'
 | .brk=>∃σ' H',Inv X pins σ' H' s'/\D.bk σ' H'
 | .cont=>∃σ' H',Inv X pins σ' H' s'/\D.ct σ' H'
 | .ret u=>∃v σ' H',Inv X pins σ' H' s'/\RelV v u/\D.rt v H'
def PE (X:Cx)(e:Expr)(t:TE):Prop:=
 ∀(pins:List (Addr×Obj)) (s:Shared) (σ:St) (H:Hp) (Q:VK),Inv X pins σ H s->t σ H Q->wpAny (model X.prog X.w) X.A (eval e X.env) (EP X pins σ Q) X.xe s
def PT (X:Cx)(e:Expr)(t:TT):Prop:=
 ∀(pins:List (Addr×Obj)) (s:Shared) (σ:St) (H:Hp) (Q:Bool->Hp->Prop),Inv X pins σ H s->t σ H Q->wpAny (model X.prog X.w) X.A (isTrue e X.env (eval e X.env)) (TP X pins σ Q) X.xe s
def PW (X:Cx)(e:Expr)(t:TT):Prop:=
 ∀(whole:Sem Value) (pins:List (Addr×Obj)) (s:Shared) (σ:St) (H:Hp) (Q:Bool->Hp->Prop),Inv X pins σ H s->t σ H Q->wpAny (model X.prog X.w) X.A (isTrue e X.env whole) (TP X pins σ Q) X.xe s
theorem PW.pt {X:Cx}{e:Expr}{t:TT}(h:PW X e t):PT X e t:=h _
def PA (X:Cx)(es:List Expr)(t:TA):Prop:=
 ∀(pos:Pos) (pins:List (Addr×Obj)) (s:Shared) (σ:St) (H:Hp) (Q:List V->Hp->Prop),Inv X pins σ H s->t σ H Q->wpAny (model X.prog X.w) X.A (spliced (backTo pos (starEach es X.env))) (AP X pins σ Q) X.xe s
def PS (X:Cx)(st:Stmt)(t:TS):Prop:=
 ∀(pins:List (Addr×Obj)) (s:Shared) (σ:St) (H:Hp) (D:Ends),Inv X pins σ H s->t D σ H->wpAny (model X.prog X.w) X.A (exec st X.env) (SP X pins D) X.xe s
def PSs (X:Cx)(st:List Stmt)(t:TS):Prop:=
 ∀(pins:List (Addr×Obj)) (s:Shared) (σ:St) (H:Hp) (D:Ends),Inv X pins σ H s->t D σ H->wpAny (model X.prog X.w) X.A (execs st X.env) (SP X pins D) X.xe s
theorem thn {α:Type}{t:Sem α}{Q Q':α->Shared->Prop}{M:Model}{A:Around}{E:Value->Shared->Prop}{s:Shared}(h:wpAny M A t Q E s)(hQ:∀a s,Q a s->Q' a s):wpAny M A t Q' E s:=waz h hQ fun _ _ x=>x
section
variable {X:Cx}
theorem bin {a b:Expr}{ta tb:TE}(ha:PE X a ta)(hb:PE X b tb){pins:List (Addr×Obj)}{s:Shared}{σ:St}{H:Hp}{R:V->V->Hp->Prop}(I:Inv X pins σ H s)(h:ta σ H fun x H1=>tb σ H1 fun y H2=>R x y H2)
 {α:Type}{Q:α->Shared->Prop}{f:Value->Value->Sem α}
 (hf:∀v u s2 x y H2,Inv X pins σ H2 s2->RelV x v->RelV y u->R x y H2->wpAny (model X.prog X.w) X.A (f v u) Q X.xe s2) :
 wpAny (model X.prog X.w) X.A (eval a X.env) (fun v s₁=>wpAny (model X.prog X.w) X.A (eval b X.env) (fun u s₂=>wpAny (model X.prog X.w) X.A (f v u) Q X.xe s₂) X.xe s₁) X.xe s:=by
 refine thn (ha pins s σ H _ I h) fun v s1 ⟨x,H1,I1,r1,q1⟩ =>?_
 refine thn (hb pins s1 σ H1 _ I1 q1) fun u s2 ⟨y,H2,I2,r2,q2⟩ =>?_
 exact hf v u s2 x y H2 I2 r1 r2 q2
def tVar (i:Nat):TE:=fun σ H Q=>∃v,σ[i]?=some (some v)/\Q v H
def tC (v:V):TE:=fun _ H Q=>Q v H
theorem zcb {i:Nat}{x:Str}{pos:Pos}(hN:X.N[i]?=some x)(hv:Vis X.env.scope x)(hd:(x == ("__debug__" : Str))=false:=by decide)(hcd:(x == ("__classdict__" : Str))=false:=by decide):PE X (.Name x pos) (tVar i):=by
 intro pins s σ H Q I h;obtain⟨v,e,h⟩:=h;obtain⟨m,hn,hl⟩:=I.loc;obtain⟨u,r,l⟩:=hl i x v hN e hv;have fin:EP X pins σ Q u s:=⟨v,H,I,r,h⟩
 rcases l with⟨hk,hm⟩ | ⟨hk,c,hc,hcell⟩
 ·exact wcy (wbp I.ok.kind hk hn hm fin) hd
 ·rcases hk with hk | hk
  ·exact wcy (wpAny_loadName_cell I.ok.kind hk hc hcell fin) hd
  ·exact wcy (wpAny_loadName_free I.ok.kind hk hc hcell fin hcd) hd
theorem zlV {i j pos}:PE X (.Constant (.int i) j pos) (tC (.int i)):=fun _ _ _ H _ I h=>wpAny_Constant_int ⟨.int i,H,I.tok _,⟨_,rfl⟩,h⟩
theorem znO {b j pos}:PE X (.Constant (.bool b) j pos) (tC (.bl b)):=fun _ _ _ H _ I h=>Constant_bool ⟨.bl b,H,I,rfl,h⟩
theorem zlW {j pos}:PE X (.Constant .none j pos) (tC .non):=fun _ _ _ H _ I h=>Constant_none ⟨.non,H,I,rfl,h⟩
theorem zlX {x j pos}:PE X (.Constant (.str x) j pos) (tC (.str x)):=fun _ _ _ H _ I h=>Calls.Constant_str ⟨.str x,H,I.tok _,⟨_,rfl⟩,h⟩
def Gl (X:Cx)(x:Str):Prop:=X.env.kindOf x=some .globalImplicit
theorem zcD {E:Value->Shared->Prop}{pins:List (Addr×Obj)}{s:Shared}{σ:St}{H:Hp}{x:Str}{u:Value}{pos:Pos}{Q:Value->Shared->Prop}(I:Inv X pins σ H s)(hg:Gl X x)(hm:X.mg x=some u)(h:Q u s)
 (hd:(x == ("__debug__" : Str))=false:=by decide):wpAny (model X.prog X.w) X.A (eval (.Name x pos) X.env) Q E s:=
 Calls.Name_function_global I.ok.kind hg (Calls.loadGlobal_global (by rw[I.ok.glob];exact I.mod.glob.keeps I.bk) hm h) hd
theorem zb0 {E:Value->Shared->Prop}{pins:List (Addr×Obj)}{s:Shared}{σ:St}{H:Hp}{x:Str}{u:Value}{pos:Pos}{Q:Value->Shared->Prop}(I:Inv X pins σ H s)(hg:Gl X x)(hm:X.mg x=none)(hv:bootBuiltins x=some u)(h:Q u s)
 (hn:x≠"__name__":=by decide) (hd:(x == ("__debug__" : Str))=false:=by decide):wpAny (model X.prog X.w) X.A (eval (.Name x pos) X.env) Q E s:=by
 obtain⟨mb,h1,h2⟩:=I.mod.blt;exact Calls.Name_function_global I.ok.kind hg (Calls.loadGlobal_builtin (by rw[I.ok.glob];exact I.mod.glob.keeps I.bk) hm (by rw[I.ok.blt];exact h1.keeps I.bk) ((h2 x hn).trans hv) h) hd
theorem zfh {x:Str}{v:V}{u:Value}{pos:Pos}(hg:Gl X x)(hm:X.mg x=some u)(r:RelV v u)(hd:(x == ("__debug__" : Str))=false:=by decide):PE X (.Name x pos) (tC v):=
 fun _ _ _ H _ I h=>zcD I hg hm ⟨v,H,I,r,h⟩ hd
theorem zkk {x:Str}{v:V}{u:Value}{pos:Pos}(hg:Gl X x)(hm:X.mg x=none)(hv:bootBuiltins x=some u)(r:RelV v u)(hn:x≠"__name__":=by decide)(hd:(x == ("__debug__" : Str))=false:=by decide):PE X (.Name x pos) (tC v):=
 fun _ _ _ H _ I h=>zb0 I hg hm hv ⟨v,H,I,r,h⟩ hn hd
variable {a b:Expr}{ta tb:TE}{pos:Pos}
variable {tA tB':TT}{rest:List Expr}
def tAnd (t u:TT):TT:=fun σ H Q=>t σ H fun c H1=>if c=true then u σ H1 Q else Q false H1
def tOr (t u:TT):TT:=fun σ H Q=>t σ H fun c H1=>if c=true then Q true H1 else u σ H1 Q
def tNot (t:TT):TT:=fun σ H Q=>t σ H fun c H1=>Q (!c) H1
theorem zkl (ha:PT X a tA):PW X (.BoolOp .And [a] pos) tA:=by
 intro wh pins s σ H Q I h;refine isTrue_and (thn (ha pins s σ H Q I h) fun c s1 e=>?_);cases c with
 | true=>exact isTrue_and_nil e
 | false=>exact e
theorem zlY (ha:PT X a tA):PW X (.BoolOp .Or [a] pos) tA:=by
 intro wh pins s σ H Q I h;refine isTrue_or (thn (ha pins s σ H Q I h) fun c s1 e=>?_);cases c with
 | false=>exact isTrue_or_nil e
 | true=>exact e
theorem zlZ (ha:PT X a tA)(hb:PW X (.BoolOp .And (b::rest) pos) tB'):PW X (.BoolOp .And (a::b::rest) pos) (tAnd tA tB'):=by
 intro wh pins s σ H Q I h;refine isTrue_and (thn (ha pins s σ H _ I h) fun c s1 ⟨H1,I1,q1⟩ =>?_);cases c with
 | true=>exact hb wh pins s1 σ H1 Q I1 q1
 | false=>exact⟨H1,I1,q1⟩
theorem znP (ha:PT X a tA)(hb:PW X (.BoolOp .Or (b::rest) pos) tB'):PW X (.BoolOp .Or (a::b::rest) pos) (tOr tA tB'):=by
 intro wh pins s σ H Q I h;refine isTrue_or (thn (ha pins s σ H _ I h) fun c s1 ⟨H1,I1,q1⟩ =>?_);cases c with
 | true=>exact⟨H1,I1,q1⟩
 | false=>exact hb wh pins s1 σ H1 Q I1 q1
theorem zl0 (ha:PT X a tA):PT X (.UnaryOp .Not a pos) (tNot tA):=by
 intro pins s σ H Q I h;exact isTrue_not (ha pins s σ H (fun c H1=>Q (!c) H1) I h)
def znQ (ta tb:TE):TE:=fun σ H Q=>ta σ H fun x H1=>∃c,x=.bl c/\if c=true then tb σ H1 Q else Q (.bl false) H1
def znR (ta:TE):TE:=fun σ H Q=>ta σ H fun x H1=>∃c,x=.bl c/\Q (.bl (!c)) H1
theorem zl1 {op}{t:TE}(h:PE X a t):PE X (.BoolOp op [a] pos) t:=fun pins s σ H Q I hw=>BoolOp_one (h pins s σ H Q I hw)
theorem zl2 (ha:PE X a ta)(hb:PE X (.BoolOp .And (b::rest) pos) tb):PE X (.BoolOp .And (a::b::rest) pos) (znQ ta tb):=by
 intro pins s σ H Q I h;refine BoolOp_and (thn (ha pins s σ H _ I h) fun v s1 ⟨x,H1,I1,r1,q1⟩ =>?_);obtain⟨c,rfl,q1⟩:=q1;cases r1;refine wcc ?_;cases c with
 | true=>exact hb pins s1 σ H1 Q I1 q1
 | false=>exact⟨.bl false,H1,I1,rfl,q1⟩
theorem zl3 (ha:PE X a ta):PE X (.UnaryOp .Not a pos) (znR ta):=by
 intro pins s σ H Q I h;refine UnaryOp_ (thn (ha pins s σ H _ I h) fun v s1 ⟨x,H1,I1,r1,q1⟩ =>?_);obtain⟨c,rfl,q1⟩:=q1;cases r1;exact not_of (wcc ⟨.bl (!c),H1,I1,rfl,q1⟩)
end
def SqL (K:W.Frag)(H:Hp)(a:Addr)(xs:List V):Prop:=
 Rd H a (.lst xs)\/
  ∃(o:Obj) (its:Array Value) (n:Nat),K.lookup a=some o/\o.cls=.type "list"/\o.dict=none/\o.data=.seq its n/\its.size<=sizeLine/\Vals xs its.toList
def SqT (K:W.Frag)(H:Hp)(a:Addr)(xs:List V):Prop:=
 Rd H a (.tup xs)\/
  ∃(o:Obj) (its:Array Value) (n:Nat),K.lookup a=some o/\o.cls=.type "tuple"/\o.data=.seq its n/\its.size<=sizeLine/\Vals xs its.toList
def absV:Value->Option V
 | .none=>some .non
 | .bool b=>some (.bl b)
 | .int i _=>some (.int i)
 | .str x _=>some (.str x)
 | .bytes b _=>some (.byt b)
 | .float b _=>some (.flt b)
 | .ref a=>some (.ref a)
 | .type n=>some (.ty n)
 | _=>none
theorem RelV.abs {x:V}{u:Value}(r:RelV x u):absV u=some x:=by
 cases x with
 | non=>cases r;rfl
 | bl _=>cases r;rfl
 | int _=>obtain⟨t,rfl⟩:=r;rfl
 | str _=>obtain⟨t,rfl⟩:=r;rfl
 | byt _=>obtain⟨t,rfl⟩:=r;rfl
 | flt _=>obtain⟨t,rfl⟩:=r;rfl
 | ref _=>cases r;rfl
 | ty _=>cases r;rfl
theorem RelV.inj {x y:V}{u:Value}(r:RelV x u)(q:RelV y u):x=y:=wav (r.abs.symm.trans q.abs)
theorem Vals.inj:∀{xs ys:List V}{us:List Value},Vals xs us->Vals ys us->xs=ys
 | _,_,_,.nil,.nil=>rfl
 | _,_,_,.cons r t,.cons r' t'=>by rw[r.inj r',Vals.inj t t']
section
variable {X:Cx}{pins:List (Addr×Obj)}{σ:St}{H:Hp}{s:Shared}{a:Addr}{xs ys:List V}
theorem SqL.of {K:W.Frag}(h:H a=some (.lst xs)):SqL K H a xs:=.inl (.inl h)
theorem SqT.of {K:W.Frag}(h:H a=some (.tup xs)):SqT K H a xs:=.inl (.inl h)
theorem Inv.list (I:Inv X pins σ H s)(h:SqL X.K H a xs):∃its:List Value,Vals xs its/\PlainL s.heap a its.toArray/\xs.length<=sizeLine:=by
 rcases h with h | ⟨o,its,n,hk,hc,hd,hs,hz,r⟩
 ·obtain⟨z,its,n,r,e⟩:=h.ok I.hok;exact⟨its,r,⟨_,n,e,rfl,rfl,rfl⟩,z⟩
 ·refine⟨its.toList,r,⟨o,n,I.kIn a o hk,hc,hd,by simpa using hs⟩,?_⟩;have e:=r.length
  simp only[wcp] at e;omega
theorem Inv.tuple (I:Inv X pins σ H s)(h:SqT X.K H a xs):∃its:List Value,Vals xs its/\IsTup s.heap a its.toArray/\xs.length<=sizeLine:=by
 rcases h with h | ⟨o,its,n,hk,hc,hs,hz,r⟩
 ·obtain⟨z,its,r,p⟩:=h.ok I.hok;exact⟨its,r,p,z⟩
 ·refine⟨its.toList,r,⟨o,I.kIn a o hk,hc,n,by simpa using hs⟩,?_⟩;have e:=r.length
  simp only[wcp] at e;omega
theorem Inv.list_inj (I:Inv X pins σ H s)(h:SqL X.K H a xs)(h':SqL X.K H a ys):xs=ys:=by
 obtain⟨its,r,⟨o,n,e,_,_,d⟩,_⟩:=I.list h;obtain⟨its',r',⟨o',n',e',_,_,d'⟩,_⟩:=I.list h';rw[e] at e';cases e';rw[d] at d';injection d' with d1 _
 have:its=its':=by simpa using waZ Array.toList d1
 subst this;exact r.inj r'
theorem Inv.tuple_inj (I:Inv X pins σ H s)(h:SqT X.K H a xs)(h':SqT X.K H a ys):xs=ys:=by
 obtain⟨its,r,⟨o,e,_,n,d⟩,_⟩:=I.tuple h;obtain⟨its',r',⟨o',e',_,n',d'⟩,_⟩:=I.tuple h';rw[e] at e';cases e';rw[d] at d';injection d' with d1 _
 have:its=its':=by simpa using waZ Array.toList d1
 subst this;exact r.inj r'
end
abbrev Cx.wish (X:Cx)(E:Value->Shared->Prop):Cx:={X with xe:=E}
abbrev Cx.nox (X:Cx):Cx:=X.wish fun _ _=>False
theorem Cx.Ok.wish {X:Cx}(ok:X.Ok)(E:Value->Shared->Prop):(X.wish E).Ok:=
 ⟨ok.mod,ok.kind,ok.glob,ok.blt,ok.above,ok.inj,ok.has,ok.cab,ok.hd,ok.frames,ok.stk,ok.exf,ok.bs,ok.bsz,ok.noex,ok.exfs,ok.funs,ok.frf⟩
theorem Cx.Ok.unwish {X:Cx}{E:Value->Shared->Prop}(ok:(X.wish E).Ok):X.Ok:=
 ⟨ok.mod,ok.kind,ok.glob,ok.blt,ok.above,ok.inj,ok.has,ok.cab,ok.hd,ok.frames,ok.stk,ok.exf,ok.bs,ok.bsz,ok.noex,ok.exfs,ok.funs,ok.frf⟩
section
variable {X:Cx}{pins:List (Addr×Obj)}{σ:St}{H:Hp}{s:Shared}{E:Value->Shared->Prop}
theorem Inv.wish (I:Inv X pins σ H s)(E:Value->Shared->Prop):Inv (X.wish E) pins σ H s:=⟨I.ok.wish E,I.os,I.bare,I.base,I.loc,I.cell,I.free,I.freeC,I.pin,I.hok,I.len⟩
theorem Inv.unwish (I:Inv (X.wish E) pins σ H s):Inv X pins σ H s:=⟨I.ok.unwish,I.os,I.bare,I.base,I.loc,I.cell,I.free,I.freeC,I.pin,I.hok,I.len⟩
theorem SP.unwish {D:Ends}{f:Flow}{s':Shared}(h:SP (X.wish E) pins D f s'):SP X pins D f s':=by
 cases f with
 | next=>obtain⟨σ',H',I,q⟩:=h;exact⟨σ',H',I.unwish,q⟩
 | brk=>obtain⟨σ',H',I,q⟩:=h;exact⟨σ',H',I.unwish,q⟩
 | cont=>obtain⟨σ',H',I,q⟩:=h;exact⟨σ',H',I.unwish,q⟩
 | ret u=>obtain⟨v,σ',H',I,r,q⟩:=h;exact⟨v,σ',H',I.unwish,r,q⟩
theorem PSs.nox {st:List Stmt}{t:TS}(h:PSs X.nox st t):PSs X st t:=fun pins s σ H D I hw=>
 waz (h pins s σ H D (I.wish _) hw) (fun _ _ q=>q.unwish) fun _ _ z=>False.elim z
end
section
variable {X:Cx}{st:Stmt}{rest:List Stmt}{t u:TS}{e:Expr}{te:TE}{pos:Pos}
def znS:TS:=fun D σ H=>D.nx σ H
def tSeq (t u:TS):TS:=fun D σ H=>t {D with nx:=u D} σ H
theorem zgO:PSs X [] znS:=fun _ _ σ H _ I h=>wcq ⟨σ,H,I,h⟩
theorem zdP (h1:PS X st t)(h2:PSs X rest u):PSs X (st::rest) (tSeq t u):=by
 intro pins s σ H D I h;refine wpAny_execs_cons (thn (h1 pins s σ H {D with nx:=u D} I h) fun f s1 q=>?_);cases f with
 | next=>
   obtain⟨σ',H',I',q⟩:=q;exact h2 pins s1 σ' H' D I' q
 | ret v=>exact q
 | brk=>exact q
 | cont=>exact q
theorem zgP (h1:PS X st t):PSs X [st] t:=by
 intro pins s σ H D I h;refine wpAny_execs_cons (thn (h1 pins s σ H D I h) fun f s1 q=>?_);cases f with
 | next=>exact wcq q
 | ret v=>exact q
 | brk=>exact q
 | cont=>exact q
theorem Inv.quiet {pins:List (Addr×Obj)}{σ:St}{H:Hp}{s:Shared}(I:Inv X pins σ H s):interactive X.env=false:=by simp[interactive,I.ok.kind]
def zkm (te:TE):TS:=fun D σ H=>te σ H fun _ H1=>D.nx σ H1
theorem zfi (he:PE X e te)(hs:swapsWith e none pos.line X.env=pure false:=by rfl):PS X (.Expr e pos) (zkm te):=by
 intro pins s σ H D I h;exact wpAny_Expr_any (thn (he pins s σ H _ I h) fun v s1 ⟨x,H1,I1,r1,q1⟩ =>⟨σ,H1,I1,q1⟩) I.quiet hs
def tRet (te:TE):TS:=fun D σ H=>te σ H D.rt
theorem zgQ (he:PE X e te):PS X (.Return (some e) pos) (tRet te):=by
 intro pins s σ H D I h;exact wpAny_Return_some (thn (he pins s σ H _ I h) fun v s1 ⟨x,H1,I1,r1,q1⟩ =>⟨x,σ,H1,I1,r1,q1⟩)
def tIfS (c:TT)(t u:TS):TS:=fun D σ H=>c σ H fun b H1=>if b=true then t D σ H1 else u D σ H1
theorem zl4 {c:Expr}{a b:List Stmt}{tc:TT}(hc:PT X c tc)(ha:PSs X a t)(hb:PSs X b u):PS X (.If c a b pos) (tIfS tc t u):=by
 intro pins s σ H D I h;refine wpAny_If (thn (hc pins s σ H _ I h) fun d s1 ⟨H1,I1,q1⟩ =>?_);cases d with
 | true=>exact ha pins s1 σ H1 D I1 q1
 | false=>exact hb pins s1 σ H1 D I1 q1
def zjK:TS:=fun _ _ _=>False
theorem zfH:PS X st zjK:=fun _ _ _ _ _ _ h=>h.elim
end
abbrev TG:=V->St->Hp->(St->Hp->Prop)->Prop
abbrev TGs:=List V->St->Hp->(St->Hp->Prop)->Prop
def PG (X:Cx)(target:Expr)(t:TG):Prop:=
 ∀(pins:List (Addr×Obj)) (s:Shared) (σ:St) (H:Hp) (v:V) (u:Value) (Q:St->Hp->Prop),Inv X pins σ H s->RelV v u->t v σ H Q->
  wpAny (model X.prog X.w) X.A (assign target X.env u) (fun _ s'=>∃σ' H',Inv X pins σ' H' s'/\Q σ' H') X.xe s
def PGs (X:Cx)(ts:List Expr)(t:TGs):Prop:=
 ∀(pins:List (Addr×Obj)) (s:Shared) (σ:St) (H:Hp) (vs:List V) (us:List Value) (Q:St->Hp->Prop),Inv X pins σ H s->Vals vs us->t vs σ H Q->
  wpAny (model X.prog X.w) X.A (assignInOrder ((assignEach ts X.env).map (·.2)) us) (fun _ s'=>∃σ' H',Inv X pins σ' H' s'/\Q σ' H') X.xe s
abbrev TSet:=V->V->V->Hp->(Hp->Prop)->Prop
def PSet (X:Cx)(t:TSet):Prop:=
 ∀(pins:List (Addr×Obj)) (s:Shared) (σ:St) (H:Hp) (o i v:V) (ov iv u:Value) (Q:Hp->Prop),Inv X pins σ H s->RelV o ov->RelV i iv->RelV v u->t o i v H Q->
  wpAny (model X.prog X.w) X.A (setItem ov iv u) (fun _ s'=>∃H',Inv X pins σ H' s'/\Q H') X.xe s
section
variable {X:Cx}{pos:Pos}
def zdq (i:Nat):TG:=fun v σ H Q=>Q (σ.set i (some v)) H
theorem zfj {i:Nat}{x:Str}(hN:X.N.Nodup)(hi:X.N[i]?=some x)(hx:Loc X.env.scope x)(hf:X.fn x=true\/X.env.scope.names.lookup x=some .local:=by first | exact .inl rfl | exact .inr rfl | assumption):PG X (.Name x pos) (zdq i):=by
 intro pins s σ H v u Q I r h;exact wpAny_assign_Name (zdO I hN hi hx r (fun s' I'=>⟨_,H,I',h⟩) hf)
def gNil:TGs:=fun vs σ H Q=>vs = []/\Q σ H
def zl5 (t:TG)(u:TGs):TGs:=fun vs σ H Q=>∃v r,vs=v::r/\t v σ H fun σ' H'=>u r σ' H' Q
theorem zkn:PGs X [] gNil:=by
 intro pins s σ H vs us Q I r h;obtain⟨e,h⟩:=h;subst e;cases r;exact assignInOrder_nil ⟨σ,H,I,h⟩
theorem zio {e:Expr}{es:List Expr}{t:TG}{u:TGs}(h1:PG X e t)(h2:PGs X es u)
 (hs:(assignEach (e::es) X.env).map (·.2)=assign e X.env::(assignEach es X.env).map (·.2):=by rfl):PGs X (e::es) (zl5 t u):=by
 intro pins s σ H vs us Q I r h;obtain⟨v,vr,e1,h⟩:=h;subst e1;cases r with
 | cons r rr=>
   rw[hs];refine assignInOrder_cons (thn (h1 pins s σ H _ _ _ I r h) fun _ s1 ⟨σ1,H1,I1,q1⟩ =>?_);exact h2 pins s1 σ1 H1 _ _ Q I1 rr q1
def gTup (K:W.Frag)(n:Nat)(t:TGs):TG:=fun v σ H Q=>∃a xs,v=.ref a/\SqT K H a xs/\xs.length=n/\t xs σ H Q
theorem zl6 {es:List Expr}{k:Nat}{t:TGs}{n:Nat}(hc:X.calm=true)(h:PGs X es t)
 (hn:(assignEach es X.env).length=n:=by rfl) (hst:(assignEach es X.env).findIdx? (·.1)=none:=by rfl):PG X (.Tuple es k pos) (gTup X.K n t):=by
 intro pins s σ H v u Q I r hw;obtain⟨a,xs,e1,hq,hl,hw⟩:=hw;subst e1;cases r;obtain⟨its,rv,ht,hz⟩:=I.tuple hq;refine assign_Tuple_tuple (I.ok.hd hc) ht (by simp[hn,<-hl,rv.length]) hst fun h' hx=>?_
 have I1:Inv X pins σ H {s with heap:=h'}:=I.kept (t':=s.toks) fun b o e=>hx b o (wax (wae e)) e
 exact h pins _ σ H xs _ Q I1 (by simpa using rv) hw
def gSub (to ti:TE)(t:TSet):TG:=fun v σ H Q=>to σ H fun o H1=>ti σ H1 fun i H2=>t o i v H2 fun H3=>Q σ H3
theorem zjL {o i:Expr}{to ti:TE}{t:TSet}(ho:PE X o to)(hi:PE X i ti)(hs:PSet X t)
 (ha:∀v,assign (.Subscript o i pos) X.env v=(do
  let ov <-holding [v] (eval o X.env)
  let iv <-holding [v,ov] (eval i X.env)
  standAt pos
  holding [v,ov,iv] (setItem ov iv v)
  release [v,ov,iv] []):=by intro _;rfl):PG X (.Subscript o i pos) (gSub to ti t):=by
 intro pins s σ H v u Q I r h;rw[ha];refine waa (wbl (thn (ho pins s σ H _ I h) fun ov s1 ⟨x,H1,I1,r1,q1⟩ =>?_));refine waa (wbl (thn (hi pins s1 σ H1 _ I1 q1) fun iv s2 ⟨y,H2,I2,r2,q2⟩ =>?_));refine waa (wbu (waa (wbl (thn (hs pins s2 σ H2 x y v ov iv u _ I2 r1 r2 r q2) fun _ s3 ⟨H3,I3,q3⟩ =>?_))));exact wpAny_release ⟨σ,H3,I3,q3⟩
def tAsg (te:TE)(g:TG):TS:=fun D σ H=>te σ H fun x H1=>g x σ H1 D.nx
theorem zjM {tg e:Expr}{te:TE}{g:TG}(he:PE X e te)(hg:PG X tg g)(hs:swapsWithSole [tg] e pos.line X.env=pure false:=by rfl)(hw:swappedStores [tg] e X.env=pure none:=by rfl)
 (h1:(assignEach [tg] X.env).map (·.2) = [assign tg X.env]:=by rfl):PS X (.Assign [tg] e pos) (tAsg te g):=by
 intro pins s σ H D I h;refine wpAny_Assign_stores (thn (he pins s σ H _ I h) fun v s1 ⟨x,H1,I1,r1,q1⟩ =>?_) hs hw;rw[h1];exact thn (hg pins s1 σ H1 x v _ I1 r1 q1) fun _ s2 q=>q
theorem zeu {i:Nat}{x:Str}{e:Expr}{te:TE}{pos':Pos}(hN:X.N.Nodup)(hi:X.N[i]?=some x)(hx:Loc X.env.scope x)(he:PE X e te)(hs:swapsWith e (some (.Name x pos')) pos.line X.env=pure false:=by rfl)(hf:X.fn x=true\/X.env.scope.names.lookup x=some .local:=by first | exact .inl rfl | exact .inr rfl | assumption) :
 PS X (.Assign [.Name x pos'] e pos) (tAsg te (zdq i)):=by
 intro pins s σ H D I h;refine wpAny_Assign_Name (thn (he pins s σ H _ I h) fun v s1 ⟨y,H1,I1,r1,q1⟩ =>?_) hs;exact zdO I1 hN hi hx r1 (fun s2 I2=>⟨_,H1,I2,q1⟩) hf
end
section
variable {X:Cx}{pos:Pos}
end
structure It where
 go:Nat->Hp->Prop
 yld:Nat->Hp->V->Hp->Prop
 stop:Nat->Hp->Prop
def FpOk (X:Cx)(pins:List (Addr×Obj))(H:Hp)(b:Addr):Prop:=
 H b=none/\b≠X.env.locals/\b∉X.fs/\(b∈X.ex\/X.s₀.heap.objs.size<=b)/\(∀x c,X.env.cells.lookup x=some c->c≠b)/\∀p∈X.pn++pins,p.1≠b
theorem Inv.fpOk {X:Cx}{pins:List (Addr×Obj)}{σ:St}{H H':Hp}{s:Shared}{b:Addr}(I:Inv X pins σ H s)(hb:s.heap.objs.size<=b)(hn:H' b=none):FpOk X pins H' b:=by
 refine⟨hn,Nat.ne_of_gt (wah I.lt hb),I.nofs hb,.inr (wan I.sz hb),fun x c e z=>?_,fun p hp z=>?_⟩
 ·obtain⟨v,q⟩:=I.cell x c e;exact absurd (wah q.lt (by rw[z];exact hb)) (waN _)
 ·exact absurd (wah (wae (I.pin p hp).1) (by rw[z];exact hb)) (waN _)
structure Turn (P:Program)(w:World)(K:W.Frag)(tg:Expr)(J:It)(fp:List Addr)(it:Addr)(tn:Nat->Heap->Prop):Prop where
 mem:it∈fp
 obj:∀i h,tn i h->∀b∈fp,∃o,h.get? b=some o/\∀v,o.data≠.cell v
 keep:∀i h h',tn i h->(∀b∈fp,∀o,h.get? b=some o->h'.get? b=some o)->tn i h'
 item:∀(X:Cx),X.prog=P->X.w=w->X.K=K->X.calm=true->∀(i:Nat) (pins:List (Addr×Obj)) (s:Shared) (σ:St) (H:Hp) (E:Value->Shared->Prop),Inv X pins σ H s->(∀b∈fp,FpOk X pins H b)->tn i s.heap->J.go i H->
  wpAny (model P w) X.A (pyNext (.ref it)) (fun r s1=>∃u,r=some u/\
   wpAny (model P w) X.A (letOwnedTupleGo tg (.ref it) u) (fun _ s2=>∃x H',Inv X pins σ H' s2/\RelV x u/\J.yld i H x H'/\tn (i+1) s2.heap/\∀b∈fp,H' b=none) E s1) E s
 done:∀(X:Cx),X.prog=P->X.w=w->X.K=K->X.calm=true->∀(i:Nat) (pins:List (Addr×Obj)) (s:Shared) (σ:St) (H:Hp) (E:Value->Shared->Prop),Inv X pins σ H s->(∀b∈fp,FpOk X pins H b)->tn i s.heap->J.stop i H->
  wpAny (model P w) X.A (pyNext (.ref it)) (fun r s1=>r=none/\Inv X pins σ H s1) E s
 self:∀(A:Around) (i:Nat) (s:Shared) (Q:Value->Shared->Prop) (E:Value->Shared->Prop),tn i s.heap->Q (.ref it) s->wpAny (model P w) A (pyIter (.ref it)) Q E s
abbrev TI:=St->Hp->(It->Hp->Prop)->Prop
def PIE (X:Cx)(pins:List (Addr×Obj))(σ:St)(tg:Expr)(R:It->Hp->Prop)(itv:Value)(s2:Shared):Prop:=
 ∃(it:Addr) (fp:List Addr) (tn:Nat->Heap->Prop) (J:It) (H':Hp),itv=.ref it/\Inv X pins σ H' s2/\Turn X.prog X.w X.K tg J fp it tn/\tn 0 s2.heap/\(∀b∈fp,FpOk X pins H' b)/\R J H'
def PI (X:Cx)(tg iter:Expr)(wi:TI):Prop:=
 ∀(pins:List (Addr×Obj)) (s:Shared) (σ:St) (H:Hp) (R:It->Hp->Prop),Inv X pins σ H s->wi σ H R->
  wpAny (model X.prog X.w) X.A (eval iter X.env) (fun v s1=>wpAny (model X.prog X.w) X.A (pyIter v) (PIE X pins σ tg R) X.xe s1) X.xe s
theorem zgR {M:Model}{A:Around}{E:Value->Shared->Prop}{s:Shared}{tg:Expr}{it:Addr}{u:Value}{o:Obj}{n:String}{vs:Array Value}{Q:Unit->Shared->Prop}(ho:s.heap.get? it=some o)(hc:o.cls=.type n)(hd:o.data=.fields vs)
 (hn:["enumerate","zip","dict_itemiterator","dict_reverseitemiterator","odict_iterator","itertools.zip_longest","itertools.pairwise"].contains n=false) (hQ:Q () s):wpAny M A (letOwnedTupleGo tg (.ref it) u) Q E s:=by
 unfold letOwnedTupleGo;cases tg <;> first
  | exact wag hQ
  | (cases u <;> first
   | exact wag hQ
   | (refine waa (wpAny_load ho ?_)
      rw[hc,hd];show wpAny M A (if(["enumerate","zip","dict_itemiterator","dict_reverseitemiterator","odict_iterator","itertools.zip_longest","itertools.pairwise"].contains n&&vs[0]? == some (rawInt _))=true then _ else _) Q E s
      rw[if_neg (by intro h;rw[hn,Bool.false_and] at h;cases h)];exact wag hQ))
def Itl (K:W.Frag)(a:Addr):It:=
 ⟨fun i H=>∃xs x,SqL K H a xs/\xs[i]?=some x,fun i H x H'=>H'=H/\∀xs,SqL K H a xs->xs[i]?=some x,fun i H=>∃xs,SqL K H a xs/\xs.length<=i⟩
def Itt (K:W.Frag)(a:Addr):It:=
 ⟨fun i H=>∃xs x,SqT K H a xs/\xs[i]?=some x,fun i H x H'=>H'=H/\∀xs,SqT K H a xs->xs[i]?=some x,fun i H=>∃xs,SqT K H a xs/\xs.length<=i⟩
def Itr (lo:Int)(n:Nat):It:=⟨fun i _=>i<n,fun i H x H'=>H'=H/\x=.int (lo+i),fun i _=>n<=i⟩
theorem zgS {P:Program}{w:World}{K:W.Frag}{tg:Expr}(a it:Addr):Turn P w K tg (Itl K a) [it] it (fun i h=>h.IsListIter it a i) where
 mem:=by simp
 obj:=fun i h st b hb=>by
  have e:b=it:=by simpa using hb
  subst e;obtain⟨o,e,c,d⟩:=st;exact⟨o,e,fun v z=>by rw[d] at z;cases z⟩
 keep:=fun i h h' st k=>st.at fun o e=>k it (by simp) o e
 item:=by
  intro X hP hw hK hc i pins s σ H E I hf st hg;subst hP hw hK;obtain⟨xs,x,hq,hx⟩:=hg;obtain⟨its,rv,p,hz⟩:=I.list hq;obtain⟨u,hu,ru⟩:=rv.get hx;obtain⟨f0,f1,f2,f3,f4,f5⟩:=hf it (by simp);refine wpAny_pyNext_list_item st p.isList (x:=u) (by simpa using hu) fun h' st' sb=>?_
  have I1:Inv X pins σ H {s with heap:=h'}:=I.turned (t':=s.toks) (fun b o hb e=>(sb.2 b hb).trans e) f0 f1 f3 f4 f5
  obtain⟨o,e,c,d⟩:=id st';exact⟨u,rfl,zgR (s:={s with heap:=h'}) e c d (by decide) ⟨x,H,I1,ru,⟨rfl,fun ys hy=>by rw[I.list_inj hy hq];exact hx⟩,st',fun b hb=>(hf b hb).1⟩⟩
 done:=by
  intro X hP hw hK hc i pins s σ H E I hf st hg;subst hP hw hK;obtain⟨xs,hq,hx⟩:=hg;obtain⟨its,rv,p,hz⟩:=I.list hq;obtain⟨f0,f1,f2,f3,f4,f5⟩:=hf it (by simp);have hl:=rv.length
  exact wpAny_pyNext_list_end (I.ok.hd hc) st p.isList (by simp;omega) fun h' eb=>⟨rfl,I.turned (t':=s.toks) (fun b o hb e=>eb b o hb e) f0 f1 f3 f4 f5⟩
 self:=fun _ _ _ _ _ st h=>wpAny_pyIter_listiter st h
theorem zgn {P:Program}{w:World}{K:W.Frag}{tg:Expr}(a it:Addr):Turn P w K tg (Itt K a) [it] it (fun i h=>h.IsTupleIter it a i) where
 mem:=by simp
 obj:=fun i h st b hb=>by
  have e:b=it:=by simpa using hb
  subst e;obtain⟨o,e,c,d⟩:=st;exact⟨o,e,fun v z=>by rw[d] at z;cases z⟩
 keep:=fun i h h' st k=>st.at fun o e=>k it (by simp) o e
 item:=by
  intro X hP hw hK hc i pins s σ H E I hf st hg;subst hP hw hK;obtain⟨xs,x,hq,hx⟩:=hg;obtain⟨its,rv,p,hz⟩:=I.tuple hq;obtain⟨u,hu,ru⟩:=rv.get hx;obtain⟨f0,f1,f2,f3,f4,f5⟩:=hf it (by simp);refine wpAny_pyNext_tuple_item st (show s.heap.IsTuple a its.toArray from p) (x:=u) (by simpa using hu) fun h' st' sb=>?_
  have I1:Inv X pins σ H {s with heap:=h'}:=I.turned (t':=s.toks) (fun b o hb e=>(sb.2 b hb).trans e) f0 f1 f3 f4 f5
  obtain⟨o,e,c,d⟩:=id st';exact⟨u,rfl,zgR (s:={s with heap:=h'}) e c d (by decide) ⟨x,H,I1,ru,⟨rfl,fun ys hy=>by rw[I.tuple_inj hy hq];exact hx⟩,st',fun b hb=>(hf b hb).1⟩⟩
 done:=by
  intro X hP hw hK hc i pins s σ H E I hf st hg;subst hP hw hK;obtain⟨xs,hq,hx⟩:=hg;obtain⟨its,rv,p,hz⟩:=I.tuple hq;obtain⟨f0,f1,f2,f3,f4,f5⟩:=hf it (by simp);have hl:=rv.length
  exact wpAny_pyNext_tuple_end (I.ok.hd hc) st (show s.heap.IsTuple a its.toArray from p) (by simp;omega) fun h' eb=>⟨rfl,I.turned (t':=s.toks) (fun b o hb e=>eb b o hb e) f0 f1 f3 f4 f5⟩
 self:=fun _ _ _ _ _ st h=>wpAny_pyIter_tupleiter st h
theorem zgo {P:Program}{w:World}{K:W.Frag}{tg:Expr}(it:Addr)(lo:Int)(n:Nat):Turn P w K tg (Itr lo n) [it] it (fun i h=>IsRangeIter h it (lo+(i:Nat)*1) ((n:Int) - (i:Nat)) 1) where
 mem:=by simp
 obj:=fun i h st b hb=>by
  have e:b=it:=by simpa using hb
  subst e;exact⟨_,st,fun v z=>by
   have z':Data.fields _=Data.cell v:=z
   cases z'⟩
 keep:=fun i h h' st k=>k it (by simp) _ st
 item:=by
  intro X hP hw hK hc i pins s σ H E I hf st hg;subst hP hw hK;obtain⟨f0,f1,f2,f3,f4,f5⟩:=hf it (by simp);have W:=Walks.range (prog:=X.prog) (w:=X.w) (I.ok.hd hc) it lo 1 n
  refine W.item i s _ _ hg st fun v h' tk hv st' kk=>?_
  obtain⟨t,rfl⟩:=hv;have I1:Inv X pins σ H {s with heap:=h',toks:=tk}:=I.turned (fun b o hb e=>kk b o (by simpa using hb) e) f0 f1 f3 f4 f5
  refine⟨_,rfl,zgR (s:={s with heap:=h',toks:=tk}) (n:="range_iterator") st' rfl rfl (by decide) ⟨.int (lo+i),H,I1,⟨t,?_⟩,⟨rfl,rfl⟩,st',fun b hb=>(hf b hb).1⟩⟩;rw[Int.mul_one]
 done:=by
  intro X hP hw hK hc i pins s σ H E I hf st hg;subst hP hw hK;obtain⟨f0,f1,f2,f3,f4,f5⟩:=hf it (by simp);exact wpAny_pyNext_range_end (I.ok.hd hc) st (by have:n<=i:=hg;omega) fun h' eb=>⟨rfl,I.turned (t':=s.toks) (fun b o hb e=>eb b o hb e) f0 f1 f3 f4 f5⟩
 self:=fun _ _ _ _ _ st h=>wbZ st h
section
variable {X:Cx}{tg:Expr}
def znT (K:W.Frag)(tl:TE):TI:=fun σ H R=>tl σ H fun x H1=>∃a,x=.ref a/\(∃xs,SqL K H1 a xs)/\R (Itl K a) H1
def iTup (K:W.Frag)(tl:TE):TI:=fun σ H R=>tl σ H fun x H1=>∃a,x=.ref a/\(∃xs,SqT K H1 a xs)/\R (Itt K a) H1
theorem zko {l:Expr}{tl:TE}(hl:PE X l tl):PI X tg l (znT X.K tl):=by
 intro pins s σ H R I h;refine thn (hl pins s σ H _ I h) fun v s1 ⟨x,H1,I1,r1,q1⟩ =>?_
 obtain⟨a,e,⟨xs,hq⟩,q⟩:=q1;subst e;cases r1;obtain⟨its,rv,p,hz⟩:=I1.list hq;refine wpAny_pyIter_list p.isList ?_;refine⟨s1.heap.objs.size,[s1.heap.objs.size],_,_,H1,rfl,I1.kept (t':=s1.toks) fun b o e=>wab _ e,zgS a _,⟨_,war _ rfl,rfl,rfl⟩,fun b hb=>?_,q⟩;have e:b=s1.heap.objs.size:=by simpa using hb
 subst e;exact I1.fpOk (wam _) (I1.hok.fresh (wam _))
theorem zl7 {l:Expr}{tl:TE}(hl:PE X l tl):PI X tg l (iTup X.K tl):=by
 intro pins s σ H R I h;refine thn (hl pins s σ H _ I h) fun v s1 ⟨x,H1,I1,r1,q1⟩ =>?_
 obtain⟨a,e,⟨xs,hq⟩,q⟩:=q1;subst e;cases r1;obtain⟨its,rv,p,hz⟩:=I1.tuple hq;refine wbS (show s1.heap.IsTuple a its.toArray from p) ?_;refine⟨s1.heap.objs.size,[s1.heap.objs.size],_,_,H1,rfl,I1.kept (t':=s1.toks) fun b o e=>wab _ e,zgn a _,⟨_,war _ rfl,rfl,rfl⟩,fun b hb=>?_,q⟩;have e:b=s1.heap.objs.size:=by simpa using hb
 subst e;exact I1.fpOk (wam _) (I1.hok.fresh (wam _))
theorem ziq {pins:List (Addr×Obj)}{σ:St}{H:Hp}{s:Shared}{R:It->Hp->Prop}{E:Value->Shared->Prop}{lo hi:Int}{t u v:Tok}{tk:Nat}(I:Inv X pins σ H s)(h1:-(2 ^ 62)<=lo)(h2:lo<2 ^ 62)(h3:-(2 ^ 62)<=hi)(h4:hi<2 ^ 62)
 (q:R (Itr lo (hi - lo).toNat) H):wpAny (model X.prog X.w) X.A (pyIter (.ref s.heap.objs.size)) (PIE X pins σ tg R) E {s with heap:=s.heap.push {cls:=.type "range",data:=.fields #[.int lo t,.int hi u,.int 1 v]},toks:=tk}:=by
 refine wpAny_pyIter_range (IsRange.new ..) (small_one h1 h2 h3 h4) ?_;have I1:Inv X pins σ H {s with heap:=s.heap.push {cls:=.type "range",data:=.fields #[.int lo t,.int hi u,.int 1 v]},toks:=tk}:=I.kept fun b o e=>wab _ e
 refine⟨(s.heap.push {cls:=.type "range",data:=.fields #[.int lo t,.int hi u,.int 1 v]}).objs.size,[(s.heap.push {cls:=.type "range",data:=.fields #[.int lo t,.int hi u,.int 1 v]}).objs.size],_,_,H,rfl,
  I1.kept (t':=tk) fun b o e=>wab _ e,zgo _ lo (hi - lo).toNat,?_,fun b hb=>?_,q⟩
 ·have e1:lo+((0:Nat):Int)*1=lo:=by simp
  have e2:(((hi - lo).toNat:Nat):Int) - ((0:Nat):Int)=Builtin.Range.rangeSize lo hi 1:=by rw[rangeSize_one];split <;> omega
  show IsRangeIter _ _ (lo+((0:Nat):Int)*1) ((((hi - lo).toNat:Nat):Int) - ((0:Nat):Int)) 1
  rw[e1,e2];exact war _ rfl
 ·have e:b=(s.heap.push {cls:=.type "range",data:=.fields #[.int lo t,.int hi u,.int 1 v]}).objs.size:=by simpa using hb
  subst e;exact I1.fpOk (wam _) (I1.hok.fresh (wam _))
def znU (ta:TA):TI:=fun σ H R=>ta σ H fun vs H1=>∃j:Int,vs = [.int j]/\-(2 ^ 62)<=j/\j<2 ^ 62/\R (Itr 0 j.toNat) H1
theorem zgT {a:Expr}{ta:TA}{p pos:Pos}(hg:Gl X "range")(hm:X.mg "range"=none)(ha:PA X [a] ta)(hs:starEach [a] X.env = [(false,eval a X.env)]:=by rfl):PI X tg (.Call (.Name "range" p) [a] [] pos) (znU ta):=by
 intro pins s σ H R I h;refine Call_ (zb0 I hg hm boot_range (waK (thn (ha pos pins s σ H _ I h) fun us s1 ⟨vs,H1,I1,r1,q1⟩ =>?_) hs rfl));obtain⟨j,e,q1,q2,q⟩:=q1;subst e;cases r1 with
 | cons r rr=>
   cases rr;obtain⟨t,rfl⟩:=r;exact call_range_1 (ziq I1 (by omega) (by omega) q1 q2 (by simpa using q))
def tFor (wi:TI)(g:TG)(tb:TS):TS:=fun D σ H=>wi σ H fun J H1=>∃W:Nat->Nat->St->Hp->Prop,(∃m,W 0 m σ H1)/\∀i m σ H,W i m σ H->
 (J.stop i H/\D.nx σ H)\/(J.go i H/\∃N:St->Hp->Prop,(∀σ' H',N σ' H'->∃m',m'<m/\W (i+1) m' σ' H')/\∀x H',J.yld i H x H'->g x σ H' fun σ2 H2=>tb {D with nx:=N,ct:=N,bk:=D.nx} σ2 H2)
def zev (fp:List Addr)(h:Heap):List (Addr×Obj):=fp.filterMap fun b=>(h.get? b).map fun o=>(b,o)
theorem zaY {fp:List Addr}{h:Heap}{b:Addr}{o:Obj}(hb:b∈fp)(e:h.get? b=some o):(b,o)∈zev fp h:=List.mem_filterMap.mpr ⟨b,hb,by rw[e];rfl⟩
theorem zgU {fp:List Addr}{h:Heap}{p:Addr×Obj}(hp:p∈zev fp h):p.1∈fp/\h.get? p.1=some p.2:=by
 obtain⟨b,hb,e⟩:=List.mem_filterMap.mp hp;cases q:h.get? b with
 | none=>rw[q] at e;cases e
 | some o=>
   rw[q] at e;have e':(b,o)=p:=wav e
   subst e';exact⟨hb,q⟩
theorem Inv.pinned {pins:List (Addr×Obj)}{σ:St}{H:Hp}{s:Shared}{fp:List Addr}(I:Inv X pins σ H s)(hf:∀b∈fp,FpOk X pins H b)(ho:∀b∈fp,∃o,s.heap.get? b=some o/\∀v,o.data≠.cell v):Inv X (pins++zev fp s.heap) σ H s:=
 I.pins_of fun p hp=>(way.mp hp).elim (fun z=>I.pin p (was _ z)) fun z=>by
  obtain⟨hb,e⟩:=zgU z;obtain⟨f0,f1,f2,_⟩:=hf p.1 hb;obtain⟨o,e',d⟩:=ho p.1 hb;rw[e] at e';cases e';exact⟨e,f0,f1,f2,d⟩
theorem Inv.unpinned {pins pl:List (Addr×Obj)}{σ:St}{H:Hp}{s:Shared}(I:Inv X (pins++pl) σ H s):Inv X pins σ H s:=I.pins_of fun p hp=>I.pin p (was _ (wbL _ hp))
theorem zjN {iter:Expr}{body:List Stmt}{wi:TI}{g:TG}{tb:TS}{pos:Pos}(hp:PassesOwn (model X.prog X.w) X.A X.env X.xe)(hc:X.calm=true)(hi:PI X tg iter wi)(hg:PG X tg g)(hb:PSs X body tb)
 (hs:∀x,foldedSetIterable iter X.env x=pure x:=by intro _;rfl):PS X (.For tg iter body [] pos) (tFor wi g tb):=by
 intro pins s σ H D I h;refine wpAny_For (thn (hi pins s σ H _ I h) fun v s1 h1=>thn h1 fun itv s2 h2=>?_) hs;obtain⟨it,fp,tn,J,H2,e,I2,T,st2,f2,W,⟨m0,w0⟩,turn⟩:=h2;subst e;have stat:∀{H':Hp},(∀b∈fp,H' b=none)->∀b∈fp,FpOk X pins H' b:=fun hn b hb=>⟨hn b hb,(f2 b hb).2⟩
 refine codeAny_forLoop_any (fun n s'=>∃i σ' H',Inv X pins σ' H' s'/\tn i s'.heap/\(∀b∈fp,H' b=none)/\W i n σ' H') ?_ m0 ⟨0,σ,H2,I2,st2,fun b hb=>(f2 b hb).1,w0⟩;rintro n s3 ⟨i,σ3,H3,I3,st3,fr3,w3⟩;rcases turn i n σ3 H3 w3 with⟨stop,qn⟩ | ⟨go,N,hN,step⟩
 ·refine wbT hp (thn (T.done X rfl rfl rfl hc i pins s3 σ3 H3 X.xe I3 (stat fr3) st3 stop) fun r s4 ⟨hr,I4⟩ =>?_);subst hr;exact wcq ⟨σ3,H3,I4,qn⟩
 ·refine wbT hp (thn (T.item X rfl rfl rfl hc i pins s3 σ3 H3 X.xe I3 (stat fr3) st3 go) fun r s4 ⟨u,hr,h4⟩ =>?_);subst hr;refine wbT hp (thn h4 fun _ s5 ⟨x,H5,I5,r5,y5,st5,fr5⟩ =>?_);have I5':=I5.pinned (stat fr5) (T.obj _ _ st5)
  refine wbT hp (thn (hg _ s5 σ3 H5 x u _ I5' r5 (step x H5 y5)) fun _ s6 ⟨σ6,H6,I6,q6⟩ =>?_);refine wbT hp (thn (hb _ s6 σ6 H6 _ I6 q6) fun f s7 q7=>?_);have again:∀{σ7:St}{H7:Hp},Inv X (pins++zev fp s5.heap) σ7 H7 s7->N σ7 H7->∃m,m<n/\∃i σ' H',Inv X pins σ' H' s7/\tn i s7.heap/\(∀b∈fp,H' b=none)/\W i m σ' H':=fun {σ7 H7} I7 n7=>by
   obtain⟨m',hm,w7⟩:=hN σ7 H7 n7;refine⟨m',hm,i+1,σ7,H7,I7.unpinned,T.keep _ _ _ st5 fun b hb o e=>(I7.pin (b,o) (was _ (was _ (zaY hb e)))).1,fun b hb=>?_,w7⟩;obtain⟨o,e,d⟩:=T.obj _ _ st5 b hb;exact(I7.pin (b,o) (was _ (was _ (zaY hb e)))).2.1
  cases f with
  | next=>obtain⟨σ7,H7,I7,n7⟩:=q7;exact again I7 n7
  | cont=>obtain⟨σ7,H7,I7,n7⟩:=q7;exact again I7 n7
  | brk=>obtain⟨σ7,H7,I7,q7⟩:=q7;exact⟨σ7,H7,I7.unpinned,q7⟩
  | ret v=>obtain⟨x7,σ7,H7,I7,r7,q7⟩:=q7;exact⟨x7,σ7,H7,I7.unpinned,r7,q7⟩
end
abbrev R2:=V->V->Hp->VK->Prop
def OpR (X:Cx)(f:Value->Value->Sem Value)(r:R2):Prop:=
 ∀(pins:List (Addr×Obj)) (s:Shared) (σ:St) (H:Hp) (x y:V) (v u:Value) (Q:VK),Inv X pins σ H s->RelV x v->RelV y u->r x y H Q->
  wpAny (model X.prog X.w) X.A (f v u) (EP X pins σ Q) X.xe s
def UnR (X:Cx)(f:Value->Sem Value)(r:V->Hp->VK->Prop):Prop:=
 ∀(pins:List (Addr×Obj)) (s:Shared) (σ:St) (H:Hp) (x:V) (v:Value) (Q:VK),Inv X pins σ H s->RelV x v->r x H Q->
  wpAny (model X.prog X.w) X.A (f v) (EP X pins σ Q) X.xe s
def zcc (X:Cx)(f:Value)(r:List V->Hp->VK->Prop):Prop:=
 ∀(pins:List (Addr×Obj)) (s:Shared) (σ:St) (H:Hp) (xs:List V) (us:List Value) (Q:VK),Inv X pins σ H s->Vals xs us->r xs H Q->
  wpAny (model X.prog X.w) X.A (call f us) (EP X pins σ Q) X.xe s
def TruR (X:Cx)(r:V->Hp->(Bool->Hp->Prop)->Prop):Prop:=
 ∀(pins:List (Addr×Obj)) (s:Shared) (σ:St) (H:Hp) (x:V) (v:Value) (Q:Bool->Hp->Prop),Inv X pins σ H s->RelV x v->r x H Q->
  wpAny (model X.prog X.w) X.A (truthy v) (TP X pins σ Q) X.xe s
def tOp (r:R2)(ta tb:TE):TE:=fun σ H Q=>ta σ H fun x H1=>tb σ H1 fun y H2=>r x y H2 Q
def tUn (r:V->Hp->VK->Prop)(ta:TE):TE:=fun σ H Q=>ta σ H fun x H1=>r x H1 Q
def rI (C:Int->Int->Prop)(g:Int->Int->V):R2:=fun x y H Q=>∃i j,x=.int i/\y=.int j/\C i j/\Q (g i j) H
def rI0 (g:Int->Int->V):R2:=fun x y H Q=>∃i j,x=.int i/\y=.int j/\Q (g i j) H
def rU (g:Int->V):V->Hp->VK->Prop:=fun x H Q=>∃i,x=.int i/\Q (g i) H
section
variable {X:Cx}{a b c:Expr}{ta tb tc:TE}{pos:Pos}
theorem binT (ha:PE X a ta)(hb:PE X b tb){pins:List (Addr×Obj)}{s:Shared}{σ:St}{H:Hp}{R:V->V->Hp->Prop}(I:Inv X pins σ H s)
 (h:ta σ H fun x H1=>tb σ H1 fun y H2=>R x y H2) {Q:Value->Shared->Prop}{f:Value->Value->Sem Value}
 (hf:∀v u s2 x y H2,Inv X pins σ H2 s2->RelV x v->RelV y u->R x y H2->wpAny (model X.prog X.w) X.A (f v u) Q X.xe s2) :
 wpAny (model X.prog X.w) X.A (eval a X.env) (fun v s₁=>wpAny (model X.prog X.w) X.A (eval b X.env) (fun u s₂=>wpAny (model X.prog X.w) X.A (f v u) Q X.xe s₂) X.xe s₁) X.xe s:=by
 refine thn (ha pins s σ H _ I h) fun v s1 ⟨x,H1,I1,r1,q1⟩ =>?_
 refine thn (hb pins s1 σ H1 _ I1 q1) fun u s2 ⟨y,H2,I2,r2,q2⟩ =>?_
 exact hf v u s2 x y H2 I2 r1 r2 q2
theorem zl8 {op:Operator}{r:R2}(ho:OpR X (binaryOp op) r)(ha:PE X a ta)(hb:PE X b tb):PE X (.BinOp a op b pos) (tOp r ta tb):=by
 intro pins s σ H Q I h;exact wpAny_BinOp (binT ha hb I h fun v u s2 x y H2 I2 rx ry q=>ho pins s2 σ H2 x y v u Q I2 rx ry q)
theorem znV {op:UnaryOp}{r:V->Hp->VK->Prop}(ho:UnR X (unaryOp op) r)(ha:PE X a ta):PE X (.UnaryOp op a pos) (tUn r ta):=by
 intro pins s σ H Q I h;exact UnaryOp_ (thn (ha pins s σ H _ I h) fun v s1 ⟨x,H1,I1,r1,q1⟩ =>ho pins s1 σ H1 x v Q I1 r1 q1)
theorem opI {f:Value->Value->Sem Value}{C:Int->Int->Prop}{g:Int->Int->Int}
 (rule:∀(i j:Int) (t u:Tok) (s:Shared) (Q:Value->Shared->Prop) (E:Value->Shared->Prop),C i j->Q (.int (g i j) s.toks) {s with toks:=s.toks+1}->wpAny (model X.prog X.w) X.A (f (.int i t) (.int j u)) Q E s) :
 OpR X f (rI C fun i j=>.int (g i j)):=by
 intro pins s σ H x y v u Q I rx ry h;obtain⟨i,j,rfl,rfl,hc,q⟩:=h;obtain⟨t,rfl⟩:=rx;obtain⟨t',rfl⟩:=ry;exact rule i j t t' s _ _ hc ⟨.int (g i j),H,I.tok _,⟨_,rfl⟩,q⟩
theorem opI0 {f:Value->Value->Sem Value}{g:Int->Int->Int}
 (rule:∀(i j:Int) (t u:Tok) (s:Shared) (Q:Value->Shared->Prop) (E:Value->Shared->Prop),Q (.int (g i j) s.toks) {s with toks:=s.toks+1}->wpAny (model X.prog X.w) X.A (f (.int i t) (.int j u)) Q E s) :
 OpR X f (rI0 fun i j=>.int (g i j)):=by
 intro pins s σ H x y v u Q I rx ry h;obtain⟨i,j,rfl,rfl,q⟩:=h;obtain⟨t,rfl⟩:=rx;obtain⟨t',rfl⟩:=ry;exact rule i j t t' s _ _ ⟨.int (g i j),H,I.tok _,⟨_,rfl⟩,q⟩
theorem opB0 {f:Value->Value->Sem Value}{g:Int->Int->Bool}
 (rule:∀(i j:Int) (t u:Tok) (s:Shared) (Q:Value->Shared->Prop) (E:Value->Shared->Prop),Q (.bool (g i j)) s->wpAny (model X.prog X.w) X.A (f (.int i t) (.int j u)) Q E s) :
 OpR X f (rI0 fun i j=>.bl (g i j)):=by
 intro pins s σ H x y v u Q I rx ry h;obtain⟨i,j,rfl,rfl,q⟩:=h;obtain⟨t,rfl⟩:=rx;obtain⟨t',rfl⟩:=ry;exact rule i j t t' s _ _ ⟨.bl (g i j),H,I,rfl,q⟩
def CDiv (i j:Int):Prop:=0<j/\j<1073741824
def CPow (i j:Int):Prop:=0<=j/\j<=1000000/\i.natAbs<2 ^ 64
def CMul (i j:Int):Prop:=(-(2 ^ 64)<i/\i<2 ^ 64)\/(-(2 ^ 64)<j/\j<2 ^ 64)
theorem CMul.ok {i j:Int}(h:CMul i j):IntMulOk i j:=by
 rcases h with⟨h1,h2⟩ | ⟨h1,h2⟩
 ·exact .of_left (intBits_le_64 h1 h2)
 ·exact .of_right (intBits_le_64 h1 h2)
theorem op_add:OpR X (binaryOp .Add) (rI0 fun i j=>.int (i+j)):=opI0 fun _ _ _ _ _ _ _ q=>add_int q
theorem zl9:OpR X (binaryOp .Sub) (rI0 fun i j=>.int (i - j)):=opI0 fun _ _ _ _ _ _ _ q=>sub_int q
theorem op_mul:OpR X (binaryOp .Mult) (rI CMul fun i j=>.int (i*j)):=opI fun _ _ _ _ _ _ _ hc q=>mul_int q hc.ok
theorem zgV:OpR X (binaryOp .FloorDiv) (rI CDiv fun i j=>.int (i / j)):=opI fun i j _ _ _ _ _ hc q=>by
 have h1:(0:Int)<j:=hc.1
 have h2:j<1073741824:=hc.2
 exact floordiv_int (by omega) (by rw[Int.fdiv_eq_ediv_of_nonneg i (by omega)];exact q) (.inl (PyProof.noPylong_small (by omega)))
theorem zcK:OpR X (binaryOp .Mod) (rI (fun _ j=>0<j) fun i j=>.int (i % j)):=opI fun i j _ _ _ _ _ hc q=>by
 have h1:(0:Int)<j:=hc
 exact mod_int' (by omega) (by rw[Int.fmod_eq_emod_of_nonneg i (by omega)];exact q)
theorem zma:OpR X (binaryOp .Pow) (rI CPow fun i j=>.int (i ^ j.toNat)):=opI fun _ _ _ _ _ _ _ hc q=>pow_int_small hc.1 hc.2.1 hc.2.2 q
theorem unI {f:Value->Sem Value}{g:Int->Int}
 (rule:∀(i:Int) (t:Tok) (s:Shared) (Q:Value->Shared->Prop) (E:Value->Shared->Prop),Q (.int (g i) s.toks) {s with toks:=s.toks+1}->wpAny (model X.prog X.w) X.A (f (.int i t)) Q E s) :
 UnR X f (rU fun i=>.int (g i)):=by
 intro pins s σ H x v Q I rx h;obtain⟨i,rfl,q⟩:=h;obtain⟨t,rfl⟩:=rx;exact rule i t s _ _ ⟨.int (g i),H,I.tok _,⟨_,rfl⟩,q⟩
theorem zmb:UnR X (unaryOp .USub) (rU fun i=>.int (-i)):=unI fun _ _ _ _ _ q=>neg_int q
end
theorem zdQ {i j:Int}:decide (V.int i=V.int j)=(i == j):=by
 rw[wbb];simp
theorem zfI {i j:Bool}:decide (V.bl i=V.bl j)=(i == j):=by
 rw[wbb];simp
theorem zdR {i j:Str}:decide (V.str i=V.str j)=(i == j):=by
 rw[wbb];simp
section
variable {X:Cx}{a b c:Expr}{ta tb tc:TE}{pos:Pos}
theorem zmc {pins:List (Addr×Obj)}{σ:St}{H:Hp}{s:Shared}{Q:VK}{k k':Bool}(I:Inv X pins σ H s)(q:Q (.bl k) H)(e:k=k'):EP X pins σ Q (.bool k') s:=by
 subst e;exact⟨.bl k,H,I,rfl,q⟩
theorem znW:OpR X (compareOp .GtE) (rI0 fun i j=>.bl (decide (j<=i))):=opB0 fun _ _ _ _ _ _ _ q=>ge_int q
theorem zmd:OpR X (compareOp .Is) (fun x y H Q=>y=.non/\Q (.bl (decide (x=.non))) H):=by
 intro pins s σ H x y v u Q I rx ry h;obtain⟨rfl,q⟩:=h;cases ry;refine is_none_gen (zmc I q ?_);cases x <;> first
  | (cases rx;rfl)
  | (obtain⟨t,rfl⟩:=rx;rfl)
theorem OpR.or {f:Value->Value->Sem Value}{r r':R2}(h:OpR X f r)(h':OpR X f r'):OpR X f (fun x y H Q=>r x y H Q\/r' x y H Q):=by
 intro pins s σ H x y v u Q I rx ry q;rcases q with q | q
 ·exact h pins s σ H x y v u Q I rx ry q
 ·exact h' pins s σ H x y v u Q I rx ry q
theorem zbB (b:Expr){op:CmpOp}(h:op≠.In:=by decide)(h2:op≠.NotIn:=by decide):behindInMarks op b=false:=by
 have e1:(op == CmpOp.In)=false:=by cases op <;> first | rfl | exact absurd rfl h
 have e2:(op == CmpOp.NotIn)=false:=by cases op <;> first | rfl | exact absurd rfl h2
 cases b <;> simp[behindInMarks,e1,e2]
theorem zkp {op:CmpOp}{r:R2}(ho:OpR X (compareOp op) r)(ha:PE X a ta)(hb:PE X b tb)(hm:behindInMarks op b=false):PE X (.Compare a [op] [b] pos) (tOp r ta tb):=by
 intro pins s σ H Q I h;exact wpAny_Compare1 (binT ha hb I h fun v u s2 x y H2 I2 rx ry q=>ho pins s2 σ H2 x y v u Q I2 rx ry q) hm
def zme (t:TE):TT:=fun σ H Q=>t σ H fun x H'=>∃k,x=.bl k/\Q k H'
theorem zkq {op:CmpOp}{r:R2}(ho:OpR X (compareOp op) r)(ha:PE X a ta)(hb:PE X b tb)(hm:behindInMarks op b=false):PT X (.Compare a [op] [b] pos) (zme (tOp r ta tb)):=by
 intro pins s σ H Q I h;refine wpAny_isTrue_Compare1 (thn (ha pins s σ H _ I h) fun v s1 ⟨x,H1,I1,r1,q1⟩ =>thn (hb pins s1 σ H1 _ I1 q1) fun u s2 ⟨y,H2,I2,r2,q2⟩ =>
  thn (ho pins s2 σ H2 x y v u _ I2 r1 r2 q2) fun c s3 ⟨z,H3,I3,r3,k,e,q3⟩ =>?_) hm
 subst e;cases r3;exact wcc ⟨H3,I3,q3⟩
def TruV (K:W.Frag)(x:V)(H:Hp)(k:Bool):Prop:=
 match x with
 | .non=>k=false
 | .bl b=>k=b
 | .int i=>k=(i != 0)
 | .str y=>y.length<=sizeLine/\k=((y.length:Int) != 0)
 | .byt y=>y.size<=sizeLine/\k=((y.size:Int) != 0)
 | .ref p=>(∃xs,SqL K H p xs/\k = !xs.isEmpty)\/(∃xs,SqT K H p xs/\k = !xs.isEmpty)\/∃kvs,H p=some (.dK kvs)/\k = !kvs.isEmpty
 | _=>False
theorem zgp {κ:Type}{kvs:List (κ×V)}{vs:List (κ×Value)}(r:KV kvs vs):(!vs.isEmpty) = !kvs.isEmpty:=by
 cases r <;> rfl
theorem zdx {xs:List V}{its:List Value}(r:Vals xs its):(!its.toArray.isEmpty) = !xs.isEmpty:=by
 cases r <;> simp
theorem zc2:(sizeLine:Nat)<2 ^ 63:=by rw[sizeLine_eq];decide
theorem zmf:TruR X (fun x H Q=>∃k,TruV X.K x H k/\Q k H):=by
 intro pins s σ H x v Q I rx h;obtain⟨k,e,q⟩:=h;have hl:=zc2
 have hs:sizeLine=16777216:=sizeLine_eq
 cases x with
 | non=>
   cases rx;have e':k=false:=e
   subst e';exact truthy_none ⟨H,I,q⟩
 | bl b=>
   cases rx;have e':k=b:=e
   subst e';exact wcc ⟨H,I,q⟩
 | int i=>
   obtain⟨t,rfl⟩:=rx;have e':k=(i != 0):=e
   subst e';exact PySem.P.truthy_int ⟨H,I,q⟩
 | str y=>
   obtain⟨t,rfl⟩:=rx;obtain⟨hy,e'⟩:y.length<=sizeLine/\k=((y.length:Int) != 0):=e;subst e';exact PySem.P.truthy_str (by omega) ⟨H,I.tok _,q⟩
 | byt y=>
   obtain⟨t,rfl⟩:=rx;obtain⟨hy,e'⟩:y.size<=sizeLine/\k=((y.size:Int) != 0):=e;subst e';exact PySem.W.truthy_bytes (by omega) ⟨H,I.tok _,q⟩
 | ref p=>
   cases rx;have e':(∃xs,SqL X.K H p xs/\k = !xs.isEmpty)\/(∃xs,SqT X.K H p xs/\k = !xs.isEmpty)\/∃kvs,H p=some (.dK kvs)/\k = !kvs.isEmpty:=e
   rcases e' with⟨xs,hx,e'⟩ | ⟨xs,hx,e'⟩ | ⟨kvs,hx,e'⟩
   ·subst e';obtain⟨its,r,pl,hz⟩:=I.list hx;have hlen:=r.length
    exact wpAny_truthy_list pl.isList (by simp only[wac];omega) ⟨H,I.tok _,by rw[zdx r];exact q⟩
   ·subst e';obtain⟨its,r,pl,hz⟩:=I.tuple hx;have hlen:=r.length
    exact truthy_tuple pl (by simp only[wac];omega) ⟨H,I.tok _,by rw[zdx r];exact q⟩
   ·subst e';obtain⟨hz,hS,vs,r,m⟩:kvs.length<=sizeLine/\(p == sysModules)=false/\∃vs,KV kvs vs/\s.heap.DictOf (za2 X.prog X.w) p vs:=I.hok p _ hx;have hlen:kvs.length=vs.length:=Paired.length r
    exact wpAny_truthy_dict hS m (by omega) ⟨H,I.tok _,by rw[zgp r];exact q⟩
 | _=>exact(show False from e).elim
theorem zir (ha:PE X a ta)(he:∀whole,isTrue a X.env whole=(do let v <-whole;standAt a.pos;holding [v] (truthy v))) :
 PT X a (fun σ H Q=>ta σ H fun x H'=>∃k,TruV X.K x H' k/\Q k H'):=by
 intro pins s σ H Q I h;exact isTrue_plain (thn (ha pins s σ H _ I h) fun v s1 ⟨x,H1,I1,r1,q1⟩ =>zmf pins s1 σ H1 x v Q I1 r1 q1) (he _)
theorem op_add_str:OpR X (binaryOp .Add) (fun x y H Q=>∃i j,x=.str i/\y=.str j/\i.length+j.length<=sizeLine/\Q (.str (i++j)) H):=by
 intro pins s σ H x y v u Q I rx ry h;obtain⟨i,j,rfl,rfl,hz,q⟩:=h;obtain⟨t,rfl⟩:=rx;obtain⟨t',rfl⟩:=ry;exact add_str (fun t' tk=>⟨.str (i++j),H,I.tok _,⟨_,rfl⟩,q⟩) hz
theorem zis {x:V}{us:List Value}(r:Vals [x] us):∃u,us = [u]/\RelV x u:=by
 cases r with
 | cons r1 r2=>cases r2;exact⟨_,rfl,r1⟩
theorem zit {x y:V}{us:List Value}(r:Vals [x,y] us):∃u w',us = [u,w']/\RelV x u/\RelV y w':=by
 cases r with
 | cons r1 r2=>
   cases r2 with
   | cons r3 r4=>cases r4;exact⟨_,_,rfl,r1,r3⟩
theorem zgW (hc:X.calm=true):zcc X (.builtin "min") (fun xs H Q=>∃i j,xs = [.int i,.int j]/\Q (.int (if j<i then j else i)) H):=by
 intro pins s σ H xs us Q I r h;obtain⟨i,j,rfl,q⟩:=h;obtain⟨u,w',rfl,⟨t,rfl⟩,⟨t',rfl⟩⟩:=zit r;refine min_two_ints (I.ok.hd hc) fun h' tk k=>⟨_,H,I.kept k,?_,q⟩
 by_cases hj:j<i
 ·rw[if_pos hj,if_pos hj];exact⟨_,rfl⟩
 ·rw[if_neg hj,if_neg hj];exact⟨_,rfl⟩
def LenV (K:W.Frag)(x:V)(H:Hp)(n:Nat):Prop:=
 match x with
 | .str y=>y.length<=sizeLine/\n=y.length
 | .byt y=>y.size<=sizeLine/\n=y.size
 | .ref p=>(∃xs,SqL K H p xs/\n=xs.length)\/∃xs,SqT K H p xs/\n=xs.length
 | _=>False
theorem zfJ:zcc X (.builtin "len") (fun xs H Q=>∃x n,xs = [x]/\LenV X.K x H n/\Q (.int n) H):=by
 intro pins s σ H xs us Q I r h;obtain⟨x,n,rfl,e,q⟩:=h;obtain⟨u,rfl,rx⟩:=zis r;have hl:=zc2
 have hs:sizeLine=16777216:=sizeLine_eq
 cases x with
 | str y=>
   obtain⟨t,rfl⟩:=rx;obtain⟨hy,e'⟩:y.length<=sizeLine/\n=y.length:=e;subst e';exact len_str (by omega) ⟨.int _,H,I.tok _,⟨_,rfl⟩,q⟩
 | byt y=>
   obtain⟨t,rfl⟩:=rx;obtain⟨hy,e'⟩:y.size<=sizeLine/\n=y.size:=e;subst e';exact PySem.W.len_bytes (by omega) ⟨.int _,H,I.tok _,⟨_,rfl⟩,q⟩
 | ref p=>
   cases rx;have e':(∃xs,SqL X.K H p xs/\n=xs.length)\/∃xs,SqT X.K H p xs/\n=xs.length:=e
   rcases e' with⟨xs,hx,e'⟩ | ⟨xs,hx,e'⟩
   ·subst e';obtain⟨its,r',pl,hz⟩:=I.list hx;have hlen:=r'.length
    exact Calls.call_len_list pl.isList (by simp only[wac];omega) ⟨.int xs.length,H,I.tok _,⟨_,by simp only[wac];rw[hlen]⟩,q⟩
   ·subst e';obtain⟨its,r',pl,hz⟩:=I.tuple hx;have hlen:=r'.length
    exact len_tuple pl (by simp only[wac];omega) ⟨.int xs.length,H,I.tok _,⟨_,by simp only[wac];rw[hlen]⟩,q⟩
 | _=>exact(show False from e).elim
end
structure ObjM (h:Heap)(x dx C:Addr)(mA:Str->Option Value):Prop where
 obj:h.get? x=some (PySem.W.instObj C dx)
 ns:h.Ns1 dx mA
 ne:dx≠x
theorem zgX {h:Heap}{dx:Addr}{mA:Str->Option Value}(n:h.Ns1 dx mA):∃od,h.get? dx=some od/\∀name,PySem.W.lookIn name od=some (mA name):=by
 obtain⟨o,es,ep,ho,hd,hk,_,hm⟩:=n;refine⟨o,ho,fun name=>?_⟩;have e:=hm name
 unfold nsFind findBy at e;rw[<-Array.find?_toList] at e;unfold PySem.W.lookIn;rw[hd];dsimp only;split
 ·rename_i y q
  rw[q] at e;exact waZ some e
 ·rename_i q
  rw[q] at e;have a:es.toList.any (·.refKey)=false:=by
   rw[List.any_eq_false];intro y hy;obtain⟨z,t,hkey⟩:=hk y (Array.mem_toList_iff.mp hy);simp[DictEntry.refKey,hkey]
  have a':¬es.toList.any (·.refKey)=true:=by rw[a];exact wbz
  rw[if_neg a'];exact waZ some e
theorem ObjM.look {h:Heap}{x dx C:Addr}{mA:Str->Option Value}(I:ObjM h x dx C mA):∃od,PySem.W.InstAt h x (PySem.W.instObj C dx) C (some od)/\∀name,PySem.W.lookIn name od=some (mA name):=
 let ⟨od,ho,hl⟩:=zgX I.ns
 ⟨od,⟨I.obj,rfl,rfl,ho⟩,hl⟩
section
variable {prog:Program}{w:World}{A:Around}{E:Value->Shared->Prop}{s:Shared}{K:W.Frag}{x dx C f:Addr}{mA:Str->Option Value}{name:Str}{v:Value}
end
section
variable {P:Program}{w:World}{H H':Hp}{h h':Heap}{a C dx:Addr}{fs fs':List (Str×V)}
theorem zkr (hok:HOk P w H h)(e:H a=some (.ins C dx fs)):∃mA,ObjM h a dx C mA/\(∀f,RelO (fs.lookup f) (mA f))/\PySem.Within mA (fs.map (·.1))/\fs.length<=1000/\H dx=some (.own a):=by
 obtain⟨d,z,ne,ob,mA,n,r,q⟩:=(show ObjOk P w H h a (.ins C dx fs) from hok a _ e)
 exact⟨mA,⟨ob,n,ne⟩,r,q,z,d⟩
end
structure Cls (K:W.Frag)(C:Addr):Prop where
 pg:PySem.W.plainGet K C Str.empty=true
 hd:PySem.W.hasDictIn K C=true
 po:PySem.W.plainOver K C=true
 sa:PySem.W.findIn K (.ref C) "__setattr__"=some (some (.builtin "object.__setattr__"))
theorem Cls.get {K:W.Frag}{C:Addr}(c:Cls K C)(f:Str):PySem.W.plainGet K C f=true:=c.pg
section
variable {X:Cx}{pins:List (Addr×Obj)}{σ:St}{H:Hp}{s:Shared}{a C dx:Addr}{fs:List (Str×V)}{f:Str}{v:V}{A:Around}{E:Value->Shared->Prop}
theorem zks {prog:Program}{w:World}{env:Env}{e:Expr}{f:Str}{pos:Pos}{s:Shared}{Q:Value->Shared->Prop}(hb:attributeBase e f env (eval e env)=eval e env)
 (h:wpAny (model prog w) A (eval e env) (fun o s₁=>wpAny (model prog w) A (getAttr o f true) Q E s₁) E s):wpAny (model prog w) A (eval (.Attribute e f pos) env) Q E s:=
 Attribute_any_ h (by rw[arm_eval_Attribute,hb])
end
section
variable {X:Cx}{o e value:Expr}{f:Str}{pos pos' tpos:Pos}{ta tv:TE}
end
section
variable {X:Cx}{pins:List (Addr×Obj)}{σ:St}{H:Hp}{s:Shared}{A:Around}{E:Value->Shared->Prop}{Q:Value->Shared->Prop}{c:Value}{b:Bool}
inductive TyOf (K:W.Frag)(H:Hp):V->Value->Prop where
 | non:TyOf K H .non (.type "NoneType")
 | bl (x:Bool):TyOf K H (.bl x) (.type "bool")
 | int (i:Int):TyOf K H (.int i) (.type "int")
 | str (x:Str):TyOf K H (.str x) (.type "str")
 | flt (x:UInt64):TyOf K H (.flt x) (.type "float")
 | lst {a:Addr}{xs:List V}(e:H a=some (.lst xs)):TyOf K H (.ref a) (.type "list")
 | frz {a:Addr}{o:Obj}{xs:List V}(e:H a=some (.frz o (.lst xs))):TyOf K H (.ref a) (.type "list")
 | tup {a:Addr}{xs:List V}(e:H a=some (.tup xs)):TyOf K H (.ref a) (.type "tuple")
 | dK {a:Addr}{kvs:List (Key×V)}(e:H a=some (.dK kvs)):TyOf K H (.ref a) (.type "dict")
 | dT {a:Addr}{kvs:List (List Key×V)}(e:H a=some (.dT kvs)):TyOf K H (.ref a) (.type "dict")
 | ins {a C dx:Addr}{fs:List (Str×V)}(e:H a=some (.ins C dx fs)) (cl:Cls K C) (ha:PySem.W.findIn K (.ref C) "__class__"=some (some (.builtin "object.__class__")))
  (hn:PySem.W.specialIn K (.builtin "object.__class__") "__get__"=some (some (.builtin "getset_descriptor.__get__"))) (htk:PySem.W.takesIn K (.builtin "object.__class__")=some true)
  (hm:PySem.W.mroIn K C (.type "object")=some true):TyOf K H (.ref a) (.ref C)
theorem zgY {x:V}{u t:Value}(I:Inv X pins σ H s)(rx:RelV x u)(ty:TyOf X.K H x t)(e:PySem.W.kitOne X.K t c=some b)(h:∀tk,Q (.bool b) {s with toks:=tk}) :
 wpAny (model X.prog X.w) A (call (.builtin "isinstance") [u,c]) Q E s:=by
 cases ty with
 | non=>cases(show u=Value.none from rx);exact waH PySem.W.kitx_none I.kIn True.intro e (fun z=>nomatch z) h
 | bl y=>cases(show u=Value.bool y from rx);exact waH PySem.W.kitx_bool I.kIn True.intro e (fun z=>nomatch z) h
 | int i=>obtain⟨t,q⟩:=(show ∃t,u=Value.int i t from rx);cases q;exact waH PySem.W.kitx_int I.kIn True.intro e (fun z=>nomatch z) h
 | str y=>obtain⟨t,q⟩:=(show ∃t,u=Value.str y t from rx);cases q;exact waH PySem.W.kitx_str I.kIn True.intro e (fun z=>nomatch z) h
 | flt y=>obtain⟨t,q⟩:=(show ∃t,u=Value.float y t from rx);cases q;exact waH PySem.W.kitx_float I.kIn True.intro e (fun z=>nomatch z) h
 | @lst a xs ea=>
   cases(show u=Value.ref a from rx);obtain⟨_,_,n,_,h1⟩:=(show ObjOk X.prog X.w H s.heap a (.lst xs) from I.hok a _ ea)
   exact waH PySem.W.kitx_list I.kIn ⟨_,h1,rfl⟩ e (fun z=>nomatch z) h
 | @frz a ob xs ea=>
   cases(show u=Value.ref a from rx);obtain⟨_,_,_,n,_,h1⟩:=(show ObjOk X.prog X.w H s.heap a (.frz ob (.lst xs)) from I.hok a _ ea)
   exact waH PySem.W.kitx_list I.kIn ⟨_,h1,rfl⟩ e (fun z=>nomatch z) h
 | @tup a xs ea=>
   cases(show u=Value.ref a from rx);obtain⟨_,_,_,p⟩:=(show ObjOk X.prog X.w H s.heap a (.tup xs) from I.hok a _ ea)
   obtain⟨o,h1,h2,_⟩:=p;exact waH PySem.W.kitx_tuple I.kIn ⟨o,h1,h2⟩ e (fun z=>nomatch z) h
 | @dK a kvs ea=>
   cases(show u=Value.ref a from rx);obtain⟨_,_,vs,_,p⟩:=(show ObjOk X.prog X.w H s.heap a (.dK kvs) from I.hok a _ ea)
   obtain⟨o,es,ep,h1,h2,_⟩:=p;exact waH PySem.W.kitx_dict I.kIn ⟨o,h1,h2.1⟩ e (fun z=>nomatch z) h
 | @dT a kvs ea=>
   cases(show u=Value.ref a from rx);obtain⟨_,_,xs,_,o,es,ep,h1,h2,_⟩:=(show ObjOk X.prog X.w H s.heap a (.dT kvs) from I.hok a _ ea)
   exact waH PySem.W.kitx_dict I.kIn ⟨o,h1,h2.1⟩ e (fun z=>nomatch z) h
 | @ins a C dx fs ea cl ha hn htk hm=>
   cases(show u=Value.ref a from rx);obtain⟨mA,O,_⟩:=zkr I.hok ea;obtain⟨od,J,_⟩:=O.look;exact waH (PySem.W.kitx_own (cl.get _) cl.hd ha hn htk hm) I.kIn J e (fun z=>nomatch z) h
end
structure Room (k:Nat)(A:Around):Prop where
 hd:A.handled=none
 dp:A.depth+3*k+5<recursionLimit
 un:A.units+16*k+200<cLine
 gd:A.guards=some []
theorem Room.mono {j k:Nat}{A:Around}(r:Room k A)(h:j<=k):Room j A:=⟨r.hd,by have:=r.dp;omega,by have:=r.un;omega,r.gd⟩
theorem Room.deeper {k:Nat}{A:Around}(r:Room (k+1) A)(env:Env):Room k (A.deeper env):=
 ⟨r.hd,by have:=r.dp;show A.depth+1+3*k+5<_;omega,by have:=r.un;show A.units+3+16*k+200<_;omega,r.gd⟩
theorem make_units {A:Around}{C:Addr}{us:List Value}{kw:List (Str×Value)}:(A.under (.builtin "type.__call__" ⟨.ref C::us,kw⟩)).units=A.units+1:=by
 first | rfl | simp[Around.under,Code.cUnits,Code.frames,Code.isFrame]
theorem Room.depth {k:Nat}{A:Around}(r:Room k A):A.depth<recursionLimit:=by have:=r.dp;omega
theorem Room.units {k:Nat}{A:Around}(r:Room k A):A.units+64<cLine:=by have:=r.un;omega
def tNil:TA:=fun _ H Q=>Q [] H
def zkt (ta:TE)(tr:TA):TA:=fun σ H Q=>ta σ H fun x H1=>tr σ H1 fun xs H2=>Q (x::xs) H2
section
variable {X:Cx}{e:Expr}{es:List Expr}{te:TE}{t:TA}{pos:Pos}
theorem zcd:PA X [] tNil:=fun _ _ _ _ H Q I h=>Calls.spliced_nil ⟨[],H,I,.nil,h⟩
theorem zaV (ha:PE X e te)(hr:PA X es t)(hs:starEach (e::es) X.env=(false,eval e X.env)::starEach es X.env:=by rfl):PA X (e::es) (zkt te t):=by
 intro pos pins s σ H Q I h;rw[hs];show wpAny _ _ (spliced ((false,eval e X.env)::backTo pos (starEach es X.env))) _ _ s
 refine wbA (thn (ha pins s σ H _ I h) fun u s1 ⟨x,H1,I1,r1,q1⟩ =>?_);exact thn (hr pos pins s1 σ H1 _ I1 q1) fun us s2 ⟨xs,H2,I2,r2,q2⟩ =>⟨x::xs,H2,I2,.cons r1 r2,q2⟩
def tTup (t:TA):TE:=fun σ H Q=>t σ H fun xs H1=>xs.length<=sizeLine/\∀p,H1 p=none->Q (.ref p) (upd H1 p (.tup xs))
def tLst (t:TA):TE:=fun σ H Q=>t σ H fun xs H1=>xs.length<=sizeLine/\∀p,H1 p=none->Q (.ref p) (upd H1 p (.lst xs))
theorem zjO {x1}(h:PA X es t):PE X (.Tuple es x1 pos) (tTup t):=by
 intro pins s σ H Q I hq;refine wpAny_Tuple_spliced (thn (h pos pins s σ H _ I hq) fun us s1 ⟨xs,H1,I1,r,z,q⟩ =>⟨by rw[<-r.length];exact z,?_⟩);have hf:H1 s1.heap.objs.size=none:=I1.hok.fresh (wam _)
 refine⟨.ref s1.heap.objs.size,upd H1 s1.heap.objs.size (.tup xs),I1.laid (t':=s1.toks) (fun b u e=>wab _ e) (wam _) ?_,rfl,q _ hf⟩;exact⟨z,us,r,⟨_,war _ rfl,rfl,_,rfl⟩⟩
theorem zgZ (h:PA X es t):PE X (.List es pos) (tLst t):=by
 intro pins s σ H Q I hq;refine wpAny_List_spliced (thn (h pos pins s σ H _ I hq) fun us s1 ⟨xs,H1,I1,r,z,q⟩ =>⟨by rw[<-r.length];exact z,?_⟩);have hf:H1 s1.heap.objs.size=none:=I1.hok.fresh (wam _)
 refine⟨.ref s1.heap.objs.size,upd H1 s1.heap.objs.size (.lst xs),I1.laid (t':=s1.toks) (fun b u e=>wab _ e) (wam _) ?_,rfl,q _ hf⟩;exact⟨z,us,0,r,war _ rfl⟩
end
abbrev Sp:=List V->Hp->VK->XK->Prop
abbrev CXT:=List Env->Hp->Shared->XK->Value->Shared->Prop
structure Env0 (P:Program)(w:World)(K:W.Frag)(mg:Str->Option Value)(base:Heap)(A:Around)(outer:List Env)(s:Shared)(H:Hp):Prop where
 frames:A.frames=some outer
 mod:Mod K mg base
 bs:∀b o,base.get? b=some o->s.heap.get? b=some o/\H b=none
 bsz:base.objs.size<=s.heap.objs.size
 funs:s.heap.FunFrames base outer
 frf:∀b∈frs outer,H b=none
 hok:HOk P w H s.heap
 bare:AllBare s.gens
def CE (outer:List Env)(P:Program)(w:World)(H:Hp)(s:Shared)(Q:VK)(u:Value)(s':Shared):Prop:=
 ∃v H',s'.os=s.os/\AllBare s'.gens/\Un (frs outer) [] H H' s.heap s'.heap/\HOk P w H' s'.heap/\RelV v u/\Q v H'
def CR (CX:CXT)(outer:List Env)(P:Program)(w:World)(H:Hp)(s:Shared)(Q:VK)(E:XK)(r:Result)(s':Shared):Prop:=
 match r with
 | .ok (.ret u)=>CE outer P w H s Q u s'
 | .ok _=>False
 | .error e=>CX outer H s E e s'
structure FnOk (P:Program)(w:World)(K:W.Frag)(mg:Str->Option Value)(base:Heap)(CX:CXT)(k:Nat)(f:Addr)(fd:FuncData)(ps:List Str)(sp:Sp):Prop where
 len:∀vs H Q E,sp vs H Q E->vs.length=ps.length
 run:∀(A:Around) (outer:List Env) (s:Shared) (H:Hp) (args:Args) (us:List Value) (vs:List V) (Q:VK) (E:XK),Room k A->Env0 P w K mg base A outer s H->BindsTo s fd args (ps.zip us)->Vals vs us->sp vs H Q E->
  codeAny (model P w) A (.call (.ref f) args) (CR CX outer P w H s Q E) s
theorem FnOk.mono {P:Program}{w:World}{K:W.Frag}{mg:Str->Option Value}{base:Heap}{CX:CXT}{j k:Nat}{f:Addr}{fd:FuncData}{ps:List Str}{sp:Sp}(F:FnOk P w K mg base CX j f fd ps sp)(h:j<=k) :
 FnOk P w K mg base CX k f fd ps sp:=⟨F.len,fun A outer s H args us vs Q E hr=>F.run A outer s H args us vs Q E (hr.mono h)⟩
section
variable {X:Cx}{pins:List (Addr×Obj)}{σ:St}{H:Hp}{s s':Shared}
theorem Inv.env0 (I:Inv X pins σ H s):Env0 X.prog X.w X.K X.mg X.base X.A X.stack s H:=
 ⟨I.ok.frames,I.ok.mod,I.bs,wan I.ok.bsz I.sz,I.stack,I.stkFree,I.hok,I.bare⟩
theorem Inv.after {Q:VK}{u:Value}(I:Inv X pins σ H s)(h:CE X.stack X.prog X.w H s Q u s'):EP X pins σ Q u s':=by
 obtain⟨v,H',os,bare,un,hok,r,q⟩:=h;obtain⟨hh,g,d,t,os'⟩:=s';obtain rfl:os'=s.os:=os;exact⟨v,H',I.call (h':=hh) (g':=g) (d':=d) (t':=t) (ch:=[]) un hok bare (fun b z=>absurd z (by simp)),r,q⟩
end
def zgq (sp:Sp)(dvs:List V)(E:XK)(t:TA):TE:=fun σ H Q=>t σ H fun vs H1=>sp (vs++dvs) H1 Q E
def Binds (K:W.Frag)(fd:FuncData)(ps:List Str)(ds:List Value):Prop:=
 ∀(s:Shared) (us:List Value),K.In s.heap->(us++ds).length=ps.length->BindsTo s fd ⟨us,[]⟩ (ps.zip (us++ds))
theorem Binds.all {K:W.Frag}{fd:FuncData}{ps:List Str}(h:∀us:List Value,us.length=ps.length->bindArgs fd ⟨us,[]⟩=pure (ps.zip us)):Binds K fd ps []:=fun s us _ hl=>by
 rw[waF] at hl⊢;exact .of_eq (h us hl)
def zfK (CX:CXT)(X:Cx)(E:XK):Prop:=∀(pins:List (Addr×Obj)) (σ:St) (H:Hp) (s:Shared) (e:Value) (s':Shared),Inv X pins σ H s->CX X.stack H s E e s'->X.xe e s'
section
variable {X:Cx}{CX:CXT}{k:Nat}{f C:Addr}{fd:FuncData}{ps:List Str}{sp:Sp}{dvs:List V}{ds:List Value}{E:XK}{x m:Str}{p pos apos:Pos}{e o:Expr}{es:List Expr}{ta:TE}{t:TA}
theorem zjP {pins:List (Addr×Obj)}{σ:St}{H:Hp}{s:Shared}{Q:VK}{us:List Value}{vs:List V}(F:FnOk X.prog X.w X.K X.mg X.base CX k f fd ps sp)(hr:Room k X.A)(hb:Binds X.K fd ps ds)(hd:Vals dvs ds)(hx:zfK CX X E)
 (I:Inv X pins σ H s) (r:Vals vs us) (h:sp (vs++dvs) H Q E):wpAny (model X.prog X.w) X.A (call (.ref f) us) (EP X pins σ Q) X.xe s:=by
 have r2:Vals (vs++dvs) (us++ds):=r.append hd
 have hl:(us++ds).length=ps.length:=by rw[<-r2.length];exact F.len _ _ _ _ h
 refine wcn (wcf (F.run X.A X.stack s H ⟨us,[]⟩ (us++ds) (vs++dvs) Q E hr I.env0 (hb s us I.kIn hl) r2 h) fun r s' hq=>?_);cases r with
 | error e=>exact hx pins σ H s e s' I hq
 | ok fl=>
   cases fl with
   | ret u=>exact I.after hq
   | next=>exact False.elim hq
   | brk=>exact False.elim hq
   | cont=>exact False.elim hq
theorem zku (F:FnOk X.prog X.w X.K X.mg X.base CX k f fd ps sp)(hr:Room k X.A)(hg:Gl X x)(hm:X.mg x=some (.ref f))(hk:W.keepIn X.K (.ref f)=true)(hb:Binds X.K fd ps ds)(hd:Vals dvs ds)(hx:zfK CX X E)
 (ha:PA X (e::es) t) (hdb:(x == ("__debug__" : Str))=false:=by decide) (he:starEach (e::es) X.env=(false,eval e X.env)::starEach es X.env:=by rfl) (hpl:(backTo pos (starEach es X.env)).any (·.1)=false:=by rfl) :
 PE X (.Call (.Name x p) (e::es) [] pos) (zgq sp dvs E t):=by
 intro pins s σ H Q I h;refine waG (zcD I hg hm ?_ hdb);refine wbU (h₀:=X.base) I.ok.mod.kin hk (thn (ha pos pins s σ H _ I h) fun us s1 ⟨vs,H1,I1,r,q⟩ =>⟨I1.kIn,?_⟩) he hpl;exact zjP F hr hb hd hx I1 r q
end
section
variable {X:Cx}{CX:CXT}{k:Nat}{f C:Addr}{fd:FuncData}{ps ks:List Str}{sp:Sp}{E:XK}{x m:Str}{p pos apos kpos:Pos}{e o:Expr}{es:List Expr}{kws:List Keyword}{te ta:TE}{t tk:TA}{nm:Option Str}
variable {g:List Value->List Value->List Value}{gV:List V->List V->List V}
end
structure FnScope (N P:List Str)(sc:Scope):Prop where
 kind:sc.kind=.function
 co:sc.isCoroutine=false
 gen:sc.isGenerator=false
 nd:N.Nodup
 pre:N.take P.length=P
 par:∀x∈P,sc.names.lookup x=some .local\/sc.names.lookup x=some .cell
 nofree:∀y∈sc.names,y.2≠.free
theorem zew {kindOf:Str->Option NameKind}{x:Str}:∀{binds:List (Str×Value)}{m:Str->Option Value},(∀v,(x,v)∉binds)->bindL kindOf binds m x=m x
 | [],_,_=>rfl
 | (n,v)::r,m,h=>by
   unfold bindL;rw[zew fun w hw=>h w (waf _ hw)];split
   ·have:x≠n:=by rintro rfl;exact h v waj
    simp[this]
   ·rfl
theorem zex {kindOf:Str->Option NameKind}{x:Str}:∀{binds:List (Str×Value)}{m:Str->Option Value},(∀v,(x,v)∉binds)->bindC kindOf binds m x=m x
 | [],_,_=>rfl
 | (n,v)::r,m,h=>by
   unfold bindC;rw[zex fun w hw=>h w (waf _ hw)];split
   ·rfl
   ·have:x≠n:=by rintro rfl;exact h v waj
    simp[this]
theorem zey {kindOf:Str->Option NameKind}{x:Str}{v:Value}:∀{P:List Str}{vs:List Value}{i:Nat}{m:Str->Option Value},P.Nodup->P[i]?=some x->vs[i]?=some v->kindOf x=some .local->
 bindL kindOf (P.zip vs) m x=some v
 | [],_,_,_,_,h,_,_=>by simp at h
 | _::_,[],_,_,_,_,h,_=>by simp at h
 | p::P,w::vs,0,m,nd,h1,h2,hk=>by
   simp at h1 h2;subst h1;subst h2;show bindL kindOf ((p,w)::P.zip vs) m p=_
   unfold bindL;rw[zew fun v hv=>(waI.mp nd).1 (List.of_mem_zip hv).1,if_pos hk];simp
 | p::P,w::vs,i+1,m,nd,h1,h2,hk=>by
   show bindL kindOf ((p,w)::P.zip vs) m x=_
   unfold bindL;exact zey (i:=i) (waI.mp nd).2 (by simpa using h1) (by simpa using h2) hk
theorem zez {kindOf:Str->Option NameKind}{x:Str}{v:Value}:∀{P:List Str}{vs:List Value}{i:Nat}{m:Str->Option Value},P.Nodup->P[i]?=some x->vs[i]?=some v->kindOf x≠some .local->
 bindC kindOf (P.zip vs) m x=some v
 | [],_,_,_,_,h,_,_=>by simp at h
 | _::_,[],_,_,_,_,h,_=>by simp at h
 | p::P,w::vs,0,m,nd,h1,h2,hk=>by
   simp at h1 h2;subst h1;subst h2;show bindC kindOf ((p,w)::P.zip vs) m p=_
   unfold bindC;rw[zex fun v hv=>(waI.mp nd).1 (List.of_mem_zip hv).1,if_neg hk];simp
 | p::P,w::vs,i+1,m,nd,h1,h2,hk=>by
   show bindC kindOf ((p,w)::P.zip vs) m x=_
   unfold bindC;exact zez (i:=i) (waI.mp nd).2 (by simpa using h1) (by simpa using h2) hk
def start (N:List Str)(vs:List V):St:=vs.map some++List.replicate (N.length - vs.length) none
def cxOf (CX:CXT)(P:Program)(w:World)(K:W.Frag)(mg:Str->Option Value)(base:Heap)(N:List Str)(qual:Str)(scope:Scope)(f:Addr)(cd:Value)(A:Around)(outer:List Env)(s:Shared)(H:Hp)(E:XK):Cx where
 prog:=P
 w:=w
 K:=K
 mg:=mg
 base:=base
 A:=A.deeper (envOfC qual scope s.heap.objs.size f cd)
 N:=N
 s₀:=s
 Hz:=H
 env:=envOfC qual scope s.heap.objs.size f cd
 outer:=outer
 stack:=envOfC qual scope s.heap.objs.size f cd::outer
 ex:=[]
 calm:=true
 fn:=fun _=>true
 pn:=[]
 xe:=fun e s'=>wpAny (model P w) (A.deeper (envOfC qual scope s.heap.objs.size f cd)) (leaving (envOfC qual scope s.heap.objs.size f cd) e) (fun _ s''=>CX outer H s E e s'') (fun e' s''=>CX outer H s E e' s'') s'
theorem zbp {sc:Scope}{n:Nat}{x:Str}(h:sc.names.lookup x=some .cell):∃c,(cellsFrom n sc.names []).lookup x=some c:=by
 have q:=PySem.W.cellsFrom_some sc.names n [] (.inl h)
 exact Option.isSome_iff_exists.mp q
theorem zg0 {CX:CXT}{P:Program}{w:World}{K:W.Frag}{mg:Str->Option Value}{base:Heap}{N ps:List Str}{qual:Str}{scope:Scope}{f:Addr}{cd:Value}{A:Around}{outer:List Env}{s s1:Shared}{H:Hp}{E:XK}{us:List Value}{vs:List V}
 (S:FnScope N ps scope) (hd:A.handled=none) (e0:Env0 P w K mg base A outer s H) (hl:vs.length=ps.length) (r:Vals vs us)
 (x:InCallC s s.heap.objs.size (bindL (envOfC qual scope s.heap.objs.size f cd).kindOf (ps.zip us) fun _=>none) (cellsFrom (s.heap.objs.size+1) scope.names []) (bindC (envOfC qual scope s.heap.objs.size f cd).kindOf (ps.zip us) fun _=>none) s1) :
 Inv (cxOf CX P w K mg base N qual scope f cd A outer s H E) [] (start N vs) H s1:=by
 have hpl:ps.length<=N.length:=by have:=waZ List.length S.pre;rw[wbx] at this;omega
 obtain⟨h1,tk,rfl,hk⟩:=x.done;have noA:∀b:Addr,b∉(cxOf CX P w K mg base N qual scope f cd A outer s H E).ex:=fun b z=>absurd (show b∈([]:List Addr) from z) (by simp)
 refine⟨⟨e0.mod,S.kind,rfl,rfl,wam _,fun y z c h1 h2=>?_,fun y hy=>?_,fun y c _ h=>?_,fun _=>hd,Around.frames_deeper e0.frames,.inr ⟨rfl,rfl⟩,fun b z=>absurd z (noA b),e0.bs,e0.bsz,fun b _ _=>noA b,fun b z=>absurd z (noA b),e0.funs,e0.frf⟩,
  rfl,e0.bare,Un.kept hk,⟨_,x.toInCall.ns,fun i y v h1 h2 h3=>?_⟩,fun y c h=>⟨_,x.cell y c h⟩,e0.hok.fresh (wam _),fun y c h=>?_,fun p hp=>absurd (show p∈([]:List (Addr×Obj)) from hp) (by simp),e0.hok.kept hk,?_⟩
 ·exact name_of_addr x.apart (wbv h1) (wbv h2)
 ·have hy:scope.names.lookup y=some .cell\/scope.names.lookup y=some .free:=hy
  rcases hy with hy | hy
  ·exact zbp hy
  ·exact absurd rfl (S.nofree _ (wbv hy))
 ·exact wbg (x.above y c (wbv h))
 ·have hi:i<vs.length:=by
   unfold start at h2;by_cases hi:i<vs.length
   ·exact hi
   ·rw[List.getElem?_append_right (by simpa using hi)] at h2;rw[List.getElem?_replicate] at h2;split at h2 <;> cases h2
  have ha:vs[i]?=some v:=by
   unfold start at h2;rw[wbn (by simpa using hi),waw] at h2;cases e:vs[i]? with
   | none=>rw[e] at h2;cases h2
   | some a=>rw[e] at h2;cases h2;rfl
  obtain⟨u,hu,rv⟩:=r.get ha;have hp:ps[i]?=some y:=by
   rw[<-S.pre,List.getElem?_take_of_lt (by omega)];exact h1
  have ndP:ps.Nodup:=by rw[<-S.pre];exact S.nd.sublist (List.take_sublist _ _)
  refine⟨u,rv,?_⟩;rcases S.par y (waJ hp) with k | k
  ·exact .inl ⟨k,zey ndP hp hu k⟩
  ·obtain⟨c,e⟩:=zbp (n:=s.heap.objs.size+1) k;refine .inr ⟨.inl k,c,e,?_⟩;have q:=x.cell y c e
   rw[zez ndP hp hu (by show scope.names.lookup y≠_;rw[k];decide)] at q;exact q
 ·exact e0.hok.fresh (wbg (x.above y c (wbv h)))
 ·unfold start;show _=N.length
  rw[wat,wao,wbE];omega
theorem zkv {CX:CXT}{P:Program}{w:World}{K:W.Frag}{mg:Str->Option Value}{base:Heap}{k:Nat}{f:Addr}{name qual:Str}{params:Arguments}{body:List Stmt}{scope:Scope}{dV kV doc pm cdv ct oc:Value}{an od:Option Addr}
 {osl:Array (Option Value)}{N ps:List Str}{sp:Sp}(lk:K.lookup f=some ⟨oc,od,.func (W.fnOf name qual params body scope dV kV doc pm an cdv ct),osl⟩) (hcd:W.codeIn K cdv qual=true) (S:FnScope N ps scope)
 (len:∀vs H Q E,sp vs H Q E->vs.length=ps.length)
 (hbody:∀(A:Around) (outer:List Env) (s:Shared) (H:Hp) (vs:List V) (Q:VK) (E:XK),Room k (A.deeper (envOfC qual scope s.heap.objs.size f cdv))->sp vs H Q E->
  ∃t,PSs (cxOf CX P w K mg base N qual scope f cdv A outer s H E) body t/\t {nx:=fun _ H'=>Q .non H',rt:=Q} (start N vs) H) :
 FnOk P w K mg base CX (k+1) f (W.fnOf name qual params body scope dV kV doc pm an cdv ct) ps sp:=by
 refine⟨len,fun A outer s H args us vs Q E hr e0 hb r hsp=>?_⟩;have hl:=len _ _ _ _ hsp
 have KX:K.In s.heap:=e0.mod.kin.keeps fun b o e=>(e0.bs b o e).1
 have lim:s.heap.NoLimit:=e0.mod.nolimit.keeps fun b o e=>(e0.bs b o e).1
 have hkind:∀y∈ps.zip us,scope.names.lookup y.1=some .local\/(scope.names.lookup y.1=some .cell/\((cellsFrom (s.heap.objs.size+1) scope.names []).lookup y.1).isSome=true):=fun⟨n,v⟩ hy=>by
  rcases S.par n (List.of_mem_zip hy).1 with q | q
  ·exact .inl q
  ·exact .inr ⟨q,PySem.W.cellsFrom_some _ _ _ (.inl q)⟩
 refine codeAny_call_function hr.depth (KX _ _ lk) rfl S.co S.gen rfl (PySem.W.codeRec_of KX hcd) (hb _ _ _ _ ?_);refine wpAny_newFunctionEnv_cells S.kind hkind fun env he s1 x=>?_
 subst he;refine⟨lim.keeps x.toInCall.keep,codeAny_func ?_⟩;obtain⟨t,ht,hq⟩:=hbody A outer s H vs Q E (hr.deeper _) hsp;have I:Inv (cxOf CX P w K mg base N qual scope f cdv A outer s H E) [] (start N vs) H s1:=zg0 S hr.hd e0 hl r x
 refine waz (ht [] s1 (start N vs) H _ I hq) (fun fl s' hs=>?_) fun e s' hs=>hs
 have fin:∀{σ':St}{H':Hp}{v:V}{u:Value},Inv (cxOf CX P w K mg base N qual scope f cdv A outer s H E) [] σ' H' s'->RelV v u->Q v H'->CE outer P w H s Q u s':=
  fun {σ' H' v u} J rv q=>⟨v,H',J.os,J.bare,J.base,J.hok,rv,q⟩
 cases fl with
 | ret u=>
   obtain⟨v,σ',H',J,rv,q⟩:=hs;exact fin J rv q
 | next=>
   obtain⟨σ',H',J,q⟩:=hs;exact fin (v:=V.non) (u:=Value.none) J rfl q
 | brk=>
   obtain⟨_,_,_,q⟩:=hs;exact False.elim q
 | cont=>
   obtain⟨_,_,_,q⟩:=hs;exact False.elim q
section
variable {X:Cx}{x:Str}{p pos:Pos}{e:Expr}{es:List Expr}{t:TA}{id T:String}{r:List V->Hp->VK->Prop}
def tCB (r:List V->Hp->VK->Prop)(t:TA):TE:=fun σ H Q=>t σ H fun vs H1=>r vs H1 Q
theorem ziu (hc:zcc X (.builtin id) r)(hg:Gl X x)(hm:X.mg x=none)(hv:bootBuiltins x=some (.builtin id))(ha:PA X (e::es) t)(hn:x≠"__name__":=by decide)(hdb:(x == ("__debug__" : Str))=false:=by decide)
 (he:starEach (e::es) X.env=(false,eval e X.env)::starEach es X.env:=by rfl) (hpl:(backTo pos (starEach es X.env)).any (·.1)=false:=by rfl):PE X (.Call (.Name x p) (e::es) [] pos) (tCB r t):=by
 intro pins s σ H Q I h;refine waG (zb0 I hg hm hv ?_ hn hdb);exact wbt (thn (ha pos pins s σ H _ I h) fun us s1 ⟨vs,H1,I1,r1,q1⟩ =>hc pins s1 σ H1 vs us Q I1 r1 q1) he hpl
theorem zg1 (hc:zcc X (.type T) r)(hg:Gl X x)(hm:X.mg x=none)(hv:bootBuiltins x=some (.type T))(ha:PA X (e::es) t)(hn:x≠"__name__":=by decide)(hdb:(x == ("__debug__" : Str))=false:=by decide)
 (he:starEach (e::es) X.env=(false,eval e X.env)::starEach es X.env:=by rfl) (hpl:(backTo pos (starEach es X.env)).any (·.1)=false:=by rfl):PE X (.Call (.Name x p) (e::es) [] pos) (tCB r t):=by
 intro pins s σ H Q I h;refine waG (zb0 I hg hm hv ?_ hn hdb);exact waK (thn (ha pos pins s σ H _ I h) fun us s1 ⟨vs,H1,I1,r1,q1⟩ =>hc pins s1 σ H1 vs us Q I1 r1 q1) he hpl
end
end L2
namespace HT
open PySem PyProof.Rows
theorem zdS (A:Around)(s:Shared)(a:Int)(t:Tok)(c:Int)(u:Tok):∃e,SeqAt.EqAt A s (.int a t) (.int c u) e/\(e=true↔a=c):=
 ⟨(a == c),SeqAt.EqAt.int_int a t c u,by simp⟩
section
open PySem.SeqAt
open PySem.AutoSeq1 (wpAny_loadPart')
open PySem.MeetsSeq PySem.MeetsSeq2 PySem.MeetsSeq3
end
section
variable {prog:Program}{w:World}{A:Around}{E:Value->Shared->Prop}{s:Shared}
theorem cat_tup {t b:Addr}{vs ws:List Value}{Q:Value->Shared->Prop}(ht:IsTup s.heap t vs.toArray)(hb:IsTup s.heap b ws.toArray)(hv:vs≠[])
 (h1:ws = []->Q (.ref t) s) (h2:ws≠[]->Q (.ref s.heap.objs.size) {s with heap:=s.heap.push {cls:=.type "tuple",data:=.seq (vs++ws).toArray}})
 (hsz:vs.length+ws.length<=sizeLine):wpAny (model prog w) A (binaryOp .Add (.ref t) (.ref b)) Q E s:=by
 obtain⟨⟨cls,dd,data,sl⟩,ho,hc,n,hd⟩:=id ht;obtain⟨⟨cls2,dd2,data2,sl2⟩,ho2,hc2,n2,hd2⟩:=id hb;simp only at hc hd hc2 hd2;subst hc hd hc2 hd2;have e:vs.toArray++ws.toArray=(vs++ws).toArray:=by simp
 by_cases hw:ws = []
 ·exact concat_meets ⟨_,ho,rfl⟩ ⟨_,ho2,rfl⟩ noFill_tuple_add seq_tuple_add wca wbV (wbR _ _)
   (tuple_addW1 t b vs.toArray ws.toArray n n2 dd dd2 sl sl2 (by simpa using hv) (by simp[hw])) ⟨ho,ho2,h1 hw⟩
 ·refine concat_meets ⟨_,ho,rfl⟩ ⟨_,ho2,rfl⟩ noFill_tuple_add seq_tuple_add wca wbV (wbR _ _)
   (tuple_addW2 t b vs.toArray ws.toArray n n2 dd dd2 sl sl2 (by simpa using hv) (by simpa using hw) (by rw[wac,wac];exact hsz)) ⟨ho,ho2,?_⟩
  rw[e];exact h2 hw
def sIx (n d:Nat):Option Int->Nat
 | none=>d
 | some v=>if v<0 then(v+(n:Int)).toNat else min v.toNat n
theorem zmg (n d:Nat)(hd:d<=n)(o:Option Int):sIx n d o<=n:=by
 cases o with
 | none=>exact hd
 | some v=>
   show(if v<0 then(v+(n:Int)).toNat else min v.toNat n)<=n
   by_cases hv:v<0
   ·rw[if_pos hv];omega
   ·rw[if_neg hv];exact Nat.min_le_right _ _
theorem zg2 (v:Int)(n d:Nat):(if v<0 then max (v+(n:Int)) 0 else min v (n:Int))=((sIx n d (some v):Nat):Int):=by
 show(if v<0 then max (v+(n:Int)) 0 else min v (n:Int))=(((if v<0 then(v+(n:Int)).toNat else min v.toNat n):Nat):Int)
 by_cases hv:v<0
 ·simp only[if_pos hv];omega
 ·simp only[if_neg hv];omega
theorem zgr (lo hi:Option Int)(n:Nat):Builtin.Slice.sliceAdjust lo hi 1 (n:Int)=(((sIx n 0 lo:Nat):Int),((sIx n n hi:Nat):Int)):=by
 have h1:¬((1:Int)<0):=by omega
 unfold Builtin.Slice.sliceAdjust;simp only[h1,if_false];refine Prod.ext ?_ ?_
 ·cases lo with
  | none=>rfl
  | some v=>exact zg2 v n 0
 ·cases hi with
  | none=>rfl
  | some v=>exact zg2 v n n
theorem zgs (i j:Nat):Builtin.Slice.slicePlaces (i:Int) (j:Int) 1=j - i:=by
 unfold Builtin.Slice.slicePlaces;have h1:(1:Int)>0:=by omega
 simp only[h1,if_true,Int.ediv_one];split <;> omega
theorem zdy {v:Value}{o:Option Int}{Q:Option Int->Shared->Prop}(p:IsPart v o)(h:Q o s):wpAny (model prog w) A (Builtin.Slice.slicePartIndex v) Q E s:=by
 cases p with
 | none=>exact slicePart_none h
 | int i t=>exact slicePart_int h
theorem zcQ {sl:Addr}{vl vu:Value}{lo hi:Option Int}{n:Nat}{Q:Int×Int×Nat->Shared->Prop}(hs:s.heap.IsSliceOf sl vl vu .none)(pl:IsPart vl lo)(pu:IsPart vu hi)
 (h:Q (((sIx n 0 lo:Nat):Int),1,sIx n n hi - sIx n 0 lo) s):wpAny (model prog w) A (Builtin.Slice.sliceApplied (.ref sl) (pure (n:Int))) Q E s:=by
 obtain⟨os,hos,hcs,hds⟩:=id hs;unfold Builtin.Slice.sliceApplied Builtin.Slice.sliceFields;refine waa (waa (waP hos hds (x:=vl) rfl (waa (waP hos hds (x:=vu) rfl (waa (waP hos hds (x:=.none) rfl (wag ?_)))))));refine waa (slicePart_none ?_);show wpAny _ _ (if((1:Int) == 0)=true then _ else _) _ _ s
 rw[if_neg (by decide)];refine waa (zdy pl (waa (zdy pu (waa (wag ?_)))));show wpAny _ _ (match Builtin.Slice.sliceAdjust lo hi 1 (n:Int) with | (lo,hi)=>pure (lo,(1:Int),Builtin.Slice.slicePlaces lo hi 1)) _ _ s
 rw[zgr lo hi n];show wpAny _ _ (pure (((sIx n 0 lo:Nat):Int),(1:Int),Builtin.Slice.slicePlaces ((sIx n 0 lo:Nat):Int) ((sIx n n hi:Nat):Int) 1)) _ _ s
 rw[zgs];exact wag h
theorem ziv (xs:Array Value)(i k:Nat):((List.range k).filterMap fun(m:Nat)=>xs[((i:Int)+(m:Int)*1).toNat]?).toArray=((xs.toList.drop i).take k).toArray:=by
 have e:(fun(m:Nat)=>xs[((i:Int)+(m:Int)*1).toNat]?)=fun m=>xs[i+m]?:=by
  funext m
  have:((i:Int)+(m:Int)*1).toNat=i+m:=by omega
  rw[this]
 rw[e];have:=pick_run xs i k
 rw[List.filterMap_map] at this;have e2:((fun x=>xs[x]?)∘fun x=>i+x)=fun m=>xs[i+m]?:=rfl
 rw[e2] at this;rw[this]
theorem getItem_tuple_cut {t sl:Addr}{items:Array Value}{vl vu:Value}{lo hi:Option Int}{Q:Value->Shared->Prop}(ht:IsTup s.heap t items)(hs:s.heap.IsSliceOf sl vl vu .none)(pl:IsPart vl lo)(pu:IsPart vu hi)
 (hw:¬(sIx items.size 0 lo=0/\sIx items.size items.size hi=items.size))
 (h:Q (.ref s.heap.objs.size) {s with heap:=s.heap.push {cls:=.type "tuple",data:=.seq ((items.toList.drop (sIx items.size 0 lo)).take (sIx items.size items.size hi - sIx items.size 0 lo)).toArray}})
 (hsz:items.size<=sizeLine):wpAny (model prog w) A (getItem (.ref t) (.ref sl)) Q E s:=by
 have htake:sizeOk (.seq ((items.toList.drop (sIx items.size 0 lo)).take (sIx items.size items.size hi - sIx items.size 0 lo)).toArray):=by
  show((items.toList.drop (sIx items.size 0 lo)).take (sIx items.size items.size hi - sIx items.size 0 lo)).toArray.size<=sizeLine
  rw[wac,wbx,List.length_drop,wcp];omega
 have hj:sIx items.size items.size hi<=items.size:=zmg _ _ (wam _) hi
 obtain⟨os,hos,hcs,hds⟩:=id hs;have hTs:s.TypeIs (.ref sl) "slice":=⟨os,hos,hcs⟩
 unfold getItem;try with_reducible refine wbl ?_
 first | refine waa (wag ?_) | skip
 refine waa (wpAny_sequenceKey ht.typeIs (by decide) ?_);refine waa (wbW (name:=Str.ofString "__getitem__") ht.typeIs PyProof.Rows.slot_tuple_getitem
  (wbQ PyProof.Rows.slot_tuple_getitem ht.typeIs entry_tuple_getitem ?_ (args_tuple_getitem _ _)))
 show wpAny _ _ (Builtin.Tuple.tupleItemsOf (.ref t) >>= _) _ _ s
 refine waa (tupleItemsOf_ ht ?_);refine waa (wpAny_typeOf hTs ?_);rw[if_pos (by decide)];refine waa (zcQ hs pl pu ?_);have hno:¬((((sIx items.size 0 lo:Nat):Int) == 0&&(1:Int) == 1&&(sIx items.size items.size hi - sIx items.size 0 lo) == items.size)=true):=by
  intro q;rw[waA,waA] at q;have q1:((sIx items.size 0 lo:Nat):Int)=0:=eq_of_beq q.1.1
  have q2:sIx items.size items.size hi - sIx items.size 0 lo=items.size:=eq_of_beq q.2
  exact hw ⟨by omega,by omega⟩
 show wpAny _ _ (if(((sIx items.size 0 lo:Nat):Int) == 0&&(1:Int) == 1&&(sIx items.size items.size hi - sIx items.size 0 lo) == items.size)=true then _ else _) _ _ s
 rw[if_neg hno,ziv];first
  | exact waa (m:=Builtin.Tuple.tupleExact _) (waY (wag ⟨_,rfl,wag h⟩) htake)
  | exact waa (m:=Builtin.Tuple.tupleExact _) (waY (waa (wag (wag ⟨_,rfl,wag h⟩))) htake)
  | exact waa (waa (m:=Builtin.Tuple.tupleExact _) (waY (wag (wag ⟨_,rfl,wag h⟩)) htake))
  | exact waa (waa (m:=Builtin.Tuple.tupleExact _) (waY (wag ⟨_,rfl,wag h⟩) htake))
end
end HT
namespace L2
open PySem PySem.Spec PyProof.Rows
abbrev TO:=St->Hp->(Option Int->Hp->Prop)->Prop
def PO (X:Cx)(e:Option Expr)(t:TO):Prop:=
 ∀(pins:List (Addr×Obj)) (s:Shared) (σ:St) (H:Hp) (Q:Option Int->Hp->Prop),Inv X pins σ H s->t σ H Q->
  wpAny (model X.prog X.w) X.A (evalPart e X.env) (fun u s'=>∃o H',Inv X pins σ H' s'/\IsPart u o/\Q o H') X.xe s
def zkw:TO:=fun _ H Q=>Q none H
def znX (t:TE):TO:=fun σ H Q=>t σ H fun x H1=>∃i,x=.int i/\Q (some i) H1
section
variable {X:Cx}{e:Expr}{te:TE}{lo hi:Option Expr}{tl th:TO}{pos p2:Pos}
theorem zg3:PO X none zkw:=by
 intro pins s σ H Q I h;rw[evalPart_none];exact wag ⟨none,H,I,.none,h⟩
theorem zg4 (h:PE X e te):PO X (some e) (znX te):=by
 intro pins s σ H Q I hw;rw[evalPart_some];refine thn (h pins s σ H _ I hw) fun u s1 ⟨x,H1,I1,r1,q1⟩ =>?_
 obtain⟨i,rfl,q⟩:=q1;obtain⟨t,rfl⟩:=r1;exact⟨some i,H1,I1,.int i t,q⟩
def SlR (X:Cx)(r:V->Option Int->Option Int->Hp->VK->Prop):Prop:=
 ∀(pins:List (Addr×Obj)) (s:Shared) (σ:St) (H:Hp) (x:V) (v vl vu:Value) (lo hi:Option Int) (sl:Addr) (Q:VK),Inv X pins σ H s->RelV x v->s.heap.IsSliceOf sl vl vu .none->IsPart vl lo->IsPart vu hi->r x lo hi H Q->
  ∃T id,typeLookup (.type T) "__getitem__"=pure (some (.builtin id))/\s.TypeIs v T/\wpAny (model X.prog X.w) X.A (getItem v (.ref sl)) (EP X pins σ Q) X.xe s
theorem SlR.or {r r':V->Option Int->Option Int->Hp->VK->Prop}(h:SlR X r)(h':SlR X r'):SlR X (fun x lo hi H Q=>r x lo hi H Q\/r' x lo hi H Q):=by
 intro pins s σ H x v vl vu lo hi sl Q I rx hs pl pu q;rcases q with q | q
 ·exact h pins s σ H x v vl vu lo hi sl Q I rx hs pl pu q
 ·exact h' pins s σ H x v vl vu lo hi sl Q I rx hs pl pu q
def tSl (r:V->Option Int->Option Int->Hp->VK->Prop)(te:TE)(tl th:TO):TE:=fun σ H Q=>te σ H fun x H1=>tl σ H1 fun l H2=>th σ H2 fun u H3=>r x l u H3 Q
theorem zfL {r:V->Option Int->Option Int->Hp->VK->Prop}(hr:SlR X r)(he:PE X e te)(hl:PO X lo tl)(hu:PO X hi th):PE X (.Subscript e (.Slice lo hi none p2) pos) (tSl r te tl th):=by
 intro pins s σ H Q I h;refine Subscript_ (thn (he pins s σ H _ I h) fun v s1 ⟨x,H1,I1,r1,q1⟩ =>?_);refine wpAny_Slice (thn (hl pins s1 σ H1 _ I1 q1) fun vl s2 ⟨l,H2,I2,pl,q2⟩ =>thn (hu pins s2 σ H2 _ I2 q2) fun vu s3 ⟨u,H3,I3,pu,q3⟩ =>?_);rw[evalPart_none];refine wag ?_;have I4:Inv X pins σ H3 {s3 with heap:=s3.heap.push {cls:=.type "slice",data:=.fields #[vl,vu,.none]}}:=I3.kept (t':=s3.toks) fun b ob q=>wab _ q
 obtain⟨T,id,hT,ht,hg⟩:=hr pins {s3 with heap:=s3.heap.push {cls:=.type "slice",data:=.fields #[vl,vu,.none]}} σ H3 x v vl vu l u s3.heap.objs.size Q I4 r1 (Heap.IsSliceOf.new ..) pl pu q3;show wpAny (model X.prog X.w) X.A (subscriptTail e (.Slice lo hi none p2) v (.ref s3.heap.objs.size)) (EP X pins σ Q) X.xe {s3 with heap:=s3.heap.push {cls:=.type "slice",data:=.fields #[vl,vu,.none]}}
 exact tail_any (ops:=[.ref s3.heap.objs.size,v]) ht hT hg (by with_unfolding_all rfl)
def cutV (xs:List V)(lo hi:Option Int):List V:=(xs.drop (HT.sIx xs.length 0 lo)).take (HT.sIx xs.length xs.length hi - HT.sIx xs.length 0 lo)
theorem zc3 (xs:List V)(lo hi:Option Int):(cutV xs lo hi).length<=xs.length:=by
 unfold cutV;rw[wbx,List.length_drop];omega
def rSlT (K:W.Frag):V->Option Int->Option Int->Hp->VK->Prop:=fun x lo hi H Q=>∃a xs,x=.ref a/\SqT K H a xs/\
 ¬(HT.sIx xs.length 0 lo=0/\HT.sIx xs.length xs.length hi=xs.length)/\∀p,H p=none->Q (.ref p) (upd H p (.tup (cutV xs lo hi)))
theorem sl_tup:SlR X (rSlT X.K):=by
 intro pins s σ H x v vl vu lo hi sl Q I rx hs pl pu h;obtain⟨a,xs,rfl,hx,hw,q⟩:=h;cases rx;obtain⟨its,r,ht,hz⟩:=I.tuple hx;have hlen:its.toArray.size=xs.length:=by rw[wac];exact r.length.symm
 refine⟨"tuple",_,PyProof.Rows.slot_tuple_getitem.lookup,ht.typeIs,?_⟩;refine HT.getItem_tuple_cut ht hs pl pu (by rw[hlen];exact hw) ?_ (by rw[hlen];exact hz);rw[hlen];refine⟨.ref s.heap.objs.size,_,I.laid (t':=s.toks) (o:=.tup (cutV xs lo hi)) (fun b ob q=>wab _ q) (wam _) ?_,rfl,q _ (I.hok.fresh (wam _))⟩;exact⟨wan (zc3 xs lo hi) hz,_,(r.drop (HT.sIx xs.length 0 lo)).take (HT.sIx xs.length xs.length hi - HT.sIx xs.length 0 lo),IsTup.new _ _⟩
def znY (K:W.Frag):R2:=fun x y H Q=>∃a b xs ys,x=.ref a/\y=.ref b/\SqT K H a xs/\SqT K H b ys/\xs≠[]/\xs.length+ys.length<=sizeLine/\
 (ys = []->Q (.ref a) H)/\(ys≠[]->∀p,H p=none->Q (.ref p) (upd H p (.tup (xs++ys))))
theorem Vals.nil_iff {xs:List V}{us:List Value}(r:Vals xs us):us = []↔xs = []:=by
 cases r with
 | nil=>simp
 | cons _ _=>simp
theorem zkx:OpR X (binaryOp .Add) (znY X.K):=by
 intro pins s σ H x y v u Q I rx ry h;obtain⟨a,b,xs,ys,rfl,rfl,ha,hb,hx,hz,q1,q2⟩:=h;cases rx;cases ry;obtain⟨its,r1,p1,_⟩:=I.tuple ha;obtain⟨its2,r2,p2,_⟩:=I.tuple hb;refine HT.cat_tup p1 p2 (fun z=>hx (r1.nil_iff.mp z)) (fun z=>⟨.ref a,H,I,rfl,q1 (r2.nil_iff.mp z)⟩) (fun z=>?_) (by rw[<-r1.length,<-r2.length];exact hz);refine⟨.ref s.heap.objs.size,_,I.laid (t':=s.toks) (o:=.tup (xs++ys)) (fun b ob q=>wab _ q) (wam _) ?_,rfl,q2 (fun w=>z (r2.nil_iff.mpr w)) _ (I.hok.fresh (wam _))⟩;exact⟨by rw[wat];exact hz,_,r1.append r2,IsTup.new _ _⟩
end
def ixN (n:Nat)(i:Int):Option Nat:=if 0<=i then(if i<n then some i.toNat else none) else if -(n:Int)<=i then some (i+n).toNat else none
def atI {α:Type}(xs:List α)(i:Int):Option α:=(ixN xs.length i).bind fun j=>xs[j]?
theorem zg5 {n:Nat}{i:Int}{j:Nat}(h:ixN n i=some j):seqIndex? i n=some j/\j<n/\-(n:Int)<=i/\i<n:=by
 unfold ixN at h;by_cases h0:0<=i
 ·rw[if_pos h0] at h;by_cases h1:i<n
  ·rw[if_pos h1] at h;have e:i.toNat=j:=wav h
   exact⟨by rw[seqIndex_of h0 h1,e],by omega,by omega,h1⟩
  ·rw[if_neg h1] at h;cases h
 ·rw[if_neg h0] at h;by_cases h1:-(n:Int)<=i
  ·rw[if_pos h1] at h;have e:(i+n).toNat=j:=wav h
   exact⟨by rw[seqIndex_neg (by omega) h1,e],by omega,h1,by omega⟩
  ·rw[if_neg h1] at h;cases h
theorem zfk {α:Type}{xs:List α}{i:Int}{v:α}(h:atI xs i=some v):∃j,seqIndex? i xs.length=some j/\xs[j]?=some v/\j<xs.length/\-(xs.length:Int)<=i/\i<xs.length:=by
 unfold atI at h;cases e:ixN xs.length i with
 | none=>rw[e] at h;cases h
 | some j=>
   rw[e] at h;obtain⟨h1,h2,h3,h4⟩:=zg5 e;exact⟨j,h1,h,h2,h3,h4⟩
theorem zaL {α:Type}{xs:List α}{j:Nat}{v:α}(h:xs[j]?=some v):atI xs (j:Int)=some v:=by
 have hj:j<xs.length:=(wal.mp h).1
 have e:ixN xs.length (j:Int)=some j:=by
  unfold ixN;rw[if_pos (by omega),if_pos (by omega)];simp
 unfold atI;rw[e];exact h
def zb3 (b:Expr):Prop:=∀o i,subscripted b false o i=operate [o,i] (getItem o i)
def IxR (X:Cx)(r:R2):Prop:=
 ∀(value slice:Expr) (pins:List (Addr×Obj)) (s:Shared) (σ:St) (H:Hp) (x y:V) (v u:Value) (Q:VK),Inv X pins σ H s->RelV x v->RelV y u->r x y H Q->
  subscripted slice false v u=operate [v,u] (getItem v u)->wpAny (model X.prog X.w) X.A (subscriptTail value slice v u) (EP X pins σ Q) X.xe s
def MtR (X:Cx)(id:String)(r:V->List V->Hp->VK->Prop):Prop:=
 ∀(pins:List (Addr×Obj)) (s:Shared) (σ:St) (H:Hp) (x:V) (xs:List V) (v:Value) (us:List Value) (Q:VK),Inv X pins σ H s->RelV x v->Vals xs us->r x xs H Q->
  wpAny (model X.prog X.w) X.A (call (.builtin id) (v::us)) (EP X pins σ Q) X.xe s
section
variable {X:Cx}{a b:Expr}{ta tb:TE}{pos:Pos}
theorem IxR.or {r r':R2}(h:IxR X r)(h':IxR X r'):IxR X (fun x y H Q=>r x y H Q\/r' x y H Q):=by
 intro value slice pins s σ H x y v u Q I rx ry q hs;rcases q with q | q
 ·exact h value slice pins s σ H x y v u Q I rx ry q hs
 ·exact h' value slice pins s σ H x y v u Q I rx ry q hs
theorem zgt {r:R2}(hr:IxR X r)(ha:PE X a ta)(hb:PE X b tb)(hs:zb3 b):PE X (.Subscript a b pos) (tOp r ta tb):=by
 intro pins s σ H Q I h;exact Subscript_ (binT ha hb I h fun v u s2 x y H2 I2 rx ry q=>hr a b pins s2 σ H2 x y v u Q I2 rx ry q (hs _ _))
def rIxL (K:W.Frag):R2:=fun x y H Q=>∃p xs i v,x=.ref p/\y=.int i/\SqL K H p xs/\atI xs i=some v/\Q v H
def rIxT (K:W.Frag):R2:=fun x y H Q=>∃p xs i v,x=.ref p/\y=.int i/\SqT K H p xs/\atI xs i=some v/\Q v H
def rIxS:R2:=fun x y H Q=>∃z i c,x=.str z/\y=.int i/\z.length<=sizeLine/\atI z.cps.toList i=some c/\Q (.str ⟨#[c]⟩) H
theorem ix_list:IxR X (rIxL X.K):=by
 intro value slice pins s σ H x y v u Q I rx ry h hs;obtain⟨p,xs,i,z,rfl,rfl,hq,he,q⟩:=h;cases rx;obtain⟨t,rfl⟩:=ry;obtain⟨its,r,pl,hz⟩:=I.list hq;obtain⟨j,h1,h2,h3,h4,h5⟩:=zfk he;obtain⟨w,ew,rw'⟩:=r.get h2;have hl:=r.length
 have hn:=zc2
 have fin:EP X pins σ Q w s:=⟨z,H,I,rw',q⟩
 by_cases h0:0<=i
 ·have hj:i.toNat=j:=by
   rw[seqIndex_of h0 h5] at h1;exact wav h1
  exact item_listR pl.isList h0 (by omega) (by rw[hj];simpa using ew) fin hs
 ·have hj:(i+(its.toArray.size:Int)).toNat=j:=by
   rw[seqIndex_neg (by omega) h4] at h1;rw[wac,<-hl];exact wav h1
  exact subscriptTail_builtinR (x:=w) pl.isList.typeIs slot_list_getitem.lookup
   (wpAny_getItem_list_neg (Q:=fun r s'=>r=w/\EP X pins σ Q r s') pl.isList (by omega) (by rw[wac] <;> omega) (by omega) (by rw[hj];simpa using ew) ⟨rfl,fin⟩) hs
theorem ix_tup:IxR X (rIxT X.K):=by
 intro value slice pins s σ H x y v u Q I rx ry h hs;obtain⟨p,xs,i,z,rfl,rfl,hq,he,q⟩:=h;cases rx;obtain⟨t,rfl⟩:=ry;obtain⟨its,r,pl,hz⟩:=I.tuple hq;obtain⟨j,h1,h2,h3,h4,h5⟩:=zfk he;obtain⟨w,ew,rw'⟩:=r.get h2;have hl:=r.length
 have hn:=zc2
 have fin:EP X pins σ Q w s:=⟨z,H,I,rw',q⟩
 exact subscriptTail_builtinR (x:=w) pl.typeIs slot_tuple_getitem.lookup
  (getItem_tuple (j:=j) (Q:=fun r s'=>r=w/\EP X pins σ Q r s') pl (by omega) (by omega) (by rw[wac,<-hl];exact h1) (by simpa using ew) ⟨rfl,fin⟩) hs
theorem zmh:IxR X rIxS:=by
 intro value slice pins s σ H x y v u Q I rx ry h hs;obtain⟨z,i,c,rfl,rfl,hz,he,q⟩:=h;obtain⟨t,rfl⟩:=rx;obtain⟨t',rfl⟩:=ry;obtain⟨j,h1,h2,h3,h4,h5⟩:=zfk he;have hl:z.cps.toList.length=z.length:=by simp[Str.length]
 rw[hl] at h1 h4 h5;have hn:=zc2
 exact tail_any (typeIs_str s z t) slot_str_getitem.lookup (getItem_str (c:=c) (by
  have e1:decide (i < -(2 ^ 63:Int))=false:=wau (by omega)
  have e2:decide (i≥2 ^ 63)=false:=wau (by omega)
  rw[e1,e2,Bool.or_false]) (by rw[h1];simpa using h2) ⟨.str ⟨#[c]⟩,H,I.tok _,⟨_,rfl⟩,q⟩) hs
def rIx (K:W.Frag):R2:=fun x y H Q=>rIxL K x y H Q\/rIxT K x y H Q\/rIxS x y H Q
theorem zfM:IxR X (rIx X.K):=ix_list.or (ix_tup.or zmh)
theorem zgu (its:List Value)(n j:Nat)(u:Value):Obj.mapSeq (·.setIfInBounds j u) {cls:=.type "list",data:=.seq its.toArray n} = {cls:=.type "list",data:=.seq (its.set j u).toArray n}:=by
 simp[Obj.mapSeq]
theorem Inv.lst {pins:List (Addr×Obj)}{σ:St}{H:Hp}{s:Shared}{p:Addr}{xs:List V}(I:Inv X pins σ H s)(h:H p=some (.lst xs)) :
 ∃(its:List Value) (n:Nat),Vals xs its/\s.heap.get? p=some {cls:=.type "list",data:=.seq its.toArray n}/\xs.length<=sizeLine:=by
 obtain⟨z,its,n,r,e⟩:=I.hok p _ h;exact⟨its,n,r,e,z⟩
theorem Inv.lstUpd {pins:List (Addr×Obj)}{σ:St}{H:Hp}{s:Shared}{p:Addr}{xs ys:List V}{its its':List Value}{n n':Nat}{f:Obj->Obj}(I:Inv X pins σ H s)(h:H p=some (.lst xs))
 (ho:s.heap.get? p=some {cls:=.type "list",data:=.seq its.toArray n}) (hf:f {cls:=.type "list",data:=.seq its.toArray n} = {cls:=.type "list",data:=.seq its'.toArray n'}) (r:Vals ys its') (hz:ys.length<=sizeLine) (t:Nat) :
 Inv X pins σ (upd H p (.lst ys)) {s with heap:=s.heap.update p f,toks:=t}:=by
 have e:(s.heap.update p f).get? p=some {cls:=.type "list",data:=.seq its'.toArray n'}:=by
  rw[waR f ho (by rw[hf] <;> rfl),hf]
 refine I.write (x:=p) (e:=p) (by rw[h];trivial) (.inl rfl) (fun b u hb q=>(waE _ _ (Ne.symm hb)).trans q) ⟨_,e⟩ ?_;exact⟨hz,its',n',r,e⟩
def znZ:V->V->V->Hp->(Hp->Prop)->Prop:=fun o i v H Q=>∃p xs k j,o=.ref p/\i=.int k/\H p=some (.lst xs)/\ixN xs.length k=some j/\Q (upd H p (.lst (xs.set j v)))
theorem zfN:PSet X znZ:=by
 intro pins s σ H o i v ov iv u Q I ro ri rv h;obtain⟨p,xs,k,j,rfl,rfl,hp,hj,q⟩:=h;cases ro;obtain⟨t,rfl⟩:=ri;obtain⟨its,n,r,ho,hz⟩:=I.lst hp;obtain⟨h1,h2,h3,h4⟩:=zg5 hj;have hl:=r.length
 have hn:=zc2
 have I':Inv X pins σ (upd H p (.lst (xs.set j v))) {s with heap:=s.heap.update p (Obj.mapSeq (·.setIfInBounds j u))}:=
  I.lstUpd hp ho (zgu its n j u) (r.set rv j) (by rw[List.length_set];exact hz) s.toks
 by_cases h0:0<=k
 ·have hk:k.toNat=j:=by
   rw[seqIndex_of h0 h4] at h1;exact wav h1
  exact PySem.W.ki_setAt ho h0 (by omega) (by rw[wac,<-hl];exact h4) (by rw[hk];exact⟨_,I',q⟩)
 ·have hk:(k+(its.toArray.size:Int)).toNat=j:=by
   rw[seqIndex_neg (by omega) h3] at h1;rw[wac,<-hl];exact wav h1
  exact PySem.W.ki_setBack ho (by omega) (by rw[wac,<-hl];exact h3) (by omega) (by rw[hk];exact⟨_,I',q⟩)
theorem zeA (lo hi:Option Int)(n:Nat):(sliceBounds lo hi none n).1=((HT.sIx n 0 lo:Nat):Int)/\(sliceBounds lo hi none n).2.1=((HT.sIx n n hi:Nat):Int)/\(sliceBounds lo hi none n).2.2=1:=by
 refine⟨?_,?_,rfl⟩
 ·cases lo with
  | none=>simp[sliceBounds,HT.sIx]
  | some i=>
    simp only[sliceBounds,HT.sIx,Option.getD_none,show(1:Int)>0 by decide,if_true];by_cases h:i<0
    ·simp only[h,if_true] <;> omega
    ·simp only[h,if_false] <;> omega
 ·cases hi with
  | none=>simp[sliceBounds,HT.sIx]
  | some i=>
    simp only[sliceBounds,HT.sIx,Option.getD_none,show(1:Int)>0 by decide,if_true];by_cases h:i<0
    ·simp only[h,if_true] <;> omega
    ·simp only[h,if_false] <;> omega
theorem zdT (its:List Value)(lo hi:Option Int):slicePick its.toArray lo hi none=((its.drop (HT.sIx its.length 0 lo)).take (HT.sIx its.length its.length hi - HT.sIx its.length 0 lo)).toArray:=by
 obtain⟨h1,h2,h3⟩:=zeA lo hi its.toArray.size;unfold slicePick;rw[h1,h2,h3];simp only[sliceRange_one,pick_run,wac] <;> rfl
def rSlL (K:W.Frag):V->Option Int->Option Int->Hp->VK->Prop:=fun x lo hi H Q=>∃a xs,x=.ref a/\SqL K H a xs/\∀p,H p=none->Q (.ref p) (upd H p (.lst (cutV xs lo hi)))
theorem sl_list:SlR X (rSlL X.K):=by
 intro pins s σ H x v vl vu lo hi sl Q I rx hs pl pu h;obtain⟨a,xs,rfl,hx,q⟩:=h;cases rx;obtain⟨its,r,ht,hz⟩:=I.list hx;have hlen:=r.length
 refine⟨"list",_,slot_list_getitem.lookup,ht.isList.typeIs,?_⟩;refine wpAny_getItem_list_slice ht.isList hs pl pu .none (by simp) ?_ (by rw[wac] <;> omega);rw[zdT,<-hlen];refine⟨.ref s.heap.objs.size,_,I.laid (t':=s.toks) (o:=.lst (cutV xs lo hi)) (fun b ob q=>wab _ q) (wam _) ?_,rfl,q _ (I.hok.fresh (wam _))⟩;exact⟨wan (zc3 xs lo hi) hz,_,0,(r.drop (HT.sIx xs.length 0 lo)).take (HT.sIx xs.length xs.length hi - HT.sIx xs.length 0 lo),war _ rfl⟩
theorem zeB:zcc X (.builtin "len") (fun xs H Q=>∃p ys,xs = [.ref p]/\(SqL X.K H p ys\/SqT X.K H p ys)/\Q (.int ys.length) H):=by
 intro pins s σ H xs us Q I r h;obtain⟨p,ys,rfl,hq,q⟩:=h;obtain⟨u,rfl,rx⟩:=zis r;cases rx;have hn:=zc2
 rcases hq with hq | hq
 ·obtain⟨its,r',pl,hz⟩:=I.list hq;have hlen:=r'.length
  exact Calls.call_len_list pl.isList (by simp only[wac] <;> omega) ⟨.int ys.length,H,I.tok _,⟨s.toks+1,by rw[wac,hlen]⟩,q⟩
 ·obtain⟨its,r',pl,hz⟩:=I.tuple hq;have hlen:=r'.length
  exact len_tuple pl (by simp only[wac] <;> omega) ⟨.int ys.length,H,I.tok _,⟨s.toks+1,by rw[wac,hlen]⟩,q⟩
theorem zce:zcc X (.type "tuple") (fun xs H Q=>∃p ys,xs = [.ref p]/\((SqL X.K H p ys/\∀l,H l=none->Q (.ref l) (upd H l (.tup ys)))\/(SqT X.K H p ys/\Q (.ref p) H))):=by
 intro pins s σ H xs us Q I r h;obtain⟨p,ys,rfl,h⟩:=h;obtain⟨u,rfl,rx⟩:=zis r;cases rx;rcases h with⟨hq,q⟩ | ⟨hq,q⟩
 ·obtain⟨its,r',pl,hz⟩:=I.list hq;have hlen:=r'.length
  refine call_tuple_list pl.isList (fun h' kp=>?_) (by simp only[wac] <;> omega);have I1:Inv X pins σ H {s with heap:=h'}:=I.kept (t':=s.toks) kp
  have I2:Inv X pins σ (upd H h'.objs.size (.tup ys)) {s with heap:=h'.push {cls:=.type "tuple",data:=.seq its.toArray}}:=
   I1.laid (t':=s.toks) (fun b o e=>wab _ e) (wam _) (show ObjOk X.prog X.w _ _ _ (.tup ys) from⟨hz,its,r',IsTup.new _ _⟩)
  exact⟨.ref h'.objs.size,_,I2,rfl,q _ (I1.hok.fresh (wam _))⟩
 ·obtain⟨its,r',pl,hz⟩:=I.tuple hq;exact call_tuple_same pl ⟨.ref p,H,I,rfl,q⟩
def tyV (K:W.Frag)(T:String)(x:V)(H:Hp):Prop:=match x with
 | .str _=>T = "str"
 | .int _=>T = "int"
 | .ref p=>(T = "list"/\∃xs,SqL K H p xs)\/(T = "tuple"/\∃o,K.lookup p=some o/\o.cls=.type "tuple"/\o.dict=none)\/
  (T = "dict"/\((∃kvs,H p=some (.dK kvs))\/∃kvs,H p=some (.dT kvs)))\/(T = "set"/\∃S n,H p=some (.set S n))
 | _=>False
theorem zmi {pins:List (Addr×Obj)}{σ:St}{H:Hp}{s:Shared}{T:String}{x:V}{v:Value}(I:Inv X pins σ H s)(r:RelV x v)(ty:tyV X.K T x H) :
 s.TypeIs v T/\∀a,v=.ref a->∃ob,s.heap.get? a=some ob/\ob.dict=none:=by
 cases x with
 | str z=>
   obtain⟨t,rfl⟩:=r;cases(show T = "str" from ty);exact⟨typeIs_str s z t,fun _ e=>nomatch e⟩
 | int i=>
   obtain⟨t,rfl⟩:=r;cases(show T = "int" from ty);exact⟨typeIs_int s i t,fun _ e=>nomatch e⟩
 | ref p=>
   cases r;rcases ty with⟨rfl,xs,hq⟩ | ⟨rfl,o,hk,hc,hd⟩ | ⟨rfl,hk⟩ | ⟨rfl,S,n,hk⟩
   ·obtain⟨its,_,pl,_⟩:=I.list hq;refine⟨pl.isList.typeIs,fun a e=>?_⟩;cases e;obtain⟨o,n,e,c,hd,_⟩:=pl;exact⟨o,e,hd⟩
   ·refine⟨⟨o,I.kIn p o hk,hc⟩,fun a e=>?_⟩;cases e;exact⟨o,I.kIn _ o hk,hd⟩
   ·have z:∃o,s.heap.get? p=some o/\o.ExactDict:=by
     rcases hk with⟨kvs,hk⟩ | ⟨kvs,hk⟩
     ·obtain⟨_,_,_,_,o,_,_,e,ex,_⟩:=I.hok p _ hk;exact⟨o,e,ex⟩
     ·obtain⟨_,_,_,_,o,_,_,e,ex,_⟩:=I.hok p _ hk;exact⟨o,e,ex⟩
    obtain⟨o,e,ex⟩:=z;refine⟨⟨o,e,ex.1⟩,fun a e2=>?_⟩;cases e2;exact⟨o,e,ex.2.1⟩
   ·obtain⟨o,_,_,_,e,ex,_⟩:=I.hok p _ hk;refine⟨⟨o,e,ex.1⟩,fun a e2=>?_⟩;cases e2;exact⟨o,e,ex.2.1⟩
 | _=>exact False.elim ty
def tBM (K:W.Frag)(T:String)(r:V->List V->Hp->VK->Prop)(to:TE)(t:TA):TE:=fun σ H Q=>to σ H fun x H1=>tyV K T x H1/\t σ H1 fun xs H2=>r x xs H2 Q
variable {o e:Expr}{es:List Expr}{to:TE}{t:TA}{name:Str}{apos cpos:Pos}{T id:String}{r:V->List V->Hp->VK->Prop}
theorem zmj (pa:PlainAttrs T)(slot:Slot T name id)(hty:typeOf (.builtin id)=pure (.type "method_descriptor"))(hm:MtR X id r)(ho:PE X o to)(ha:PA X (e::es) t)
 (hbase:attributeBase o name X.env (eval o X.env)=eval o X.env:=by rfl)
 (hfew:((backTo cpos (starEach (e::es) X.env)).all (fun x=>!x.1)&&(backToKw cpos (keywordEach [] X.env)).all (fun x=>x.1.isSome)
  && decide ((e::es).length+([]:List Keyword).length+(if([]:List Keyword).isEmpty then 0 else 1)<30))=true:=by rfl)
 (hline:(apos.endLine == cpos.line)=true:=by rfl) (hs:starEach (e::es) X.env=(false,eval e X.env)::starEach es X.env:=by rfl) (hplain:(backTo cpos (starEach es X.env)).any (·.1)=false:=by rfl) :
 PE X (.Call (.Attribute o name apos) (e::es) [] cpos) (tBM X.K T r to t):=by
 intro pins s σ H Q I h;refine wpAny_Call_method_late hbase hfew hline rfl (thn (ho pins s σ H _ I h) fun v s1 ⟨x,H1,I1,r1,ty,q1⟩ =>?_);obtain⟨h1,h2⟩:=zmi I1 r1 ty;refine⟨T,id,pa,slot,hty,h1,h2,?_⟩;have hA:=ha cpos pins s1 σ H1 _ I1 q1
 rw[hs] at hA⊢;refine Calls.callWith_builtin (by show(false||(backTo cpos (starEach es X.env)).any (·.1))=false;rw[hplain] <;> rfl) (Calls.evalArgs_plain ?_);exact thn hA fun us s2 ⟨vs,H2,I2,r2,q2⟩ =>hm pins s2 σ H2 x vs v us Q I2 r1 r2 q2
end
def MtM (X:Cx)(id:String)(r:V->List V->Hp->VK->Prop):Prop:=
 ∀(pins:List (Addr×Obj)) (s:Shared) (σ:St) (H:Hp) (x:V) (xs:List V) (v:Value) (us:List Value) (Q:VK),Inv X pins σ H s->RelV x v->Vals xs us->r x xs H Q->
  wpAny (model X.prog X.w) X.A (call (.builtin id) (v::us)) (EP X pins σ Q) X.xe s
theorem Vals.one:∀{x:V}{us:List Value},Vals [x] us->∃u,us = [u]/\RelV x u
 | _,_,.cons r .nil=>⟨_,rfl,r⟩
theorem Vals.reverse {xs:List V}{us:List Value}(h:Vals xs us):Vals xs.reverse us.reverse:=by
 induction h with
 | nil=>exact .nil
 | cons r t ih=>rw[wbH,wbH];exact Vals.append ih (.cons r .nil)
theorem Vals.rep {xs:List V}{us:List Value}(h:Vals xs us):∀k:Nat,Vals (List.replicate k xs).flatten (List.replicate k us).flatten
 | 0=>.nil
 | k+1=>by
   rw[waQ,waQ,wbq,wbq];exact Vals.append h (Vals.rep h k)
theorem zeC (its:List Value):∀(k:Nat) (acc:List Value),
 List.foldl (fun x1 x2=>x1++x2) acc.toArray (List.replicate k its.toArray)=(acc++(List.replicate k its).flatten).toArray
 | 0,acc=>by simp
 | k+1,acc=>by
   have e:acc.toArray++its.toArray=(acc++its).toArray:=by simp
   have e2:(acc++its)++(List.replicate k its).flatten=acc++(List.replicate (k+1) its).flatten:=by
    rw[waQ,wbq,wbr]
   rw[<-e2,<-zeC its k (acc++its),<-e,waQ,List.foldl_cons]
section
variable {X:Cx}{pins:List (Addr×Obj)}{σ:St}{H:Hp}{s:Shared}{l b:Addr}{xs ys zs:List V}
theorem Inv.lset {its its':List Value}{n:Nat}{f:Array Value->Array Value}{t':Nat}(I:Inv X pins σ H s)(hH:H l=some (.lst xs))
 (e:s.heap.get? l=some {cls:=.type "list",data:=.seq its.toArray n}) (hf:f its.toArray=its'.toArray) (hv:Vals ys its') (hz:ys.length<=sizeLine) :
 Inv X pins σ (upd H l (.lst ys)) {s with heap:=s.heap.update l (Obj.mapSeq f),toks:=t'}:=by
 have q:=PySem.IsL.update e f
 rw[hf] at q;refine I.write (x:=l) (e:=l) (by rw[hH];exact trivial) (.inl rfl) (fun b' u hb hu=>(waE s.heap (Obj.mapSeq f) (Ne.symm hb)).trans hu) ⟨_,q⟩ ?_;exact⟨hz,its',_,hv,q⟩
theorem Inv.lnew {its:List Value}{t':Nat}(I:Inv X pins σ H s)(hv:Vals ys its)(hz:ys.length<=sizeLine) :
 Inv X pins σ (upd H s.heap.objs.size (.lst ys)) {s with heap:=s.heap.push {cls:=.type "list",data:=.seq its.toArray},toks:=t'}:=
 I.laid (fun _ _ q=>wab _ q) (wam _) ⟨hz,its,0,hv,war _ rfl⟩
theorem Inv.fresh (I:Inv X pins σ H s):H s.heap.objs.size=none:=I.hok.fresh (wam _)
theorem Inv.lstM (I:Inv X pins σ H s)(hH:H l=some (.lst xs)):xs.length<=sizeLine/\∃(its:List Value) (n:Nat),Vals xs its/\xs.length=its.length/\s.heap.get? l=some {cls:=.type "list",data:=.seq its.toArray n}:=by
 obtain⟨z,its,n,r,e⟩:=I.hok l _ hH;exact⟨z,its,n,r,r.length,e⟩
theorem zfO {n:Nat}(h:n<=sizeLine):Builtin.List.listTooLong n=false:=by
 unfold Builtin.List.listTooLong;exact wau (by omega)
end
section
variable {X:Cx}
def zfl:V->List V->Hp->VK->Prop:=fun x vs H Q=>∃l xs y,x=.ref l/\vs = [y]/\H l=some (.lst xs)/\xs.length<sizeLine/\Q .non (upd H l (.lst (xs++[y])))
theorem zeD:MtM X "list.append" zfl:=by
 intro pins s σ H x vs v us Q I rx rv h;obtain⟨l,xs,y,rfl,rfl,hH,hz,q⟩:=h;cases rx;obtain⟨u,rfl,ru⟩:=rv.one;obtain⟨z,its,n,r,hl,e⟩:=I.lstM hH;refine call_meets F.slot_list_append ⟨_,e,rfl⟩ F.entry_list_append (F.args_list_append_2 _ _) (PySem.list_append l its.toArray n u (by rw[wac];omega)) ⟨e,?_⟩;refine⟨.non,_,I.lset (its':=its++[u]) hH e (by simp) (r.append (.cons ru .nil)) ?_,rfl,q⟩;rw[wat,List.length_singleton];omega
def zg6:V->List V->Hp->VK->Prop:=fun x vs H Q=>∃l b xs zs,x=.ref l/\vs = [.ref b]/\H l=some (.lst xs)/\H b=some (.lst zs)/\xs.length+zs.length<=sizeLine/\Q .non (upd H l (.lst (xs++zs)))
theorem zg7:MtM X "list.extend" zg6:=by
 intro pins s σ H x vs v us Q I rx rv h;obtain⟨l,b,xs,zs,rfl,rfl,hH,hB,hz,q⟩:=h;cases rx;obtain⟨u,rfl,ru⟩:=rv.one;cases ru;obtain⟨z,its,n,r,hl,e⟩:=I.lstM hH;obtain⟨z2,its2,n2,r2,hl2,e2⟩:=I.lstM hB;have hsz:its.toArray.size+its2.toArray.size<=sizeLine:=by rw[wac,wac];omega
 have hlong:¬(!its.toArray.isEmpty&&Builtin.List.listTooLong (its.toArray.size+its2.toArray.size))=true:=by
  rw[zfO hsz,Bool.and_false];exact wbz
 refine call_meets F.slot_list_extend ⟨_,e,rfl⟩ F.entry_list_extend (F.args_list_extend_2 _ _)
  (AutoSeq1.list_extend_list_list_0 l its.toArray n b its2.toArray n2 hlong (by rw[wac];omega) (by omega)) ⟨e,e2,?_⟩
 refine⟨.non,_,I.lset (its':=its++its2) hH e (by simp) (r.append r2) ?_,rfl,q⟩;rw[wat];omega
def rCat:R2:=fun x y H Q=>∃l b xs zs,x=.ref l/\y=.ref b/\H l=some (.lst xs)/\H b=some (.lst zs)/\xs.length+zs.length<=sizeLine/\∀p,H p=none->Q (.ref p) (upd H p (.lst (xs++zs)))
theorem op_cat:OpR X (binaryOp .Add) rCat:=by
 intro pins s σ H x y v u Q I rx ry h;obtain⟨l,b,xs,zs,rfl,rfl,hH,hB,hz,q⟩:=h;cases rx;cases ry;obtain⟨z,its,n,r,hl,e⟩:=I.lstM hH;obtain⟨z2,its2,n2,r2,hl2,e2⟩:=I.lstM hB;refine PySem.P.add_list e e2 ?_ (by rw[wac,wac];omega);have ea:its.toArray++its2.toArray=(its++its2).toArray:=by simp
 rw[ea];exact⟨.ref _,_,I.lnew (t':=s.toks) (r.append r2) (by rw[wat];omega),rfl,q _ I.fresh⟩
def rRep:R2:=fun x y H Q=>∃l k xs,x=.ref l/\y=.int k/\H l=some (.lst xs)/\-(2 ^ 63)<=k/\k<2 ^ 63/\xs.length*k.toNat<=sizeLine/\
 ∀p,H p=none->Q (.ref p) (upd H p (.lst (List.replicate k.toNat xs).flatten))
theorem zky {α:Type}(xs:List α)(k:Nat):(List.replicate k xs).flatten.length=k*xs.length:=by
 induction k with
 | zero=>simp
 | succ k ih=>rw[waQ,wbq,wat,ih,Nat.succ_mul,Nat.add_comm]
theorem zmk:OpR X (binaryOp .Mult) rRep:=by
 intro pins s σ H x y v u Q I rx ry h;obtain⟨l,k,xs,rfl,rfl,hH,h1,h2,hz,q⟩:=h;cases rx;obtain⟨t,rfl⟩:=ry;obtain⟨z,its,n,r,hl,e⟩:=I.lstM hH;have hlen:its.toArray.size*k.toNat<=sizeLine:=by rw[wac,<-hl];exact hz
 have hcap:¬its.toArray.size*k.toNat>(2 ^ 63 - 1) / 8:=by
  have:(sizeLine:Nat)<=(2 ^ 63 - 1) / 8:=by decide
  omega
 have hfit:¬(!Builtin.List.listFitsIndex k)=true:=by
  rw[fitsIndex_both h1 h2];exact wbz
 have hlong:¬Builtin.List.listTooLong (its.toArray.size*k.toNat)=true:=by
  rw[zfO hlen];exact wbz
 have hnew:List.foldl (fun x1 x2=>x1++x2) #[] (List.replicate (if its.toArray.isEmpty=true then 0 else k.toNat) its.toArray)=(List.replicate k.toNat its).flatten.toArray:=by
  have f0:∀m:Nat,List.foldl (fun x1 x2=>x1++x2) #[] (List.replicate m its.toArray)=(List.replicate m its).flatten.toArray:=fun m=>by
   have:=zeC its m []
   rw[wcr] at this;exact this
  rw[f0];cases its with
  | nil=>simp
  | cons a r'=>rw[if_neg (by simp)]
 refine wpAny_binaryOp_repeat_ref (T:="list") (U:="int") (by decide) ⟨_,e,rfl⟩ (fun s'=>typeIs_int s' k t) noFill_list_mul F.fills_int_mul F.slot_int_rmul repeat_list F.slot_int_index.lookup
  (call_meets F.slot_int_rmul (typeIs_int s k t) F.entry_int_rmul (F.args_int_rmul_2 _ _) (int___rmul___int_list k t l its.toArray n)
   ⟨e,rfl,⟨_,e,rfl⟩,call_meets F.slot_list_mul ⟨_,e,rfl⟩ F.entry_list_mul (F.args_list_mul_2 _ _) (AutoListH.list___mul___list_int_3 l its.toArray n k t hfit hcap hlong) ⟨e,?_⟩⟩)
 rw[hnew];exact⟨.ref _,_,I.lnew (t':=s.toks) (r.rep k.toNat) (by rw[zky,Nat.mul_comm];exact hz),rfl,q _ I.fresh⟩
end
section
variable {prog:Program}{w:World}{A:Around}{E:Value->Shared->Prop}{s:Shared}
end
section
variable {X:Cx}
end
end L2
namespace Att
open PySem PySem.W PySem.Calls PyProof.Rows
theorem zc4 {P:Params}{h:Heap}:∀(ns:List Int) (vs:List Value),WellAll P h vs (ns.map WData.int)->IntsAre vs ns:=by
 intro ns;induction ns with
 | nil=>
   intro vs w;rw[List.map_nil] at w;cases w;exact .nil
 | cons n ns ih=>
   intro vs w;rw[wbf] at w;cases w with
   | cons a b=>
     cases a;exact .cons _ _ (ih _ b)
theorem zg8 {l:OpenLaw}{n:Nat}(hn:l.most=some n){P:Params}{h:Heap}{args:List WData}{vals:List Value}
 (hpre:l.row.toRowW.claim.pre args=true) (hwl:WellAll P h vals args) :
 ∃a vs ns,vals = [Value.ref a]/\args = [WData.list (ns.map WData.int)]/\h.get? a=some {cls:=.type "list",data:=.seq vs.toArray}/\IntsAre vs ns/\ns.length<=n:=by
 have hsh:WShape.hasAll [] args [.list .int]=true:=(pre_splitW hpre).1
 have hc:l.pre.holds [] {args:=args}=true:=(pre_splitW hpre).2
 obtain⟨d,r,rfl,h1,h2⟩:=hasAllW_cons hsh;obtain rfl:=hasAllW_nil h2;obtain⟨xs,rfl,h3⟩:=hasW_list h1;obtain⟨ns,rfl⟩:=items_int h3;have hlen:ns.length<=n:=by
  unfold OpenLaw.pre at hc;have h4:(WTm.not (.lt (.lit (.int (n:Int))) (.len (.arg 0)))).holds [] {args:=[.list (ns.map .int)]}=true:=by
   have h4:=(holds_andW hc).1
   rw[hn] at h4;exact h4
  have h5:=condW_of h4 (w_not (w_lt w_lit (w_len_list (w_arg rfl))))
  rw[wao] at h5;refine Nat.le_of_not_lt fun q=>?_
  have q':(n:Int)<((ns.length:Nat):Int):=by omega
  first
   | (rw[waB q'] at h5;exact absurd h5 (by decide))
   | (simp at h5;omega)
 cases hwl with
 | cons w1 w2=>
   cases w2;cases w1 with
   | list ho hall=>exact⟨_,_,ns,rfl,rfl,ho,zc4 ns _ hall,hlen⟩
theorem zg9 (l:OpenLaw)(args:List WData):l.row.toRowW.claim.post args (.bool true) args=true:=
 postW_of (r:=l.row.toRowW) (X:=(true == true))
  (show WShape.has [] (.bool true) .bool=true by first | rfl | decide | simp[WShape.has,WShape.arms,WShape.armsAll])
  (show(WTm.eq .res (.lit (.bool true))).value [] {args:=args,res:=some (.bool true),after:=args}=some (.bool (true == true)) from w_eq_bool (w_res rfl) w_lit) rfl
theorem attach_call {l:OpenLaw}{n:Nat}{q:Program}{loose:List Str}{XP:(Str->Option Value)->Heap->Prop}{YP:World->Heap->Prop}{d:DefRec}
 (hn:l.most=some n) (hdf:d.params.defaults = [])
 (call:∀(w:World) (s₀ s₁:Shared) (mg mb:Str->Option Value) (fa:Addr) (o:Obj) (pm cd doc:Value) (a:Addr) (vs:List Value) (ns:List Int),
  Ground q loose [] XP w s₀ mg mb s₁.heap->YP w s₁.heap->
  s₁.heap.get? fa=some o->o.data=.func (docDef d.name d.params d.body d.scope pm cd doc)->s₁.heap.CodeRec cd d.name->mg d.name=some (.ref fa)->
  s₁.heap.get? a=some {cls:=.type "list",data:=.seq vs.toArray}->IntsAre vs ns->ns.length<=n->s₁.gens = #[]->
  codeAny (model l.prog w) callerA (.call (.ref fa) ⟨[.ref a],[]⟩) (fun r s'=>r=.ok (.ret (.bool true))/\OldK s₁.heap s'.heap/\s'.os=s₁.os/\AllBare s'.gens) s₁) :
 WalkO q loose XP YP l.row.toRowW d [] (fun f vs=>PySem.call f vs):=by
 intro w s₀ s₁ mg mb G Y fa o pm cd doc dV kV ho hd hcd hD hmg hg args vals as hpre hlay hrd hwl hlo;obtain rfl:dV=.none:=Dflts.none hD hdf;obtain rfl:kV=.none:=Dflts.noKw hD;obtain⟨a,vs,ns,rfl,rfl,hobj,hints,hlen⟩:=zg8 hn hpre hwl;refine enter_call (wcf (call w s₀ s₁ mg mb fa o pm cd doc a vs ns G Y ho (fd_plain hd) hcd hmg hobj hints hlen hg) fun r s' hq=>?_);obtain⟨rfl,h2,h3,h4⟩:=hq;exact⟨.inl ⟨.bool true,.bool true,[],rfl,fun _=>rfl,.bool true,zg9 l _,fun _=>⟨List.Pairwise.nil,fun _ hm=>(nomatch hm)⟩⟩,h2,h3,h4⟩
section
variable {prog:Program}{w:World}{A:Around}{E:Value->Shared->Prop}{s:Shared}{K:Frag}
end
end Att
namespace L2
open PySem PySem.Spec PyProof.Rows
theorem zeE:∀{vs:List Value}{ns:List Int},IntsAre vs ns->Vals (ns.map V.int) vs
 | _,_,.nil=>.nil
 | _,_,.cons n t h=>.cons ⟨t,rfl⟩ (zeE h)
def Only (H:Hp):Prop:=∀b,H b=none\/∃o xs,H b=some (.frz o (.lst xs))
def zbE (s:Stmt):Arguments:=match s with
 | .FunctionDef _ a _ _ _ _ _ _ _ _=>a
 | _=>{posonlyargs:=[],args:=[],vararg:=none,kwonlyargs:=[],kw_defaults:=[],kwarg:=none,defaults:=[]}
def zaB (s:Stmt):List Stmt:=match s with
 | .FunctionDef _ _ b _ _ _ _ _ _ _=>b
 | _=>[]
def zab (s:Stmt):Scope:=match s with
 | .FunctionDef _ _ _ _ _ _ sc _ _ _=>sc
 | _=>{kind:=.function,names:=[],isGenerator:=false,isCoroutine:=false}
abbrev CX0:CXT:=fun _ _ _ _ _ _=>False
abbrev E0:XK:=fun _ _ _=>False
theorem zml {X:Cx}:zfK CX0 X E0:=fun _ _ _ _ _ _ _ h=>h.elim
structure Fun (K:W.Frag)(x qual:Str)(st:Stmt)(f:Addr)(fd:FuncData):Prop where
 ex:∃(oc:Value) (od:Option Addr) (kV doc pm:Value) (an:Option Addr) (cdv ct:Value) (osl:Array (Option Value)),
  fd=W.fnOf x qual (zbE st) (zaB st) (zab st) .none kV doc pm an cdv ct/\K.lookup f=some ⟨oc,od,.func fd,osl⟩ /\W.codeIn K cdv qual=true
 kp:W.keepIn K (.ref f)=true
section
variable {P:Program}{w:World}{K:W.Frag}{mg:Str->Option Value}{base:Heap}
theorem Fun.ok {x qual:Str}{st:Stmt}{f:Addr}{fd:FuncData}{N ps:List Str}{k:Nat}{sp:Sp}(F:Fun K x qual st f fd)(S:FnScope N ps (zab st))(len:∀vs H Q E,sp vs H Q E->vs.length=ps.length)
 (hbody:∀(cdv:Value) (A:Around) (outer:List Env) (s:Shared) (H:Hp) (vs:List V) (Q:VK) (E:XK),Room k (A.deeper (envOfC qual (zab st) s.heap.objs.size f cdv))->sp vs H Q E->
  ∃t,PSs (cxOf CX0 P w K mg base N qual (zab st) f cdv A outer s H E).nox (zaB st) t/\t {nx:=fun _ H'=>Q .non H',rt:=Q} (start N vs) H):FnOk P w K mg base CX0 (k+1) f fd ps sp:=by
 obtain⟨oc,od,kV,doc,pm,an,cdv,ct,osl,rfl,lk,hcd⟩:=F.ex;refine zkv lk hcd S len fun A outer s H vs Q E hr hsp=>?_
 obtain⟨t,h,q⟩:=hbody cdv A outer s H vs Q E hr hsp;exact⟨t,h.nox,q⟩
theorem Fun.binds {x qual:Str}{st:Stmt}{f:Addr}{fd:FuncData}{ps:List Str}(F:Fun K x qual st f fd)
 (h:∀(kV doc pm:Value) (an:Option Addr) (cdv ct:Value) (us:List Value),us.length=ps.length->bindArgs (W.fnOf x qual (zbE st) (zaB st) (zab st) .none kV doc pm an cdv ct) ⟨us,[]⟩=pure (ps.zip us)):Binds K fd ps []:=by
 obtain⟨oc,od,kV,doc,pm,an,cdv,ct,osl,rfl,lk,hcd⟩:=F.ex;exact .all (h kV doc pm an cdv ct)
theorem zha {x qual:Str}{st:Stmt}{f:Addr}{oc:Value}{od an:Option Addr}{osl:Array (Option Value)}{kV doc pm cdv ct:Value}(l:K.lookup f=some ⟨oc,od,.func (W.fnOf x qual (zbE st) (zaB st) (zab st) .none kV doc pm an cdv ct),osl⟩)
 (c:W.codeIn K cdv qual=true) (k:W.keepIn K (.ref f)=true):Fun K x qual st f (W.fnOf x qual (zbE st) (zaB st) (zab st) .none kV doc pm an cdv ct):=⟨⟨oc,od,kV,doc,pm,an,cdv,ct,osl,rfl,l,c⟩,k⟩
end
theorem zn0 {A:Around}{k:Nat}(hr:Room k A):A.units+1<cLine:=waM (Nat.add_le_add_left (by decide:1<=64) _) hr.units
section
variable {X:Cx}
end
theorem iteF {A B:Prop}(h:B):if false=true then A else B:=by
 rw[if_neg wbz];exact h
theorem iteT {A B:Prop}(h:A):if true=true then A else B:=by
 rw[if_pos rfl];exact h
def Same (H H':Hp):Prop:=∀b o,H b=some o->H' b=some o
theorem Same.refl (H:Hp):Same H H:=fun _ _ h=>h
theorem Same.trans {H H1 H2:Hp}(a:Same H H1)(b:Same H1 H2):Same H H2:=fun c o h=>b c o (a c o h)
theorem Same.free {H H':Hp}(e:Same H H'){l:Addr}(h:H' l=Option.none):H l=Option.none:=by
 cases q:H l with
 | none=>rfl
 | some o=>
   rw[e l o q] at h;cases h
end L2
namespace L2
open PySem PySem.Spec PyProof PyProof.Rows
structure CodeK (K:W.Frag)(c P:Addr):Prop where
 ex:∃(o:Obj) (vs:Array Value) (file:Str) (tf:Tok) (flags:Int) (tg:Tok) (inF:Bool) (text:Int) (tt:Tok),K.lookup c=some o/\o.cls=.type "code"/\o.data=.fields vs/\vs[11]?=some (.ref P)/\vs.getD 11 .none=.ref P/\
  vs.getD 18 .none=.str file tf/\vs.getD 7 .none=.int flags tg/\vs.getD 9 .none=.bool inF/\vs.getD 10 .none=.int text tt/\c≠P
abbrev tabO (ps:Array Value):Obj:={cls:=.none,data:=.fields ps}
theorem CodeK.of {K:W.Frag}{c P:Addr}{h:Heap}{q:Str}(X:K.In h)(hc:W.codeIn K (.ref c) q=true)(B:Based h h c P #[]):CodeK K c P:=by
 have hl:∃o,K.lookup c=some o:=by
  unfold W.codeIn at hc;cases e:K.lookup c with
  | some o=>exact⟨o,rfl⟩
  | none=>simp only[e] at hc;cases hc
 obtain⟨o,lo⟩:=hl;obtain⟨⟨o1,vs1,a1,a2,a3,a4⟩,_⟩:=B.tab;obtain⟨o2,vs2,file,tf,flags,tg,inF,text,tt,op,b1,b2,b3,b4,b5,b6,b7,b8,b9,b10,b11⟩:=B.code;rw[X _ _ lo] at a1 b1;cases a1;cases b1;rw[a3] at b2;cases b2;exact⟨o,_,file,tf,flags,tg,inF,text,tt,lo,a2,a3,a4,b3,b4,b5,b6,b7,b11⟩
section
variable {X:Cx}{pins:List (Addr×Obj)}{σ:St}{H:Hp}{s:Shared}
def TabC (H:Hp)(ps qs:Array Value):Prop:=TriplesOk qs.toList/\∀pos cv,codeAmong pos qs.toList=some cv->∃c' o u vs t q,cv=Value.ref c'/\H c'=some (.frz o u)/\o.data=.fields vs/\vs[1]?=some (Value.str q t)/\ps[0]?=some (Value.str q 0)
theorem Inv.tblAt {P:Addr}{ps:Array Value}(I:Inv X pins σ H s)(h:H P=some (.tbl ps)):∃qs:Array Value,s.heap.get? P=some (tabO qs)/\TabC H ps qs:=I.hok P _ h
theorem Inv.ne_tbl {P b:Addr}{ps:Array Value}(h:H P=some (.tbl ps))(n:H b=none):b≠P:=fun z=>by subst z;rw[h] at n;cases n
end
section
variable {X:Cx}{a b c:Expr}{ta tb tc:TE}{pos:Pos}
def rSlS:V->Option Int->Option Int->Hp->VK->Prop:=fun x lo hi H Q=>∃z,x=.str z/\z.length<=sizeLine/\Q (.str (Txt.slice z lo hi)) H
theorem zjQ:SlR X rSlS:=by
 intro pins s σ H x v vl vu lo hi sl Q I rx hs pl pu h;obtain⟨z,rfl,hz,q⟩:=h;obtain⟨t,rfl⟩:=rx;refine⟨"str",_,F.slot_str_getitem.lookup,typeIs_str _ _ _,?_⟩;obtain⟨o,e1,e2,e3⟩:=hs;cases pl with
 | none=>
   cases pu with
   | none=>exact wbw (l:=none) (u:=none) (st:=none) ⟨o,e1,e2,e3⟩ rfl (post_val_or_str ⟨wan (Txt.slice_le z _ _) hz,fun t' k=>⟨.str (Txt.slice z none none),H,I.tok _,⟨_,rfl⟩,q⟩⟩)
   | int j uj=>exact wbw (l:=none) (u:=some (j,uj)) (st:=none) ⟨o,e1,e2,e3⟩ rfl (post_val_or_str ⟨wan (Txt.slice_le z _ _) hz,fun t' k=>⟨.str (Txt.slice z none (some j)),H,I.tok _,⟨_,rfl⟩,q⟩⟩)
 | int i ui=>
   cases pu with
   | none=>exact wbw (l:=some (i,ui)) (u:=none) (st:=none) ⟨o,e1,e2,e3⟩ rfl (post_val_or_str ⟨wan (Txt.slice_le z _ _) hz,fun t' k=>⟨.str (Txt.slice z (some i) none),H,I.tok _,⟨_,rfl⟩,q⟩⟩)
   | int j uj=>exact wbw (l:=some (i,ui)) (u:=some (j,uj)) (st:=none) ⟨o,e1,e2,e3⟩ rfl (post_val_or_str ⟨wan (Txt.slice_le z _ _) hz,fun t' k=>⟨.str (Txt.slice z (some i) (some j)),H,I.tok _,⟨_,rfl⟩,q⟩⟩)
theorem zfm {z:Str}{n:Int}(h1:-1000<=n)(h2:n<=1000)(h3:z.length<=1000):MulOk z n:=by
 refine⟨?_,fun h _=>?_,fun h _=>?_⟩
 ·have e1:¬n < -(2 ^ 63:Int):=by omega
  have e2:¬n≥2 ^ 63:=by omega
  rw[wau e1,wau e2];rfl
 ·have:(1000:Int)<=(2 ^ 63 - 1) / n:=by
   rw[Int.le_ediv_iff_mul_le (by omega)];omega
  omega
 ·have h4:z.length*n.toNat<=1000*1000:=Nat.mul_le_mul h3 (by omega)
  unfold PySem.Builtin.Str.tooLong;simp only[decide_eq_false_iff_not];have:sizeLine=16777216:=sizeLine_eq
  omega
theorem op_rep_str:OpR X (binaryOp .Mult) (fun x y H Q=>∃z n,x=.str z/\y=.int n/\-1000<=n/\n<=1000/\z.length<=1000/\Q (.str (Txt.mul z n)) H):=by
 intro pins s σ H x y v u Q I rx ry h;obtain⟨z,n,rfl,rfl,h1,h2,h3,q⟩:=h;obtain⟨t,rfl⟩:=rx;obtain⟨t',rfl⟩:=ry;exact SB.mul (zfm h1 h2 h3) fun t' k=>⟨.str (Txt.mul z n),H,I.tok _,⟨_,rfl⟩,q⟩
theorem zfn:zcc X (.builtin "isinstance") (fun xs H Q=>∃x n t k,xs = [x,.ty n]/\TyOf X.K H x t/\PySem.W.kitOne X.K t (.type n)=some k/\Q (.bl k) H):=by
 intro pins s σ H xs us Q I r h;obtain⟨x,n,t,k,rfl,ty,e,q⟩:=h;obtain⟨u,w',rfl,r1,r2⟩:=zit r;obtain rfl:w'=Value.type n:=r2;exact zgY I r1 ty e fun tk=>⟨.bl k,H,I.tok _,rfl,q⟩
end
theorem ObjOk.there {P:Program}{w:World}{H:Hp}{h:Heap}{a:Addr}{o:HO}(x:ObjOk P w H h a o):∃ob,h.get? a=some ob:=by
 induction o with
 | lst xs=>obtain⟨z,its,n,r,e⟩:=x;exact⟨_,e⟩
 | tup xs=>obtain⟨z,its,r,ob,e,c⟩:=x;exact⟨_,e⟩
 | dK kvs=>obtain⟨z,y,vs,r,ob,es,ep,e,c⟩:=x;exact⟨_,e⟩
 | dT kvs=>obtain⟨z,y,xs,r,ob,es,ep,e,c⟩:=x;exact⟨_,e⟩
 | set S n=>obtain⟨ob,es,ep,t,e,c⟩:=x;exact⟨_,e⟩
 | ins C dx fs=>obtain⟨d,z,ne,e,_⟩:=x;exact⟨_,e⟩
 | own y=>exact x
 | xd fs=>obtain⟨mA,⟨od,es,ep,e,c⟩,r⟩:=x;exact⟨_,e⟩
 | rng lo hi=>obtain⟨t,u,v,e⟩:=x;exact⟨_,e⟩
 | frz ob u ih=>exact⟨_,x.1⟩
 | tbl ps=>obtain⟨_,e,_⟩:=x;exact⟨_,e⟩
 | met f y=>exact⟨_,x⟩
 | ext φ=>exact x.2.1
section
variable {P:Program}{w:World}{K:W.Frag}{mg:Str->Option Value}{base:Heap}
theorem Fun.okC {x qual:Str}{st:Stmt}{f:Addr}{fd:FuncData}{N ps:List Str}{k:Nat}{sp:Sp}(F:Fun K x qual st f fd)(S:FnScope N ps (zab st))(len:∀vs H Q E,sp vs H Q E->vs.length=ps.length)
 (hbody:∀(cdv:Value) (A:Around) (outer:List Env) (s:Shared) (H:Hp) (vs:List V) (Q:VK) (E:XK),fd.code=cdv->Room k (A.deeper (envOfC qual (zab st) s.heap.objs.size f cdv))->sp vs H Q E->
  ∃t,PSs (cxOf CX0 P w K mg base N qual (zab st) f cdv A outer s H E).nox (zaB st) t/\t {nx:=fun _ H'=>Q .non H',rt:=Q} (start N vs) H):FnOk P w K mg base CX0 (k+1) f fd ps sp:=by
 obtain⟨oc,od,kV,doc,pm,an,cdv,ct,osl,rfl,lk,hcd⟩:=F.ex;refine zkv lk hcd S len fun A outer s H vs Q E hr hsp=>?_
 obtain⟨t,h,q⟩:=hbody cdv A outer s H vs Q E rfl hr hsp;exact⟨t,h.nox,q⟩
end
structure Tabs (K:W.Frag)(h:Heap)(tb:List Addr):Prop where
 at_:∀P∈tb,∃c,h.TableAt c P #[]
 out:∀P∈tb,K.lookup P=none
theorem zhb {P:Program}{w:World}{K:W.Frag}{mg mb:Str->Option Value}{CX:CXT}{k:Nat}{fa a bm:Addr}{ob:Obj}{fd:FuncData}{x:Str}{sp:Sp}{s₁:Shared}{vs:List Value}{ns:List Int}{tb:List Addr}{nm:Addr->Array Value}
 (KX:K.In s₁.heap) (hns:s₁.heap.Ns mainGlobals mg) (hb:s₁.heap.Ns builtinsNs mb) (hbb:∀x:Str,x≠"__name__"->mb x=bootBuiltins x) (hlim:s₁.heap.NoLimit) (hg:s₁.gens = #[]) (hBM:BMod s₁.heap mainGlobals mg bm ob)
 (ha:s₁.heap.get? a=some {cls:=.type "list",data:=.seq vs.toArray}) (hi:IntsAre vs ns) (hl:ns.length<=sizeLine) (hr:Room k callerA) (hT:Tabs K s₁.heap tb)
 (F:∀base:Heap,K.In base->base.Ns mainGlobals mg->BMod base mainGlobals mg bm ob->FnOk P w K mg base CX k fa fd [x] sp) (hbind:∀(s:Shared) (u:Value),BindsTo s fd ⟨[u],[]⟩ [(x,u)])
 (hsp:∀H:Hp,(∀P∈tb,H P=some (.tbl (nm P)))->SqL K H a (ns.map V.int)->(H a≠none->∃o xs,H a=some (.frz o (.lst xs)))->sp [.ref a] H (fun v _=>v=.bl true) fun _ _ _=>False)
 (hCX:∀H e s',CX [] H s₁ (fun _ _ _=>False) e s'->False) :
 codeAny (model P w) callerA (.call (.ref fa) ⟨[.ref a],[]⟩) (fun r s'=>r=.ok (.ret (.bool true))/\OldK s₁.heap s'.heap/\s'.os=s₁.os/\AllBare s'.gens) s₁:=by
 have rv:=zeE hi
 have lenV:=hi.length
 have tabAt:∀P∈tb,s₁.heap.get? P=some (tabO #[]):=fun P hP=>by obtain⟨c,h⟩:=hT.at_ P hP;exact h.2
 have aT:a∉tb:=fun h=>by have:=tabAt a h;rw[ha] at this;cases this
 have core:∀H:Hp,(∀P∈tb,H P=some (.tbl (nm P)))->SqL K H a (ns.map V.int)->HOk P w H s₁.heap->(∀b,H b≠none->b=a\/b∈tb)->(H a≠none->K.lookup a=none/\∃o xs,H a=some (.frz o (.lst xs)))->
  codeAny (model P w) callerA (.call (.ref fa) ⟨[.ref a],[]⟩) (fun r s'=>r=.ok (.ret (.bool true))/\OldK s₁.heap s'.heap/\s'.os=s₁.os/\AllBare s'.gens) s₁:=by
  intro H hTb hS hok hA hK;have base_of:∀{b:Addr}{o:Obj},s₁.heap.get? b=some o->H b=none->(hidT s₁.heap H).get? b=some o:=fun e n=>zin e n
  have noA:∀{b:Addr}{o:Obj},s₁.heap.get? b=some o->o.cls≠.type "list"->(o.cls≠.none\/∃es ep,o.data=.dict es ep)->H b=none:=fun {b o} e d1 d2=>by
   cases q:H b with
   | none=>rfl
   | some u=>
     rcases hA b (by rw[q];simp) with e' | e'
     ·subst e';rw[ha] at e;cases e;exact absurd rfl d1
     ·rw[tabAt b e'] at e;cases e;rcases d2 with d | ⟨es,ep,d⟩
      ·exact absurd rfl d
      ·cases d
  have noD:∀{b:Addr}{o:Obj}{es:Array DictEntry}{ep:Nat},s₁.heap.get? b=some o->o.data=.dict es ep->H b=none:=fun {b o es ep} e d=>by
   cases q:H b with
   | none=>rfl
   | some u=>
     rcases hA b (by rw[q];simp) with e' | e'
     ·subst e';rw[ha] at e;cases e;have d':Data.seq vs.toArray _=Data.dict es ep:=d
      cases d'
     ·rw[tabAt b e'] at e;cases e;cases d
  have nsK:∀{b:Addr}{m:Str->Option Value},s₁.heap.Ns b m->(hidT s₁.heap H).Ns b m:=fun {b m} ⟨o,es,ep,e,d,r⟩ =>⟨o,es,ep,base_of e (noD e d),d,r⟩
  have hKb:K.In (hidT s₁.heap H):=fun b o e=>base_of (KX b o e) (by
   cases q:H b with
   | none=>rfl
   | some u=>
     rcases hA b (by rw[q];simp) with e' | e'
     ·subst e';rw[(hK (by rw[q];simp)).1] at e;cases e
     ·rw[hT.out b e'] at e;cases e)
  have hM:Mod K mg (hidT s₁.heap H):=⟨hKb,nsK hns,⟨mb,nsK hb,hbb⟩,let ⟨mc,h1,h2⟩:=hlim;⟨mc,nsK h1,h2⟩⟩
  have hBM':BMod (hidT s₁.heap H) mainGlobals mg bm ob:=⟨nsK hBM.ns,hBM.name,hBM.ne,base_of hBM.obj (noA hBM.obj (by rw[hBM.cls];simp) (.inl (by rw[hBM.cls];simp))),hBM.cls,hBM.dict,hBM.data⟩
  have e0:Env0 P w K mg (hidT s₁.heap H) callerA [] s₁ H:=⟨rfl,hM,fun b o e=>zkj e,waS (zgN _ _),trivial,fun b hb=>absurd (show b∈([]:List Addr) from hb) (by simp),hok,.of_eq hg⟩
  refine wcf ((F _ hKb (nsK hns) hBM').run callerA [] s₁ H ⟨[.ref a],[]⟩ [.ref a] [.ref a] _ _ hr e0 (hbind s₁ (.ref a)) (.cons rfl .nil) (hsp H hTb hS fun z=>(hK z).2)) fun r s' h=>?_
  cases r with
  | error e=>exact(hCX H e s' h).elim
  | ok fl=>
    cases fl with
    | next=>exact False.elim h
    | brk=>exact False.elim h
    | cont=>exact False.elim h
    | ret u=>
      obtain⟨v,H',os,bare,un,hok',r',q⟩:=h;have q':v=.bl true:=q
      subst q';obtain rfl:u=Value.bool true:=r';have key:∀b o,s₁.heap.get? b=some o->asItWas s₁.heap s'.heap b o:=fun b o e=>by
       cases q:H b with
       | none=>exact .inl (un.keep b o e q (by intro z;exact absurd (show b∈([]:List Addr) from z) (by simp)) (by simp))
       | some u=>
         rcases hA b (by rw[q];simp) with e' | e'
         ·subst e';obtain⟨_,oo,xs,z⟩:=hK (by rw[q];simp);have z2:=un.frzs b oo _ z
          obtain⟨e1,_⟩:=hok b _ z;obtain⟨e2,_⟩:=hok' b _ z2;rw[e] at e1;cases e1;exact .inl e2
         ·obtain⟨more,z⟩:=un.tbls b _ (hTb b e');obtain⟨qs,e2,_⟩:=hok' b _ z;obtain⟨c,ht⟩:=hT.at_ b e';rw[tabAt b e'] at e;cases e;exact .inr (.inl ⟨ht.isCodeTable,rfl,#[],qs,rfl,by simpa using e2⟩)
      refine⟨rfl,⟨key,fun b o e=>un.there b o e (by simp)⟩,os,bare⟩
 cases hk:K.lookup a with
 | some o=>
   have e:=KX a o hk
   rw[ha] at e;cases e;refine core (fun b=>if b∈tb then some (.tbl (nm b)) else none) (fun P hP=>if_pos hP) (.inr ⟨_,vs.toArray,_,hk,rfl,rfl,rfl,by rw[wac,lenV];exact hl,by simpa using rv⟩) (fun b u z=>?_) (fun b z=>?_) fun z=>absurd (if_neg aT) z
   ·by_cases hb':b∈tb
    ·have z':=(if_pos hb').symm.trans z
     cases z';exact⟨#[],tabAt b hb',trivial,fun pos cv q=>by simp[codeAmong] at q⟩
    ·have z':=(if_neg hb').symm.trans z
     cases z'
   ·by_cases hb':b∈tb
    ·exact .inr hb'
    ·exact absurd (if_neg hb') z
 | none=>
   have hA:∀b,(if b=a then some (HO.frz {cls:=.type "list",data:=.seq vs.toArray} (.lst (ns.map V.int))) else if b∈tb then some (.tbl (nm b)) else none:Option HO)≠none->b=a\/b∈tb:=fun b z=>by
    by_cases h1:b=a
    ·exact .inl h1
    ·rw[if_neg h1] at z;by_cases h2:b∈tb
     ·exact .inr h2
     ·rw[if_neg h2] at z;exact absurd rfl z
   refine core (fun b=>if b=a then some (.frz {cls:=.type "list",data:=.seq vs.toArray} (.lst (ns.map V.int))) else if b∈tb then some (.tbl (nm b)) else none) (fun P hP=>?_) (.inl (.inr ⟨{cls:=.type "list",data:=.seq vs.toArray},if_pos rfl⟩)) (fun b u z=>?_) hA fun _=>⟨hk,_,_,if_pos rfl⟩
   ·have:P≠a:=fun z=>aT (z▸hP)
    show(if P=a then _ else if P∈tb then _ else _)=_
    rw[if_neg this,if_pos hP]
   ·by_cases hb':b=a
    ·have z':=(if_pos hb').symm.trans z
     cases z';subst hb';exact⟨ha,by rw[wao];exact hl,vs,_,rv,ha⟩
    ·have z':=(if_neg hb').symm.trans z
     by_cases h2:b∈tb
     ·have z2:=(if_pos h2).symm.trans z'
      cases z2;exact⟨#[],tabAt b h2,trivial,fun pos cv q=>by simp[codeAmong] at q⟩
     ·have z2:=(if_neg h2).symm.trans z'
      cases z2
theorem zkz {K:W.Frag}{h:Heap}{mg:Str->Option Value}{c P:Addr}{ps:Array Value}(X:K.In h)(G:h.Ns mainGlobals mg)(B:Based h h c P ps)(hK:PySem.W.kb_classed K=true):K.lookup P=none:=by
 cases e:K.lookup P with
 | none=>rfl
 | some o=>
   have ha:=X P o e
   have q:=waC.mp hK (P,o) (PySem.W.kb_mem e)
   simp only[Bool.or_eq_true,decide_eq_true_eq,beq_iff_eq] at q;rcases q with(q | q) | q
   ·exact absurd rfl (B.ne_of_cls ha q)
   ·exact absurd q B.notStatics
   ·exact absurd q.symm (B.ne_of_ns G)
theorem ziw {l:PySem.W.OpenLaw}{n k:Nat}{q:Program}{loose:List Str}{XP:(Str->Option Value)->Heap->Prop}{YP:World->Heap->Prop}{d:DefRec}{K:Params->W.Frag}{CX:World->CXT}{sp:World->List Addr->(Addr->Array Value)->Sp}{x:Str}
 (hn:l.most=some n) (hn2:n<=sizeLine) (hdf:d.params.defaults = []) (hr:Room k callerA)
 (hY:∀(w:World) (h:Heap),YP w h->(K w.params).In h)
 (F:∀(w:World) (mg mb:Str->Option Value) (mean:ExcName->Option Value) (fa:Addr) (h:Heap),(K w.params).In h->Top q (PySem.W.looseW q loose) mean mg mb h->mg d.name=some (.ref fa)->
  ∃(fd:FuncData) (tb:List Addr) (nm:Addr->Array Value),Tabs (K w.params) h tb/\(∀(s:Shared) (u:Value),BindsTo s fd ⟨[u],[]⟩ [(x,u)])/\
   ∀(base:Heap) (bm:Addr) (ob:Obj),(K w.params).In base->base.Ns mainGlobals mg->BMod base mainGlobals mg bm ob->FnOk l.prog w (K w.params) mg base (CX w) k fa fd [x] (sp w tb nm))
 (hsp:∀(w:World) (tb:List Addr) (nm:Addr->Array Value) (H:Hp) (a:Addr) (ns:List Int),ns.length<=n->(∀P∈tb,H P=some (.tbl (nm P)))->SqL (K w.params) H a (ns.map V.int)->(H a≠none->∃o xs,H a=some (.frz o (.lst xs)))->sp w tb nm [.ref a] H (fun v _=>v=.bl true) fun _ _ _=>False)
 (hCX:∀(w:World) (H:Hp) (s:Shared) (e:Value) (s':Shared),CX w [] H s (fun _ _ _=>False) e s'->False) :
 PySem.W.WalkO q loose XP YP l.row.toRowW d [] (fun f vs=>PySem.call f vs):=by
 refine Att.attach_call hn hdf fun w s₀ s₁ mg mb fa o pm cd doc a vs ns G Y ho hd hcd hmg hobj hints hlen hg=>?_
 have KX:=hY w _ Y
 obtain⟨fd,tb,nm,hT,hb,hF⟩:=F w mg mb _ fa _ KX G.T hmg;obtain⟨bm,ob,hBM⟩:=PySem.W.bmod_of_top G.T;exact zhb KX G.T.g G.T.b G.T.builtins G.T.nolimit hg hBM hobj hints (wan hlen hn2) hr hT (fun base h1 h2 h3=>hF base bm ob h1 h2 h3) hb (fun H hO hS hF=>hsp w tb nm H a ns hlen hO hS hF) fun H e s'=>hCX w H s₁ e s'
def PTs (X:Cx)(ifs:List Expr)(t:TT):Prop:=
 ∀(pins:List (Addr×Obj)) (s:Shared) (σ:St) (H:Hp) (Q:Bool->Hp->Prop),Inv X pins σ H s->t σ H Q->
  wpAny (model X.prog X.w) X.A (forIn ifs true fun c r=>if r=true then do let ok <-isTrue c X.env (eval c X.env);pure (ForInStep.yield ok) else pure (ForInStep.yield r)) (TP X pins σ Q) X.xe s
def zkA:TT:=fun _ H Q=>Q true H
theorem zkB {X:Cx}:PTs X [] zkA:=fun _ _ _ H _ I h=>wpAny_tests_nil ⟨H,I,h⟩
def cxC (X:Cx)(scope:Scope)(cl:List (Str×Addr))(NC:List Str)(C:Addr)(s0:Shared)(H0:Hp)(ex:List Addr)(pn:List (Addr×Obj)):Cx where
 prog:=X.prog
 w:=X.w
 K:=X.K
 mg:=X.mg
 base:=X.base
 A:=X.A
 N:=NC
 s₀:=s0
 Hz:=H0
 env:=compEnvC scope cl C X.env
 outer:=X.stack
 stack:=X.stack
 ex:=ex
 fn:=fun _=>false
 calm:=true
 pn:=pn
 xe:=fun _ _=>False
def pick (σ:St)(fr:List (Option Nat)):St:=fr.map fun o=>o.bind fun j=>(σ[j]?).join
theorem zhc {prog:Program}{w:World}{A:Around}{R:Result->Shared->Prop}{s:Shared}{elt target iter:Expr}{ifs:List Expr}{scope:Scope}{pos:Pos}{it acc:Value}{env:Env}(I:Nat->Shared->Prop)
 (turn:∀n s,I n s->wpAny (model prog w) A (pyNext it) (fun r s1=>
  (r=none->R (.ok .next) s1)/\∀v,r=some v->wpAny (model prog w) A (letOwnedTupleGo target it v) (fun _ s2=>wpAny (model prog w) A (assign target env v) (fun _ s3=>
   wpAny (model prog w) A (forIn ifs true fun c r=>if r=true then do let ok <-isTrue c env (eval c env);pure (ForInStep.yield ok) else pure (ForInStep.yield r)) (fun ok s4=>
    (ok=true->wpAny (model prog w) A (eval elt env) (fun x s5=>wpAny (model prog w) A (call (.builtin "list.append") [acc,x]) (fun _ s6=>∃m,m<n/\I m s6) (fun _ _=>False) s5) (fun _ _=>False) s4)/\
    (ok=false->∃m,m<n/\I m s4)) (fun _ _=>False) s3) (fun _ _=>False) s2) (fun _ _=>False) s1) (fun _ _=>False) s)
 (n:Nat) (h:I n s):codeAny (model prog w) A (.compLoop (.ListComp elt [⟨target,iter,ifs,0⟩] scope pos) 0 it acc env) R s:=by
 refine codeAny_loop rfl I (fun n s hI=>?_) n h;refine wpAny_noted (m:=compTurn (.ListComp elt [⟨target,iter,ifs,0⟩] scope pos) 0 it acc env) ?_;rw[compTurn_list];refine waa (wbu (waa (waz (turn n s hI) (fun r s1 h1=>?_) fun _ _ f=>f.elim)));cases r with
 | none=>exact wag (h1.1 rfl)
 | some v=>
   refine waa (waz (h1.2 v rfl) (fun _ s2 h2=>?_) fun _ _ f=>f.elim);refine waa (waz h2 (fun _ s3 h3=>?_) fun _ _ f=>f.elim);refine waa (waz h3 (fun ok s4 h4=>?_) fun _ _ f=>f.elim);cases ok with
   | false=>exact wag ⟨rfl,h4.2 rfl⟩
   | true=>exact waa (waa (waz (h4.1 rfl) (fun x s5 h5=>waa (waz h5 (fun _ s6 h6=>wag (wag ⟨rfl,h6⟩)) fun _ _ f=>f.elim)) fun _ _ f=>f.elim))
def zfo (fr:List (Option Nat))(wi:TI)(g:TG)(tt:TT)(te:TE):TE:=fun σ H Q=>wi σ H fun J H1=>∀D,H1 D=none->∃W:Nat->Nat->List V->St->Hp->Prop,
 (∃m,W 0 m [] (pick σ fr) (upd H1 D (.lst [])))/\∀i m ys σ2 H2,W i m ys σ2 H2->H2 D=some (.lst ys)->
  (J.stop i H2/\Q (.ref D) H2)\/(J.go i H2/\∃N:List V->St->Hp->Prop,(∀zs σ' H',N zs σ' H'->∃m',m'<m/\W (i+1) m' zs σ' H')/\∀x H3,J.yld i H2 x H3->g x σ2 H3 fun σ4 H4=>tt σ4 H4 fun ok H5=>
   (ok=true->te σ4 H5 fun v H6=>H6 D=some (.lst ys)/\ys.length<sizeLine/\N (ys++[v]) σ4 (upd H6 D (.lst (ys++[v]))))/\
   (ok=false->H5 D=some (.lst ys)/\N ys σ4 H5))
theorem zfP {X:Cx}{use:Option (Value->Sem Unit)}{R:Value->Shared->Prop}{pins:List (Addr×Obj)}{s:Shared}{σ:St}{H:Hp}{Q:VK}{cpos:Pos}{elt iter tg:Expr}{ifs:List Expr}{scope:Scope}{pos:Pos}{cl:List (Str×Addr)}{NC:List Str}{fr:List (Option Nat)}{wi:TI}{g:TG}{tt:TT}{te:TE}{RR:Hp->Prop}(hRR:∀pins σ H s,Inv X pins σ H s->RR H)(hcalm:X.calm=true)(hi:PI X tg iter wi)
 (hclos:closureFor scope X.env=pure cl) (hcell:∀y∈scope.names,y.2≠.cell) (hkind:scope.kind=.function) (hnames:∀y∈scope.names,y.2=.local->scope.names.lookup y.1=some .local)
 (hcl:∀x c,cl.lookup x=some c->X.env.cells.lookup x=some c)
 (hhas:∀x,((compEnvC scope cl 0 X.env).kindOf x=some .cell\/(compEnvC scope cl 0 X.env).kindOf x=some .free)->∃c,cl.lookup x=some c)
 (hfr:∀(i:Nat) (x:Str) (j:Nat),NC[i]?=some x->fr[i]?=some (some j)->X.N[j]?=some x/\Vis X.env.scope x/\X.env.kindOf x≠some .local/\((compEnvC scope cl 0 X.env).kindOf x=some .cell\/(compEnvC scope cl 0 X.env).kindOf x=some .free))
 (hlen:fr.length=NC.length)
 (hg:∀C s0 H0 ex pn,PG (cxC X scope cl NC C s0 H0 ex pn) tg g) (ht:∀C s0 H0 ex pn,PTs (cxC X scope cl NC C s0 H0 ex pn) ifs tt) (he:∀C s0 H0 ex pn,RR H0->PE (cxC X scope cl NC C s0 H0 ex pn) elt te)
 (hs:∀x,foldedSetIterable iter X.env x=pure x) (I:Inv X pins σ H s) (h:zfo fr wi g tt te σ H Q)
 (hfin:∀(C D:Addr) (H':Hp) (s':Shared) (m:Str->Option Value),Inv X pins σ H' s'->s'.heap.Ns C m->FpOk X pins H' C->Q (.ref D) H'->compPost (model X.prog X.w) X.A X.xe use R (.ref D) C (.ok .next) s') :
 wpAny (model X.prog X.w) X.A (comprehension (.ListComp elt [⟨tg,iter,ifs,0⟩] scope pos) scope X.env cpos (newList []) false (eval iter X.env) use) R X.xe s:=by
 refine wpAny_comprehension_free (use:=use) (g:=⟨tg,iter,ifs,0⟩) (gs:=[]) rfl hs hclos hkind hnames (thn (hi pins s σ H _ I h) fun v s1 h1=>thn h1 fun itv s2 h2=>?_);obtain⟨it,fp,tn,J,H1,e,I2,T,st2,f2,hW⟩:=h2;subst e;refine waY (wpAny_newFunctionEnv hcell (by intro y hy;simp at hy) (fun h4 hn4 hs4=>?_) hkind);have hD0:H1 s2.heap.objs.size=none:=I2.hok.fresh (wam _)
 obtain⟨W,⟨m0,w0⟩,turn⟩:=hW s2.heap.objs.size hD0;generalize hDe:s2.heap.objs.size=D at hD0 w0 turn;generalize h3e:s2.heap.push {cls:=.type "list",dict:=none,data:=.seq ([]:List Value).toArray}=h3 at hn4 hs4;have sz3:h3.objs.size=D+1:=by rw[<-h3e,wbN,hDe]
 have k3:∀b o,s2.heap.get? b=some o->h3.get? b=some o:=fun b o e=>by rw[<-h3e];exact wab _ e
 have ltD:∀{b:Addr}{o:Obj},s2.heap.get? b=some o->b<D:=fun e=>by rw[<-hDe];exact wae e
 have d3:h3.get? D=some {cls:=.type "list",data:=.seq ([]:List Value).toArray}:=by rw[<-h3e,<-hDe];exact war _ rfl
 have I3:Inv X pins σ (upd H1 D (.lst [])) {s2 with heap:=h3}:=I2.laid (h':=h3) (t':=s2.toks) k3 (waS hDe) ⟨wbo _,[],0,.nil,d3⟩
 have rH:=hRR _ _ _ _ I3
 generalize hCe:h3.objs.size=C at hn4 hs4;have k4:∀b o,h3.get? b=some o->h4.get? b=some o:=fun b o e=>hs4.extBut b o (fun z=>by rw[z,<-hCe] at e;exact absurd (wae e) (waN _)) (wab _ e)
 have ltC:∀{b:Addr}{o:Obj},h3.get? b=some o->b<C:=fun e=>by rw[<-hCe];exact wae e
 have hne:∀(c:Env->Addr),True:=fun _=>trivial
 have okC:(cxC X scope cl NC C {s2 with heap:=h3} (upd H1 D (.lst [])) fp (X.pn++pins)).Ok:=by
  refine⟨I.ok.mod,?_,I.ok.glob,I.ok.blt,waS hCe,fun x y c h1 h2=>I.ok.inj x y c (hcl x c h1) (hcl y c h2),fun x hx=>hhas x hx,fun x c hf _=>(by cases hf),fun _=>I.ok.hd hcalm,I.ok.frames,.inl rfl,fun b hb=>⟨?_,fun x c e=>?_⟩,fun b o e=>I3.bs b o e,?_,fun b o e hb=>?_,fun b hb hf=>?_,?_,fun b hb=>I3.stkFree b hb⟩
  ·show(relabel scope X.env).kind=.function
   exact hkind
  ·obtain⟨o,eo,_⟩:=T.obj _ _ st2 b hb;exact wax (ltC (k3 b o eo))
  ·exact(f2 b hb).2.2.2.2.1 x c (hcl x c e)
  ·exact wan I.ok.bsz I3.sz
  ·obtain⟨e1,_⟩:=I.ok.bs b o e;have f:=f2 b hb
   rcases f.2.2.2.1 with z | z
   ·exact I.ok.noex b o e z
   ·exact absurd (wah (wae e1) z) (waN _)
  ·rcases wai.mp (I2.stkSub b hf) with z | z
   ·exact(f2 b hb).2.1 z
   ·exact(f2 b hb).2.2.1 z
  ·exact I3.stack
 have IC:Inv (cxC X scope cl NC C {s2 with heap:=h3} (upd H1 D (.lst [])) fp (X.pn++pins)) [] (pick σ fr) (upd H1 D (.lst [])) {s2 with heap:=h4,toks:=s2.toks+([]:List (Str×Value)).length}:=by
  refine⟨okC,rfl,I2.bare,Un.kept k4,⟨_,hn4,fun i x v hN hv hvis=>?_⟩,fun x c e=>?_,?_,fun x c e=>I3.freeC x c (hcl x c e),fun p hp=>?_,I3.hok.kept k4,?_⟩
  ·have hfi:∃j,fr[i]?=some (some j)/\σ[j]?=some (some v):=by
    unfold pick at hv;rw[waw] at hv;cases e1:fr[i]? with
    | none=>rw[e1] at hv;cases hv
    | some o=>
      rw[e1] at hv;cases o with
      | none=>cases hv
      | some j=>
        refine⟨j,rfl,?_⟩;have hv':(σ[j]?).join=some v:=wav hv
        cases e2:σ[j]? with
        | none=>rw[e2] at hv';cases hv'
        | some w'=>rw[e2] at hv';exact waZ some hv'
   obtain⟨j,hj,hσ⟩:=hfi;obtain⟨q1,q2,q3,q4⟩:=hfr i x j hN hj;obtain⟨m,hm,hl⟩:=I3.loc;obtain⟨u,ru,lk⟩:=hl j x v q1 hσ q2;refine⟨u,ru,?_⟩;rcases lk with⟨z,_⟩ | ⟨_,c,ec,ic⟩
   ·exact absurd z q3
   ·obtain⟨c',ec'⟩:=hhas x q4;have:c'=c:=by rw[hcl x c' ec'] at ec;exact wav ec
    subst this;obtain⟨oc,h1,h2⟩:=ic;exact .inr ⟨q4,c',ec',oc,k4 _ _ h1,h2⟩
  ·obtain⟨v,oc,h1,h2⟩:=I3.cell x c (hcl x c e);exact⟨v,oc,k4 _ _ h1,h2⟩
  ·show upd H1 D (.lst []) C=none
   exact I3.hok.fresh (waS hCe)
  ·have hp':p∈X.pn++pins:=by simpa[cxC] using hp
   obtain⟨e1,e2,e3,e4,e5⟩:=I3.pin p hp';refine⟨k4 _ _ e1,e2,wax (ltC e1),fun z=>?_,e5⟩;rcases wai.mp (I2.stkSub p.1 z) with z' | z'
   ·exact e3 z'
   ·exact e4 z'
  ·unfold pick;rw[wao];exact hlen
 have fC:∀b∈fp,FpOk (cxC X scope cl NC C {s2 with heap:=h3} (upd H1 D (.lst [])) fp (X.pn++pins)) [] H1 b:=fun b hb=>by
  obtain⟨q1,q2,q3,q4,q5,q6⟩:=f2 b hb;obtain⟨o,eo,_⟩:=T.obj _ _ st2 b hb;refine⟨q1,wax (ltC (k3 b o eo)),fun z=>?_,.inl hb,fun x c e=>q5 x c (hcl x c e),fun p hp=>q6 p (by simpa[cxC] using hp)⟩;rcases wai.mp (I2.stkSub b z) with z' | z'
  ·exact q2 z'
  ·exact q3 z'
 have stat:∀{H':Hp},(∀b∈fp,H' b=none)->∀b∈fp,FpOk (cxC X scope cl NC C {s2 with heap:=h3} (upd H1 D (.lst [])) fp (X.pn++pins)) [] H' b:=fun hn b hb=>⟨hn b hb,(fC b hb).2⟩
 have fD:∀b∈fp,b≠D:=fun b hb z=>by
  obtain⟨o,eo,_⟩:=T.obj _ _ st2 b hb;have:=ltD eo
  rw[z] at this;exact absurd this (waN _)
 have st4:tn 0 h4:=T.keep _ _ _ st2 fun b hb o e=>k4 b o (k3 b o e)
 have fin:∀{σ':St}{H':Hp}{s':Shared},Inv (cxC X scope cl NC C {s2 with heap:=h3} (upd H1 D (.lst [])) fp (X.pn++pins)) [] σ' H' s'->Q (.ref D) H'->compPost (model X.prog X.w) X.A X.xe use R (.ref D) C (.ok .next) s':=fun {σ' H' s'} I' q'=>by
  obtain⟨m,hm,_⟩:=I'.loc;have hfp:FpOk X pins H' C:=⟨I'.free,(I3.fpOk (waS hCe) (I3.hok.fresh (waS hCe))).2⟩
  refine hfin C D H' s' m ?_ hm hfp q';have nC:∀{b:Addr}{o:Obj},s2.heap.get? b=some o->b≠C:=fun e=>wax (ltC (k3 _ _ e))
  have nD:∀{b:Addr}{o:Obj},s2.heap.get? b=some o->b≠D:=fun e=>wax (ltD e)
  refine I2.call' (s':=s') (ch:=fp) ?_ ⟨fun b o e n hf hx=>?_,fun b o e n hf hx=>?_,fun b o e n hx=>?_,fun b o e hx=>?_,fun b xs e=>?_,fun b o u e=>?_,fun b ps e=>?_⟩ (fun b u e=>?_) I'.bare fun b hb=>?_
  ·exact I'.os
  ·exact(I'.base.keep b o (k3 b o e) (by show upd H1 D _ b=none;rw[zae (nD e)];exact n) hf hx)
  ·obtain⟨sl,z⟩:=I'.base.slot b o (k3 b o e) (by show upd H1 D _ b=none;rw[zae (nD e)];exact n) hf hx;exact⟨sl,z⟩
  ·exact I'.base.free b o (k3 b o e) (by show upd H1 D _ b=none;rw[zae (nD e)];exact n) hx
  ·obtain⟨o',z⟩:=I'.base.there b o (k3 b o e) hx;exact⟨o',z⟩
  ·exact I'.base.tups b xs (by show upd H1 D _ b=_;rw[zae (zax e hD0)];exact e)
  ·exact I'.base.frzs b o u (by show upd H1 D _ b=_;rw[zae (zax e hD0)];exact e)
  ·exact I'.base.tbls b ps (by show upd H1 D _ b=_;rw[zae (zax e hD0)];exact e)
  ·exact I'.hok b u e
  ·obtain⟨q1,q2,q3,q4,q5,q6⟩:=f2 b hb;exact⟨q4,q2,q5,q6⟩
 have loop:codeAny (model X.prog X.w) X.A (.compLoop (.ListComp elt [⟨tg,iter,ifs,0⟩] scope pos) 0 (.ref it) (.ref D) (compEnvC scope cl C X.env)) (compPost (model X.prog X.w) X.A X.xe use R (.ref D) C) {s2 with heap:=h4,toks:=s2.toks+([]:List (Str×Value)).length}:=by
  refine zhc (fun n s'=>∃i ys σ' H',Inv (cxC X scope cl NC C {s2 with heap:=h3} (upd H1 D (.lst [])) fp (X.pn++pins)) [] σ' H' s'/\tn i s'.heap/\(∀b∈fp,H' b=none)/\H' D=some (.lst ys)/\W i n ys σ' H') ?_ m0 ⟨0,[],_,_,IC,st4,fun b hb=>by rw[zae (fD b hb)];exact(f2 b hb).1,zaf,w0⟩;rintro n s3 ⟨i,ys,σ3,H3,J3,st3,fr3,hD3,w3⟩;rcases turn i n ys σ3 H3 w3 hD3 with⟨stop,qn⟩ | ⟨go,N,hN,step⟩
  ·refine thn (T.done (cxC X scope cl NC C {s2 with heap:=h3} (upd H1 D (.lst [])) fp (X.pn++pins)) rfl rfl rfl rfl i [] s3 σ3 H3 _ J3 (stat fr3) st3 stop) fun r s4 ⟨hr,J4⟩ =>⟨fun _=>fin J4 qn,fun v z=>?_⟩
   rw[hr] at z;cases z
  ·refine thn (T.item (cxC X scope cl NC C {s2 with heap:=h3} (upd H1 D (.lst [])) fp (X.pn++pins)) rfl rfl rfl rfl i [] s3 σ3 H3 _ J3 (stat fr3) st3 go) fun r s4 ⟨u,hr,h4'⟩ =>⟨fun z=>?_,fun v z=>?_⟩
   ·rw[hr] at z;cases z
   rw[hr] at z;cases z;refine thn h4' fun _ s5 ⟨x,H5,J5,r5,y5,st5,fr5⟩ =>?_
   have J5':=J5.pinned (stat fr5) (T.obj _ _ st5)
   refine thn (hg C _ _ fp _ _ s5 σ3 H5 x _ _ J5' r5 (step x H5 y5)) fun _ s6 ⟨σ6,H6,J6,q6⟩ =>?_
   have back:∀{σ7:St}{H7:Hp}{s7:Shared},Inv (cxC X scope cl NC C {s2 with heap:=h3} (upd H1 D (.lst [])) fp (X.pn++pins)) ([]++zev fp s5.heap) σ7 H7 s7->tn (i+1) s7.heap/\∀b∈fp,H7 b=none:=fun {σ7 H7 s7} J7=>
    ⟨T.keep _ _ _ st5 fun b hb o e=>(J7.pin (b,o) (was _ (was _ (zaY hb e)))).1,fun b hb=>by
     obtain⟨o,e,d⟩:=T.obj _ _ st5 b hb;exact(J7.pin (b,o) (was _ (was _ (zaY hb e)))).2.1⟩
   refine thn (ht C _ _ fp _ _ s6 σ6 H6 _ J6 q6) fun ok s7 ⟨H7,J7,q7⟩ =>⟨fun hok=>?_,fun hok=>?_⟩
   ·refine thn (he C _ _ fp _ rH _ s7 σ6 H7 _ J7 (q7.1 hok)) fun xv s8 ⟨v,H8,J8,r8,hD8,hz,n8⟩ =>?_
    obtain⟨m',hm,w8⟩:=hN _ _ _ n8;refine thn (zeD (X:=cxC X scope cl NC C {s2 with heap:=h3} (upd H1 D (.lst [])) fp (X.pn++pins)) _ s8 σ6 H8 (.ref D) [v] (.ref D) [xv] (fun _ H9=>H9=upd H8 D (.lst (ys++[v]))) J8 rfl (.cons r8 .nil) ⟨D,ys,v,rfl,rfl,hD8,hz,rfl⟩) fun _ s9 ⟨_,H9,J9,_,e9⟩ =>?_
    subst e9;obtain⟨b1,b2⟩:=back J9;exact⟨m',hm,i+1,_,_,_,J9.unpinned,b1,b2,zaf,w8⟩
   ·obtain⟨hD7,n7⟩:=q7.2 hok;obtain⟨m',hm,w7⟩:=hN _ _ _ n7;obtain⟨b1,b2⟩:=back J7;exact⟨m',hm,i+1,_,_,_,J7.unpinned,b1,b2,hD7,w7⟩
 refine codeAny_compStart_list (rest:=[]) loop (T.self X.A 0 _ _ _ st4 loop)
theorem zix {X:Cx}{elt iter tg:Expr}{ifs:List Expr}{scope:Scope}{pos:Pos}{cl:List (Str×Addr)}{NC:List Str}{fr:List (Option Nat)}{wi:TI}{g:TG}{tt:TT}{te:TE}{RR:Hp->Prop}(hRR:∀pins σ H s,Inv X pins σ H s->RR H)(hcalm:X.calm=true)(hi:PI X tg iter wi)
 (hclos:closureFor scope X.env=pure cl) (hcell:∀y∈scope.names,y.2≠.cell) (hkind:scope.kind=.function) (hnames:∀y∈scope.names,y.2=.local->scope.names.lookup y.1=some .local)
 (hcl:∀x c,cl.lookup x=some c->X.env.cells.lookup x=some c)
 (hhas:∀x,((compEnvC scope cl 0 X.env).kindOf x=some .cell\/(compEnvC scope cl 0 X.env).kindOf x=some .free)->∃c,cl.lookup x=some c)
 (hfr:∀(i:Nat) (x:Str) (j:Nat),NC[i]?=some x->fr[i]?=some (some j)->X.N[j]?=some x/\Vis X.env.scope x/\X.env.kindOf x≠some .local/\((compEnvC scope cl 0 X.env).kindOf x=some .cell\/(compEnvC scope cl 0 X.env).kindOf x=some .free))
 (hlen:fr.length=NC.length)
 (hg:∀C s0 H0 ex pn,PG (cxC X scope cl NC C s0 H0 ex pn) tg g) (ht:∀C s0 H0 ex pn,PTs (cxC X scope cl NC C s0 H0 ex pn) ifs tt) (he:∀C s0 H0 ex pn,RR H0->PE (cxC X scope cl NC C s0 H0 ex pn) elt te)
 (hs:∀x,foldedSetIterable iter X.env x=pure x:=by intro _;rfl):PE X (.ListComp elt [⟨tg,iter,ifs,0⟩] scope pos) (zfo fr wi g tt te):=by
 intro pins s σ H Q I h;rw[eval_ListComp];refine zfP (use:=none) (R:=EP X pins σ Q) hRR hcalm hi hclos hcell hkind hnames hcl hhas hfr hlen hg ht he hs I h fun C D H' s' m I' hm hfp q=>?_
 obtain⟨f0,f1,f2,f3,f4,f5⟩:=hfp;exact⟨m,hm,fun h' hs'=>⟨.ref D,H',I'.turned (t':=s'.toks) (fun b o hb e=>hs'.extBut b o hb e) f0 f1 f3 f4 f5,rfl,q⟩⟩
theorem pgC (i:Nat){X:Cx}{scope:Scope}{cl:List (Str×Addr)}{NC:List Str}{C:Addr}{s0:Shared}{H0:Hp}{ex:List Addr}{pn:List (Addr×Obj)}{x:Str}{pos:Pos}(nd:NC.Nodup)(hi:NC[i]?=some x)(hx:scope.names.lookup x=some .local) :
 PG (cxC X scope cl NC C s0 H0 ex pn) (.Name x pos) (zdq i):=zfj (X:=cxC X scope cl NC C s0 H0 ex pn) nd hi (.inl (lookup_relabel_local hx)) (.inr (lookup_relabel_local hx))
end L2
namespace En
open PySem
open AutoSeq1 (wpAny_loadPart')
section
variable {prog:Program}{w:World}{A:Around}{E:Value->Shared->Prop}{s:Shared}
theorem zkC {it t:Addr}{i:Nat}{items:Array Value}{x:Value}{Q:Value->Shared->Prop}(a1:s.heap.IsTupleIter it t i)(a2:s.heap.IsTuple t items)(a3:items[i]?=some x)
 (q:∀h',h'.IsTupleIter it t (i+1)->Heap.SameBut it s.heap h'->Q x {s with heap:=h'}):wpAny (model prog w) A (Builtin.SmallTypes.nextOf (.ref it)) Q E s:=by
 obtain⟨o,b1,b2,b3⟩:=id a1;obtain⟨ot,c1,_,n,c2⟩:=a2;unfold Builtin.SmallTypes.nextOf;have body:wpAny (model prog w) A.in1 (Builtin.«tuple_iterator.__next__» ⟨[.ref it],[]⟩) (fun f s'=>∃v,f=.done (.ret v)/\Q v s') E s:=by
  show wpAny _ _ (do let v <-field (.ref it) 0;_) _ _ s
  refine waa (waP b1 b3 (x:=.ref t) rfl ?_);show wpAny _ _ (ite ((Value.ref t == Value.none)=true) _ _) _ _ s
  rw[if_neg (show ¬(Value.ref t == Value.none)=true by intro z;cases z)];show wpAny _ _ (do let v <-field (.ref it) 1;_) _ _ s
  refine waa (waP b1 b3 (x:=.int i 0) rfl ?_);show wpAny _ _ (do let v <-seqItems? (.ref t);_) _ _ s
  refine waa (wpAny_seqItems c1 c2 ?_);simp only[Int.toNat_natCast,a3];refine waa (wbO b1 b3 (by simp) (wag ⟨x,rfl,q _ ⟨_,waR _ b1 (wbF (wbe b3 _)),(Obj.cls_mapFields ..).trans b2,?_⟩ (Heap.SameBut.update ..)⟩));rw[wbe b3];simp[rawInt]
 have nx:=F.slot_tuple_iterator_next
 exact waa (wbW (name:=Str.ofString "__next__") a1.typeIs nx (wbQ nx a1.typeIs F.entry_tuple_iterator_next (waz body (fun f s' ⟨v,e,h⟩ =>⟨v,e,wag h⟩) fun _ _ x=>x) (F.args_tuple_iterator_next_1 _)))
theorem zjR {it t:Addr}{i:Nat}{items:Array Value}{Q:Value->Shared->Prop}(hh:A.handled=none)(a1:s.heap.IsTupleIter it t i)(a2:s.heap.IsTuple t items)(a3:items[i]?=none)
 (q:∀h' e,Heap.ExtBut it s.heap h'->(∃o,h'.get? e=some o/\o.cls=.type "StopIteration")->E (.ref e) {s with heap:=h'}):wpAny (model prog w) A (Builtin.SmallTypes.nextOf (.ref it)) Q E s:=by
 obtain⟨o,b1,b2,b3⟩:=id a1;obtain⟨ot,c1,_,n,c2⟩:=a2;unfold Builtin.SmallTypes.nextOf;have nx:=F.slot_tuple_iterator_next
 refine waa (wbW (name:=Str.ofString "__next__") a1.typeIs nx (wbQ nx a1.typeIs F.entry_tuple_iterator_next ?_ (F.args_tuple_iterator_next_1 _)));show wpAny _ _ (do let v <-field (.ref it) 0;_) _ _ s
 refine waa (waP b1 b3 (x:=.ref t) rfl ?_);show wpAny _ _ (ite ((Value.ref t == Value.none)=true) _ _) _ _ s
 rw[if_neg (show ¬(Value.ref t == Value.none)=true by intro z;cases z)];show wpAny _ _ (do let v <-field (.ref it) 1;_) _ _ s
 refine waa (waP b1 b3 (x:=.int i 0) rfl ?_);show wpAny _ _ (do let v <-seqItems? (.ref t);_) _ _ s
 refine waa (wpAny_seqItems c1 c2 ?_);simp only[Int.toNat_natCast,a3];refine waa (wpAny_rule (waa (wbO b1 b3 (by simp) ?_)));show wpAny _ _ (do let x <-newExc (.type "StopIteration") [];_) _ _ _
 refine waa ?_;simp only[newExc,newTuple];refine waa (waY ?_ (by size_fits));refine waa (m:=firstArgMember _ _) (wcd (a:=Value.none) (by first | rfl | (simp only[firstArgMember];rfl)) ?_);refine waY ?_ (by size_fits);simp only[raiseNew];refine waa (wpAny_handled ?_);first | rw[show A.in1.handled=none from hh] | rw[hh]
 exact waa (wag (wpAny_throw (q _ _ (((Heap.SameBut.update ..).extBut.push _).push _) ⟨_,war _ rfl,rfl⟩)))
end
theorem draws_tuple {prog:Program}{w:World}{A:Around}(hh:A.handled=none)(it t:Addr)(hne:t≠it)(items:Array Value) :
 Draws prog w A it [it,t] items.size (fun i v=>items[i]?=some v) (fun i h=>h.IsTupleIter it t i/\h.IsTuple t items) where
 live:=fun _ _ st=>let ⟨o,ho,_⟩:=st.1;⟨o,ho⟩
 frame:=fun _ _ _ ⟨⟨o,e,r⟩,⟨o',e',r'⟩⟩ hk=>⟨⟨o,hk it (by simp) o e,r⟩,⟨o',hk t (by simp) o' e',r'⟩⟩
 item:=fun i s Q E hi st hQ=>zkC st.1 st.2 (x:=items[i]) (by simp[hi]) fun h' a b=>hQ _ h' s.toks (by simp[hi]) ⟨a,st.2.extBut b.extBut hne⟩ b
 done:=fun s Q E st hE=>zjR hh st.1 st.2 (by simp) hE
theorem draws_end {prog:Program}{w:World}{A:Around}(hh:A.handled=none)(it t:Addr)(i:Nat)(items:Array Value)(hx:items[i]?=none) :
 Draws prog w A it [it,t] i (fun i v=>items[i]?=some v) (fun j h=>j=i/\h.IsTupleIter it t i/\h.IsTuple t items) where
 live:=fun _ _ st=>let ⟨o,ho,_⟩:=st.2.1;⟨o,ho⟩
 frame:=fun _ _ _ ⟨hj,⟨o,e,r⟩,⟨o',e',r'⟩⟩ hk=>⟨hj,⟨o,hk it (by simp) o e,r⟩,⟨o',hk t (by simp) o' e',r'⟩⟩
 item:=fun j s Q E hi st hQ=>by rw[st.1] at hi;exact absurd hi (waN _)
 done:=fun s Q E st hE=>zjR hh st.2.1 st.2.2 hx hE
theorem zhd (t:Addr)(items:Array Value)(n:Nat)(dct:Option Addr)(sl:Array (Option Value)) :
 Meets (Builtin.«enumerate.__new__» ⟨[.type "enumerate",.ref t],[]⟩) (fun _ R s=>s.heap.get? t=some {cls:=.type "tuple",dict:=dct,data:=.seq items n,slots:=sl}/\
  R (.ok (.ret (.ref (s.heap.push {cls:=.type "tuple_iterator",data:=.fields #[.ref t,.int 0 0]}).objs.size)))
    {s with heap:=(s.heap.push {cls:=.type "tuple_iterator",data:=.fields #[.ref t,.int 0 0]}).push {cls:=.type "enumerate",data:=.fields #[.none,.bool false,.ref s.heap.objs.size,rawInt 0,.none,.none]}}):=
 .of_wp fun prog w A R s h=>by
  obtain⟨hp,g,d,tk,os⟩:=s;obtain⟨hl,h⟩:=h;have hsub:=PySem.sub_enumerate
  have hL:Heap.IsTuple (Shared.heap ⟨hp,g,d,tk,os⟩) t items:=⟨_,hl,rfl,n,rfl⟩
  wp_walk using wbc hl
  refine wpAny_stack_any fun st=>wag ?_
  split
  ·rename_i c _ _ _ _ _
   cases(c == Value.type "enumerate")
   ·wp_walk using wbc hl,wbS hL
    exact⟨_,rfl,h⟩
   ·wp_walk using wbc hl,wbS hL
    exact⟨_,rfl,h⟩
  ·wp_walk using wbc hl,wbS hL
   exact⟨_,rfl,h⟩
theorem call_enum {prog:Program}{w:World}{A:Around}{E:Value->Shared->Prop}{s:Shared}{t:Addr}{items:Array Value}{Q:Value->Shared->Prop}(hL:s.heap.IsTuple t items)
 (h:∀h',IsEnum h' (s.heap.objs.size+1) s.heap.objs.size 0 .none->h'.IsTupleIter s.heap.objs.size t 0->h'.objs.size=s.heap.objs.size+2->
  (∀b o,s.heap.get? b=some o->h'.get? b=some o)->Q (.ref (s.heap.objs.size+1)) {s with heap:=h'}) :
 wpAny (model prog w) A (call (.type "enumerate") [.ref t]) Q E s:=by
 obtain⟨⟨c,dct,dt,sl⟩,hl,hc,n,hd⟩:=hL;obtain rfl:c=.type "tuple":=hc;obtain rfl:dt=.seq items n:=hd;refine callType_new F.called_enumerate (by decide) (F.typeCall_enumerate_1 _) (F.newCall_enumerate_1 _) (fun obj=>F.args_object_init_2 obj _) F.entry_enumerate_new (zhd t items n dct sl) ⟨hl,?_⟩;have hz:(s.heap.push {cls:=.type "tuple_iterator",data:=.fields #[.ref t,.int 0 0]}).objs.size=s.heap.objs.size+1:=wbN ..
 have q:=war (s.heap.push {cls:=.type "tuple_iterator",data:=.fields #[.ref t,.int 0 0]}) (o:={cls:=.type "enumerate",data:=.fields #[.none,.bool false,.ref s.heap.objs.size,rawInt 0,.none,.none]}) rfl
 show _/\_
 rw[hz] at q⊢;exact⟨⟨_,q,rfl⟩,h _ q ⟨_,wab _ (war _ rfl),rfl,rfl⟩ (by rw[wbN,hz]) fun b o x=>wab _ (wab _ x)⟩
end En
namespace L2
open PySem PySem.Spec PyProof PyProof.Rows
theorem Inv.laidF {X:Cx}{pins:List (Addr×Obj)}{σ:St}{H:Hp}{s:Shared}{h':Heap}{t':Nat}{fp:List Addr}{D:Addr}{o:HO}(I:Inv X pins σ H s)(hf:∀b∈fp,FpOk X pins H b)(k:∀b o,b∉fp->s.heap.get? b=some o->h'.get? b=some o)
 (hth:∀b∈fp,∃o,h'.get? b=some o) (hD:s.heap.get? D=none) (new:ObjOk X.prog X.w (upd H D o) h' D o):H D=none/\Inv X pins σ (upd H D o) {s with heap:=h',toks:=t'}:=by
 have hHD:H D=none:=by
  cases e:H D with
  | none=>rfl
  | some u=>
    obtain⟨ob,q⟩:=(I.hok D u e).there;rw[hD] at q;cases q
 refine⟨hHD,?_⟩;have nit:∀b u,H b=some u->b∉fp:=fun b u e z=>by rw[(hf b z).1] at e;cases e
 have nD:∀b u,H b=some u->b≠D:=fun b u e z=>by rw[z,hHD] at e;cases e
 have nD':∀b ob,s.heap.get? b=some ob->b≠D:=fun b u e z=>by rw[z,hD] at e;cases e
 refine I.step (g':=s.gens) (d':=s.drawn) (t':=t') (ch:=fp) (fun b hb=>?_) (fun b o _ _ hc e _=>k b o hc e) (fun b o _ _ hc e _=>⟨o.slots,k b o hc e⟩) (fun b ob _ e n=>by rw[zae (nD' b ob e)];exact n)
  (fun b o hc e=>⟨o,k b o hc e⟩) (fun b _ e=>by rw[zae (nD b _ e)];exact e) (fun b _ _ e=>by rw[zae (nD b _ e)];exact e) (fun b ps e=>⟨#[],by rw[zae (nD b _ e),e];simp⟩) (fun m hm=>?_) (fun b u e=>?_) I.bare
 ·obtain⟨f0,f1,f2,f3,f4,f5⟩:=hf b hb;exact⟨f3,f1,f4,f5⟩
 ·obtain⟨o,es,ep,ho,r⟩:=hm;exact⟨o,es,ep,k _ o (fun z=>(hf _ z).2.1 rfl) ho,r⟩
 ·by_cases z:b=D
  ·subst z;rw[zaf] at e;cases e;exact new
  ·rw[zae z] at e;refine(I.hok b u e).stay (fun c v hc q=>k c v ?_ q) (fun c q=>by rw[zae (nD c _ q)];exact q) fun c _ _ q=>by rw[zae (nD c _ q)];exact q
   rcases hc with z | z
   ·rw[z];exact nit b u e
   ·exact nit c _ z
def Ite (K:W.Frag)(a:Addr):It:=
 ⟨fun i H=>∃xs x,SqT K H a xs/\xs[i]?=some x,fun i H x H'=>∃p,H p=none/\x=.ref p/\∀xs,SqT K H a xs->∃y,xs[i]?=some y/\H'=upd H p (.tup [.int (i:Nat),y]),fun i H=>∃xs,SqT K H a xs/\xs.length<=i⟩
theorem zhe {P:Program}{w:World}{K:W.Frag}{elts:List Expr}{x1}{tpos:Pos}(a e it:Addr)(hei:e≠it)(hae:a≠e)(hai:a≠it) :
 Turn P w K (.Tuple elts x1 tpos) (Ite K a) [e,it] e (fun i h=>(∃old,IsEnum h e it (i:Nat) old)/\h.IsTupleIter it a i) where
 mem:=by simp
 obj:=fun i h st b hb=>by
  obtain⟨⟨old,e1⟩,o,e2,c,d⟩:=st;rcases wai.mp hb with z | z
  ·subst z;exact⟨_,e1,fun v z=>by cases z⟩
  ·have z:=wak.mp z
   subst z;exact⟨o,e2,fun v z=>by rw[d] at z;cases z⟩
 keep:=fun i h h' st k=>by
  obtain⟨⟨old,e1⟩,o,e2,c,d⟩:=st;exact⟨⟨old,k e (by simp) _ e1⟩,o,k it (by simp) _ e2,c,d⟩
 item:=by
  intro X hP hw hK hc i pins s σ H E I hf st hg;subst hP hw hK;obtain⟨⟨old,en⟩,ti⟩:=st;obtain⟨xs,x,hq,hx⟩:=hg;obtain⟨its,rv,p,hz⟩:=I.tuple hq;obtain⟨u,hu,ru⟩:=rv.get hx;have hl:=rv.length
  have hlt:i<its.toArray.size:=by
   rw[wac,<-hl];exact(wal.mp hx).1
  have hh:X.A.in1.handled=none:=I.ok.hd hc
  refine wpAny_pyNext_enum_itemD (En.draws_tuple (A:=X.A.in1) hh it a hai its.toArray) en ⟨ti,p⟩ hlt hei (by simp[hei,Ne.symm hae]) fun y h' tk hy en' st' tup sz k=>?_
  have ey:y=u:=by
   have hy':its[i]?=some y:=by simpa using hy
   rw[hu] at hy';exact(wav hy').symm
  subst ey;refine⟨_,rfl,wpAny_letOwnedTupleGo_enum en' fun h2 en2 sb2=>?_⟩;have frS:s.heap.get? s.heap.objs.size=none:=by
   cases q:s.heap.get? s.heap.objs.size with
   | none=>rfl
   | some o=>exact absurd (wae q) (waN _)
  have neS:∀b∈[e,it],b≠s.heap.objs.size:=fun b hb z=>by
   rcases wai.mp hb with q | q
   ·have en1:=(show s.heap.get? e=some _ from en)
    rw[<-z,q,en1] at frS;cases frS
   ·obtain⟨o,e2,_⟩:=ti;rw[<-z,wak.mp q,e2] at frS;cases frS
  obtain⟨hn,I1⟩:=I.laidF (h':=h2) (t':=tk+1) (fp:=[e,it]) (D:=s.heap.objs.size) (o:=.tup [.int (i:Nat),x]) hf (fun b o hb q=>sb2.extBut b o (fun z=>hb (by simp[z])) (k b o (fun z=>hb (by simp[z])) (fun z=>hb (by simp[z])) q))
   (fun b hb=>by
    rcases wai.mp hb with q | q
    ·subst q;exact⟨_,en2⟩
    ·have q:=wak.mp q
     subst q;obtain⟨o,e2,_⟩:=st'.1;exact⟨o,sb2.extBut _ o (Ne.symm hei) e2⟩) frS
   ⟨by show 2<=sizeLine;decide,[.int (i:Nat) tk,y],.cons ⟨_,rfl⟩ (.cons ru .nil),⟨_,sb2.extBut _ _ (neS e (by simp)).symm tup,rfl,_,rfl⟩⟩
  refine⟨.ref s.heap.objs.size,_,I1,rfl,⟨_,hn,rfl,fun ys hy=>⟨x,by rw[I.tuple_inj hy hq];exact hx,rfl⟩⟩,⟨⟨_,en2⟩,?_⟩,fun b hb=>?_⟩
  ·obtain⟨o,e2,c,d⟩:=st'.1;exact⟨o,sb2.extBut _ o (Ne.symm hei) e2,c,d⟩
  ·rw[zae (neS b hb)];exact(hf b hb).1
 done:=by
  intro X hP hw hK hc i pins s σ H E I hf st hg;subst hP hw hK;obtain⟨⟨old,en⟩,ti⟩:=st;obtain⟨xs,hq,hx⟩:=hg;obtain⟨its,rv,p,hz⟩:=I.tuple hq;obtain⟨f0,f1,f2,f3,f4,f5⟩:=hf it (by simp);have hl:=rv.length
  have hh:X.A.in1.handled=none:=I.ok.hd hc
  refine wpAny_pyNext_enum_endD (En.draws_end (A:=X.A.in1) hh it a i its.toArray (by simp;omega)) en ⟨rfl,ti,p⟩ fun h' eb=>⟨rfl,I.turned (t':=s.toks) (fun b o hb e=>eb b o hb e) f0 f1 f3 f4 f5⟩
 self:=fun _ _ _ _ _ st h=>by
  obtain⟨⟨old,en⟩,_⟩:=st;exact wpAny_pyIter_enum en h
def zn1 (K:W.Frag)(ta:TA):TI:=fun σ H R=>ta σ H fun vs H1=>∃a,vs = [.ref a]/\(∃xs,SqT K H1 a xs)/\R (Ite K a) H1
theorem zkD {X:Cx}{elts:List Expr}{x1}{tpos:Pos}{l:Expr}{ta:TA}{p pos:Pos}(hg:Gl X "enumerate")(hm:X.mg "enumerate"=none)(ha:PA X [l] ta)(hs:starEach [l] X.env = [(false,eval l X.env)]:=by rfl) :
 PI X (.Tuple elts x1 tpos) (.Call (.Name "enumerate" p) [l] [] pos) (zn1 X.K ta):=by
 intro pins s σ H R I h;refine waG (zb0 I hg hm boot_enumerate ?_ (by decide) (by decide));refine waK (thn (ha pos pins s σ H _ I h) fun us s1 ⟨vs,H1,I1,rv,q1⟩ =>?_) hs rfl;obtain⟨a,e,⟨xs,hq⟩,q⟩:=q1;subst e;obtain⟨u,rfl,r1⟩:=zis rv;obtain rfl:u=Value.ref a:=r1;obtain⟨its,rv,pt,hz⟩:=I1.tuple hq;refine En.call_enum pt fun h' en ti sz k=>?_
 have alt:a<s1.heap.objs.size:=pt.lt
 refine wpAny_pyIter_enum en ⟨s1.heap.objs.size+1,[s1.heap.objs.size+1,s1.heap.objs.size],_,_,H1,rfl,I1.kept (t':=s1.toks) k,zhe a _ _ (Nat.succ_ne_self _) (wax (Nat.lt_succ_of_lt alt)) (wax alt),⟨⟨_,en⟩,ti⟩,fun b hb=>?_,q⟩;rcases wai.mp hb with z | z
 ·subst z;exact I1.fpOk (wcs _) (I1.hok.fresh (wcs _))
 ·have z:=wak.mp z
  subst z;exact I1.fpOk (wam _) (I1.hok.fresh (wam _))
section
variable {X:Cx}
theorem zkE:OpR X (binaryOp .Add) (fun x y H Q=>∃a b ys,x=.ref a/\y=.ref b/\SqT X.K H a []/\SqT X.K H b ys/\Q (.ref b) H):=by
 intro pins s σ H x y v u Q I rx ry h;obtain⟨a,b,ys,rfl,rfl,ha,hb,q⟩:=h;cases rx;cases ry;obtain⟨its,r1,p1,_⟩:=I.tuple ha;obtain⟨its2,r2,p2,_⟩:=I.tuple hb;have e1:its = []:=r1.nil_iff.mpr rfl
 subst e1;obtain⟨⟨c1,d1,dt1,s1⟩,g1,g2,n1,g3⟩:=p1;obtain⟨⟨c2,d2,dt2,s2⟩,k1,k2,n2,k3⟩:=p2;obtain rfl:c1=.type "tuple":=g2;obtain rfl:c2=.type "tuple":=k2;obtain rfl:dt1=.seq _ n1:=g3;obtain rfl:dt2=.seq _ n2:=k3;exact concat_meets ⟨_,g1,rfl⟩ ⟨_,k1,rfl⟩ noFill_tuple_add seq_tuple_add wca wbV (wbR _ _) (tuple_addW0 a b _ _ n1 n2 d1 d2 s1 s2 rfl) ⟨g1,k1,⟨.ref b,H,I,rfl,q⟩⟩
def zmm (K:W.Frag):R2:=fun x y H Q=>∃a b xs ys,x=.ref a/\y=.ref b/\SqT K H a xs/\SqT K H b ys/\ys≠[]/\xs.length+ys.length<=sizeLine/\
 (xs = []->Q (.ref b) H)/\(xs≠[]->∀p,H p=none->Q (.ref p) (upd H p (.tup (xs++ys))))
theorem zkF:OpR X (binaryOp .Add) (zmm X.K):=by
 intro pins s σ H x y v u Q I rx ry h;obtain⟨a,b,xs,ys,rfl,rfl,ha,hb,hy,hz,q1,q2⟩:=h;by_cases hx:xs = []
 ·subst hx;exact zkE pins s σ H _ _ v u Q I rx ry ⟨a,b,ys,rfl,rfl,ha,hb,q1 rfl⟩
 ·exact zkx pins s σ H _ _ v u Q I rx ry ⟨a,b,xs,ys,rfl,rfl,ha,hb,hx,hz,fun z=>absurd z hy,fun _=>q2 hx⟩
end
theorem zdU {H:Hp}{p:Addr}(h:H p=none)(o:HO):Same H (upd H p o):=fun b u q=>by rw[zae (zax q h)];exact q
end L2
namespace Sh
open PySem L2
namespace Tr
end Tr
end Sh
namespace SO
open PySem PySem.W PyProof.Rows
def lx (k:Nat->Int)(a b:Nat):Prop:=k a<k b\/(k a=k b/\a<b)
def cmpO (n:Nat)(k:Nat->Int)(i j:Nat)(C:Bool->Shared->Prop)(s:Shared):Prop:=i<n/\j<n/\C (decide (k i<k j)) s
section
variable {k:Nat->Int}{N:Nat}
structure Pre (N:Nat)(p:Array Nat)(m:Nat):Prop where
 sz:p.size=N
 lo:∀i,i<m->p.getD i 0<m
 id:∀i,m<=i->i<N->p.getD i 0=i
 pm:p.Perm (List.toArray (List.range N))
structure Asc (k:Nat->Int)(N:Nat)(p:Array Nat)(m:Nat):Prop extends Pre N p m where
 up:∀i j,i<j->j<m->lx k (p.getD i 0) (p.getD j 0)
theorem Pre.lt {p:Array Nat}{m:Nat}(P:Pre N p m){i:Nat}(h:i<N)(hm:m<=N):p.getD i 0<N:=by
 by_cases q:i<m
 ·have:=P.lo i q;omega
 ·rw[P.id i (by omega) h];exact h
theorem zcX {s:Shared}{p:Array Nat}{m:Nat}(A:Asc k N p m)(hm:m<N):∀(f l r:Nat),r - l<=f->l<=r->r<=m->(∀i,i<l->¬k (p.getD m 0)<k (p.getD i 0))->(∀i,r<=i->i<m->k (p.getD m 0)<k (p.getD i 0))->
 (kas_place p m f l r).kasWp (cmpO N k) (fun x _=>x<=m/\(∀i,i<x->¬k (p.getD m 0)<k (p.getD i 0))/\∀i,x<=i->i<m->k (p.getD m 0)<k (p.getD i 0)) s
 | 0,l,r,hf,hl,hr,h1,h2=>⟨by omega,h1,fun i hi=>h2 i (by omega)⟩
 | f+1,l,r,hf,hl,hr,h1,h2=>by
   unfold kas_place;by_cases e:l≥r
   ·rw[if_pos e];exact⟨by omega,h1,fun i hi=>h2 i (by omega)⟩
   ·rw[if_neg e];refine⟨A.lt (by omega) (by omega),A.lt (by omega) (by omega),?_⟩;by_cases h:k (p.getD m 0)<k (p.getD ((l+r) / 2) 0)
    ·rw[waB h];dsimp only[];rw[if_pos rfl];refine zcX A hm f _ _ (by omega) (by omega) (by omega) h1 fun i hi him=>?_
     by_cases z:i=(l+r) / 2
     ·rw[z];exact h
     ·have:=A.up ((l+r) / 2) i (by omega) him
      unfold lx at this;omega
    ·rw[wau h];dsimp only[];rw[if_neg (by decide)];refine zcX A hm f _ _ (by omega) (by omega) (by omega) (fun i hi=>?_) h2;by_cases z:i=(l+r) / 2
     ·rw[z];exact h
     ·have:=A.up i ((l+r) / 2) (by omega) (by omega)
      unfold lx at this;omega
end
end SO
namespace L2
open PySem PySem.Spec PyProof PyProof.Rows PySem.W
section
variable {X:Cx}{pins:List (Addr×Obj)}{σ:St}{H:Hp}{s:Shared}
end
theorem zgv {pos:Pos}{a b:Int}{c cv:Value}(l:List Value)(h:TriplesOk l):codeAmong pos (l++[rawInt a,rawInt b,c])=some cv->codeAmong pos l=some cv\/cv=c:=by
 fun_induction TriplesOk l with
 | case1=>
   intro q;simp only[wcr,codeAmong,rawInt] at q;split at q
   ·cases q;exact .inr rfl
   ·simp[codeAmong] at q
 | case2 x t y u z rest ih=>
   intro q;simp only[List.cons_append,codeAmong] at q⊢;split at q
   ·rename_i hc;rw[if_pos hc];exact .inl q
   ·rename_i hc;rw[if_neg hc];exact ih h q
 | case3 l h1 h2=>exact h.elim
section
variable {X:Cx}{pins:List (Addr×Obj)}{σ:St}{H:Hp}{s:Shared}
theorem CodeK.hd {K:W.Frag}{c P:Addr}{h:Heap}(hC:CodeK K c P)(x:K.In h):CodeHd h c P:=by
 obtain⟨o,vs,file,tf,flags,tg,inF,text,tt,l,e⟩:=hC.ex;exact⟨o,vs,file,tf,flags,tg,inF,text,tt,x _ _ l,e⟩
theorem Inv.grownC {P c':Addr}{ps qs:Array Value}{h':Heap}{t':Nat}{oc:Obj}{vs:Array Value}{t:Tok}{q:Str}{a b:Int}(I:Inv X pins σ H s)(hH:H P=some (.tbl ps))(hps:ps[0]?=some (Value.str q 0))(ht:TabC H ps qs)(k:∀b o,b≠P->s.heap.get? b=some o->h'.get? b=some o)
 (e:h'.get? P=some (tabO (qs++#[rawInt a,rawInt b,.ref c']))) (hc:s.heap.objs.size<=c') (ho:h'.get? c'=some oc) (hd:oc.data=.fields vs) (hv:vs[1]?=some (.str q t)) :
 Inv X pins σ (upd H c' (.frz oc (.ext fun _=>True))) {s with heap:=h',toks:=t'}:=by
 have hn:H c'=none:=I.hok.fresh hc
 have nP:∀b u,H b=some u->b≠c':=fun b u q z=>by rw[z,hn] at q;cases q
 refine I.un ⟨fun b o q n _ _=>k b o (Inv.ne_tbl hH n) q,fun b o q n _ _=>⟨o.slots,k b o (Inv.ne_tbl hH n) q⟩,fun b o q n _=>?_,fun b o q _=>?_,fun b xs q=>?_,fun b o u q=>?_,fun b qs q=>⟨#[],?_⟩⟩ fun b u q=>?_
 ·rw[zae (fun(z:b=c')=>by have e2:=wae q;rw[z] at e2;exact waN _ (wah e2 hc))];exact n
 ·by_cases z:b=P
  ·subst z;exact⟨_,e⟩
  ·exact⟨o,k b o z q⟩
 ·rw[zae (nP b _ q)];exact q
 ·rw[zae (nP b _ q)];exact q
 ·rw[zae (nP b _ q),q];simp
 ·by_cases z0:b=c'
  ·subst z0;rw[zaf] at q;cases q;exact⟨ho,trivial,⟨_,ho⟩,fun _ _ _ _=>trivial⟩
  ·rw[zae z0] at q;by_cases z:b=P
   ·subst z;rw[hH] at q;cases q;refine⟨_,e,?_,fun pos cv z=>?_⟩
    ·simpa using TriplesOk_snoc a _ (.ref c') _ ht.1
    ·rcases zgv (a:=a) (b:=_) (c:=.ref c') qs.toList ht.1 (by simpa using z) with z | z
     ·obtain⟨c2,o,u,vs,t,q',e1,e2,e3⟩:=ht.2 pos cv z;exact⟨c2,o,u,vs,t,q',e1,by rw[zae (nP _ _ e2)];exact e2,e3⟩
     ·exact⟨c',oc,_,vs,t,q,z,zaf,hd,hv,hps⟩
   ·refine(I.hok b u q).stay (fun c v hc q'=>k c v ?_ q') (fun c q'=>by rw[zae (nP _ _ q')];exact q') fun c xs _ q'=>by rw[zae (nP _ _ q')];exact q'
    rcases hc with r | r
    ·rw[r];exact z
    ·intro r';subst r';rw[hH] at r;cases r
end
end L2
namespace L2
open PySem PySem.Spec PyProof.Rows
section
variable {κ:Type}[DecidableEq κ]
def valV (kvs:List (κ×V))(k:κ):Option V:=(kvs.find? fun kv=>decide (kv.1=k)).map (·.2)
theorem zfQ {p:κ×V}{r:List (κ×V)}{k:κ}(e:p.1=k):valV (p::r) k=some p.2:=by simp[valV,wbG,e]
theorem zfR {p:κ×V}{r:List (κ×V)}{k:κ}(e:¬p.1=k):valV (p::r) k=valV r k:=by simp[valV,wbG,e]
theorem RelO.isSome_eq {o:Option V}{u:Option Value}(r:RelO o u):o.isSome=u.isSome:=by
 cases o with
 | none=>cases u with
   | none=>rfl
   | some _=>exact(show False from r).elim
 | some _=>cases u with
   | none=>exact(show False from r).elim
   | some _=>rfl
theorem KV.val {kvs:List (κ×V)}{vs:List (κ×Value)}(r:KV kvs vs)(k:κ):RelO (valV kvs k) (valueAt vs k):=by
 unfold KV at r;induction r with
 | nil=>exact True.intro
 | @cons p q ps qs h t ih=>
   obtain⟨h1,h2⟩:=h;by_cases e:p.1=k
   ·have e':q.1=k:=h1.symm.trans e
    have b:valueAt (q::qs) k=some q.2:=by simp[valueAt,wbG,e']
    rw[zfQ e,b];exact h2
   ·have e':¬q.1=k:=fun z=>e (h1.trans z)
    have b:valueAt (q::qs) k=valueAt qs k:=by simp[valueAt,wbG,e']
    rw[zfR e,b];exact ih
end
theorem zmn {P:Program}{w:World}{k:Key}{u:Value}(r:RelV (kV k) u):(za2 P w).is k u=true:=by
 cases k with
 | inl i=>obtain⟨t,e⟩:=(show ∃t,u=Value.int i t from r);subst e;exact zff P w i t
 | inr x=>obtain⟨t,e⟩:=(show ∃t,u=Value.str x t from r);subst e;exact zfg P w x t
theorem zeF {P:Program}{w:World}:∀{ks:List Key}{us:List Value},Vals (ks.map kV) us->ItemsAre (za2 P w) ks us
 | [],_,r=>by rw[List.map_nil] at r;cases r;exact .nil
 | k::ks,_,r=>by
   rw[wbf] at r;cases r with
   | cons h t=>exact .cons (zmn h) (zeF t)
abbrev KT (H:Hp):List (List Key×V)->List (List Key×Addr×Value)->Prop:=Paired fun p q=>p.1=q.1/\H q.2.1=some (.tup (p.1.map kV))/\RelV p.2 q.2.2
theorem KT.val {H:Hp}{kvs:List (List Key×V)}{xs:List (List Key×Addr×Value)}(r:KT H kvs xs)(k:List Key):RelO (valV kvs k) ((atKey xs k).map (·.2)):=by
 induction r with
 | nil=>exact True.intro
 | @cons p q ps qs h t ih=>
   obtain⟨h1,_,h2⟩:=h;by_cases e:p.1=k
   ·have e':q.1=k:=h1.symm.trans e
    have b:atKey (q::qs) k=some q.2:=by simp[atKey,wbG,e']
    rw[zfQ e,b];exact h2
   ·have e':¬q.1=k:=fun z=>e (h1.trans z)
    have b:atKey (q::qs) k=atKey qs k:=by simp[atKey,wbG,e']
    rw[zfR e,b];exact ih
section
variable {P:Program}{w:World}{H:Hp}{h:Heap}{a:Addr}
theorem zmo {u:HO}(ok:HOk P w H h)(e:Rd H a u):ObjOk P w H h a u:=e.ok ok
theorem zn2 {kvs:List (Key×V)}(ok:HOk P w H h)(e:Rd H a (.dK kvs)):kvs.length<=sizeLine/\(a == sysModules)=false/\∃vs,KV kvs vs/\h.DictOf (za2 P w) a vs:=
 show ObjOk P w H h a (.dK kvs) from zmo ok e
theorem zjS {ks:List Key}(ok:HOk P w H h)(e:H a=some (.tup (ks.map kV))):(tupleKind (za2 P w)).is h ks a:=by
 obtain⟨_,its,r,o,h1,h2,n,h3⟩:=(show ObjOk P w H h a (.tup (ks.map kV)) from ok a _ e)
 exact⟨o,its.toArray,n,h1,h2,h3,by simpa using zeF r⟩
theorem zn3 {kvs:List (List Key×V)}(ok:HOk P w H h)(e:Rd H a (.dT kvs)):kvs.length<=sizeLine/\(a == sysModules)=false/\
 ∃xs,KT H kvs xs/\h.DictOfH (tupleKind (za2 P w)) a xs:=by
 obtain⟨z,y,xs,r,o,es,ep,h1,h2,h3,h4,h5⟩:=(show ObjOk P w H h a (.dT kvs) from zmo ok e)
 refine⟨z,y,xs,r,o,es,ep,h1,h2,h3,h4,fun x hx=>?_,h5⟩;have all:∀{l:List (List Key×V)}{m:List (List Key×Addr×Value)},KT H l m->∀x∈m,(tupleKind (za2 P w)).is h x.1 x.2.1:=by
  intro l m q;induction q with
  | nil=>intro x hx;exact nomatch hx
  | @cons p q ps qs hq t ih=>
    intro x hx;rcases wai.mp hx with e | hx
    ·subst e;exact zjS ok (by rw[<-hq.1];exact hq.2.1)
    ·exact ih x hx
 exact all r x hx
end
def DGet (H:Hp)(a:Addr)(y:V)(r:Option V):Prop:=
 (∃kvs k,Rd H a (.dK kvs)/\y=kV k/\r=valV kvs k)\/∃kvs k b,Rd H a (.dT kvs)/\y=.ref b/\H b=some (.tup (k.map kV))/\r=valV kvs k
theorem DGet.k {H:Hp}{a:Addr}{kvs:List (Key×V)}{k:Key}(e:H a=some (.dK kvs)):DGet H a (kV k) (valV kvs k):=.inl ⟨kvs,k,.inl e,rfl,rfl⟩
section
variable {X:Cx}{pins:List (Addr×Obj)}{σ:St}{H:Hp}{s:Shared}{a:Addr}{y v:V}{u r:Value}{o:Option V}{A:Around}{E:Value->Shared->Prop}
theorem zkG {Q:Value->Shared->Prop}(hu:A.units+1<cLine)(I:Inv X pins σ H s)(g:DGet H a y o)(ry:RelV y u)(h:∀s',Inv X pins σ H s'->Q (.bool (!o.isSome)) s') :
 wpAny (model X.prog X.w) A (compareOp .NotIn u (.ref a)) Q E s:=by
 rcases g with⟨kvs,k,e,ey,l⟩ | ⟨kvs,k,b,e,ey,eb,l⟩
 ·subst ey;obtain⟨z,hd,vs,rel,dd⟩:=zn2 I.hok e;refine wpAny_notIn_of (zmn ry) hd dd.mapOf ?_;rw[<-(rel.val k).isSome_eq,<-l];exact h _ (I.tok _)
 ·subst ey;cases(show u=Value.ref b from ry);obtain⟨z,hd,xs,rel,dd⟩:=zn3 I.hok e;refine wpAny_notIn_heap (tupleKind_room_in1 hu) (zjS I.hok eb) hd dd ?_;have q:=(rel.val k).isSome_eq
  rw[Option.isSome_map] at q;rw[<-q,<-l];exact h _ (I.tok _)
end
section
variable {X:Cx}{pins:List (Addr×Obj)}{σ:St}{H:Hp}{s:Shared}{a:Addr}{kvs:List (Key×V)}{k:Key}{u:Value}{A:Around}{E:Value->Shared->Prop}
end
section
variable {X:Cx}{o i e value:Expr}{pos pos' tpos:Pos}{td ty tv:TE}
end
section
variable {X:Cx}{pos:Pos}
end
section
variable {X:Cx}{pins:List (Addr×Obj)}{σ:St}{H:Hp}{s:Shared}{a:Addr}{y d:V}{u r:Value}{o:Option V}{A:Around}{E:Value->Shared->Prop}
end
section
variable {X:Cx}{o e f:Expr}{apos cpos:Pos}{td ty tx:TE}
end
section
variable {X:Cx}{pins:List (Addr×Obj)}{σ:St}{H:Hp}{s:Shared}{a:Addr}{kvs:List (Key×V)}{A:Around}{E:Value->Shared->Prop}
end
section
variable {X:Cx}{pins:List (Addr×Obj)}{σ:St}{H:Hp}{s:Shared}{a:Addr}{y:V}{u:Value}{A:Around}{E:Value->Shared->Prop}
end
end L2
namespace L2
open PySem PySem.Spec PyProof PyProof.Rows
section
variable {X:Cx}
def tRev (K:W.Frag)(te:TE):TE:=fun σ H Q=>te σ H fun x H1=>∃a xs,x=.ref a/\SqL K H1 a xs/\∀p,H1 p=none->Q (.ref p) (upd H1 p (.lst xs.reverse))
theorem zmp {e:Expr}{te:TE}{p2 p3 p4 pos:Pos}{j:Nat}(he:PE X e te):PE X (.Subscript e (.Slice none none (some (.UnaryOp .USub (.Constant (.int 1) j p3) p4)) p2) pos) (tRev X.K te):=by
 intro pins s σ H Q I h;refine Subscript_ (thn (he pins s σ H _ I h) fun v s1 ⟨x,H1,I1,r1,q1⟩ =>?_);obtain⟨a,xs,rfl,hx,q⟩:=q1;cases r1;refine wpAny_Slice ?_;rw[evalPart_none];refine wag ?_;refine wag ?_;rw[evalPart_some];refine UnaryOp_ (wpAny_Constant_int ?_);refine PyProof.Rows.neg_int ?_;obtain⟨its,r,ht,hz⟩:=I1.list hx;have hlen:=r.length
 have I4:Inv X pins σ H1 {s1 with heap:=s1.heap.push {cls:=.type "slice",data:=.fields #[.none,.none,.int (-1) (s1.toks+1)]},toks:=s1.toks+1+1}:=I1.kept (t':=s1.toks+1+1) fun b ob q=>wab _ q
 obtain⟨its4,r4,ht4,hz4⟩:=I4.list hx;have hlen4:=r4.length
 refine tail_any (ops:=[.ref a,.ref s1.heap.objs.size]) ht4.isList.typeIs slot_list_getitem.lookup ?_ (by with_unfolding_all rfl);refine wpAny_getItem_list_slice ht4.isList (Heap.IsSliceOf.new s1.heap .none .none (.int (-1) (s1.toks+1))) .none .none (.int (-1) _) (by simp) ?_ (by rw[wac] <;> omega);rw[PySem.W.krv_pick];refine⟨.ref _,_,I4.laid (t':=s1.toks+1+1) (o:=.lst xs.reverse) (fun b ob q=>wab _ q) (wam _) ?_,rfl,q _ (I4.hok.fresh (wam _))⟩;exact⟨by rw[wbh];exact hz,its4.reverse,0,r4.reverse,war (s1.heap.push {cls:=.type "slice",data:=.fields #[.none,.none,.int (-1) (s1.toks+1)]}) (o:={cls:=.type "list",data:=.seq its4.reverse.toArray}) rfl⟩
end
structure Cal (P:Program)(w:World)(K:W.Frag)(mg:Str->Option Value)(base:Heap)(k:Nat)(x:Str)(ps:List Str)(sp:Sp):Prop where
 ex:∃(f:Addr) (fd:FuncData),FnOk P w K mg base CX0 k f fd ps sp/\Binds K fd ps []/\W.keepIn K (.ref f)=true/\mg x=some (.ref f)
section
variable {X:Cx}{k:Nat}{x:Str}{ps:List Str}{sp:Sp}{t:TA}{p pos:Pos}{e:Expr}{es:List Expr}
theorem pc {k':Nat}(C:Cal X.prog X.w X.K X.mg X.base k x ps sp)(hr:Room k' X.A)(ha:PA X (e::es) t)(hk:k<=k':=by decide)(hg:Gl X x:=by rfl)(hdb:(x == ("__debug__" : Str))=false:=by decide)
 (he:starEach (e::es) X.env=(false,eval e X.env)::starEach es X.env:=by rfl) (hpl:(backTo pos (starEach es X.env)).any (·.1)=false:=by rfl):PE X (.Call (.Name x p) (e::es) [] pos) (zgq sp [] E0 t):=by
 obtain⟨f,fd,a,b,c,d⟩:=C.ex;exact zku (a.mono hk) hr hg d c b .nil zml ha hdb he hpl
end
def za8:List Str:=["len","range","min","max","int","str","bool","list","tuple","isinstance","any","all","enumerate","abs","sorted","dict","ord","chr","reversed"]
def Blt (mg:Str->Option Value):Prop:=∀x∈za8,mg x=none
theorem Blt.get {mg:Str->Option Value}(B:Blt mg)(x:Str)(h:x∈za8:=by decide +kernel):mg x=none:=B x h
theorem za3 {P:Program}{w:World}{K:W.Frag}{mg:Str->Option Value}{base:Heap}{k:Nat}{x:Str}{ps:List Str}{sp:Sp}{f:Addr}{fd:FuncData}(h:FnOk P w K mg base CX0 k f fd ps sp)(b:Binds K fd ps [])(c:W.keepIn K (.ref f)=true)(d:mg x=some (.ref f)) :
 Cal P w K mg base k x ps sp:=⟨f,fd,h,b,c,d⟩
section
variable {X:Cx}{r:List V->Hp->VK->Prop}{t:TA}{p pos:Pos}{e:Expr}{es:List Expr}{id T:String}{x:Str}
theorem pb (hc:zcc X (.builtin id) r)(B:Blt X.mg)(hv:bootBuiltins x=some (.builtin id))(ha:PA X (e::es) t)(hB:x∈za8:=by decide +kernel)(hg:Gl X x:=by rfl)(hn:x≠"__name__":=by decide)(hdb:(x == ("__debug__" : Str))=false:=by decide)
 (he:starEach (e::es) X.env=(false,eval e X.env)::starEach es X.env:=by rfl) (hpl:(backTo pos (starEach es X.env)).any (·.1)=false:=by rfl):PE X (.Call (.Name x p) (e::es) [] pos) (tCB r t):=
 ziu hc hg (B x hB) hv ha hn hdb he hpl
theorem pty (hc:zcc X (.type T) r)(B:Blt X.mg)(hv:bootBuiltins x=some (.type T))(ha:PA X (e::es) t)(hB:x∈za8:=by decide +kernel)(hg:Gl X x:=by rfl)(hn:x≠"__name__":=by decide)(hdb:(x == ("__debug__" : Str))=false:=by decide)
 (he:starEach (e::es) X.env=(false,eval e X.env)::starEach es X.env:=by rfl) (hpl:(backTo pos (starEach es X.env)).any (·.1)=false:=by rfl):PE X (.Call (.Name x p) (e::es) [] pos) (tCB r t):=
 zg1 hc hg (B x hB) hv ha hn hdb he hpl
theorem ptn {v:V}{u:Value}(B:Blt X.mg)(hv:bootBuiltins x=some u)(rl:RelV v u)(hB:x∈za8:=by decide +kernel)(hg:Gl X x:=by rfl)(hn:x≠"__name__":=by decide)(hdb:(x == ("__debug__" : Str))=false:=by decide):PE X (.Name x pos) (tC v):=
 zkk hg (B x hB) hv rl hn hdb
theorem papp {o:Expr}{to:TE}{apos cpos:Pos}(ho:PE X o to)(ha:PA X [e] t)
 (hbase:attributeBase o "append" X.env (eval o X.env)=eval o X.env:=by rfl)
 (hfew:((backTo cpos (starEach [e] X.env)).all (fun x=>!x.1)&&(backToKw cpos (keywordEach [] X.env)).all (fun x=>x.1.isSome)
  && decide ([e].length+([]:List Keyword).length+(if([]:List Keyword).isEmpty then 0 else 1)<30))=true:=by rfl)
 (hline:(apos.endLine == cpos.line)=true:=by rfl) (hs:starEach [e] X.env = [(false,eval e X.env)]:=by rfl) :
 PE X (.Call (.Attribute o "append" apos) [e] [] cpos) (tBM X.K "list" zfl to t):=
 zmj PySem.F.plainAttrs_list PySem.F.slot_list_append PySem.F.type_list_append zeD ho ha hbase hfew hline hs rfl
end
def zmq (K:W.Frag):List V->Hp->VK->Prop:=fun xs H Q=>∃x n t k,xs = [x,.ty n]/\TyOf K H x t/\PySem.W.kitOne K t (.type n)=some k/\Q (.bl k) H
theorem zkH {X:Cx}:zcc X (.builtin "isinstance") (zmq X.K):=zfn
end L2
namespace Rv
open PySem PySem.Spec PyProof PyProof.Rows
open Sem (wp)
theorem zcf:Slot "reversed" "__init__" "object.__init__":=
 .of (owner:="object") (n:="__init__") (by rw[typeLookup_type,builtinLookup_eq_fast];kernel_rfl) (by decide +kernel) (by decide +kernel) (by decide +kernel)
  (by first | exact .inl (by decide +kernel) | exact .inr (by decide +kernel)) (by rw[isSubtype_type];kernel_rfl)
theorem zcL:mroOf (.type "reversed")=pure [.type "reversed",.type "object"]:=by rw[mroOf_type];kernel_rfl
theorem zb4:typeLookup (.type "reversed") "__new__"=pure (some (.builtin "reversed.__new__")):=by rw[typeLookup_type,builtinLookup_eq_fast];kernel_rfl
theorem called_reversed:TypeCalled "reversed" "reversed.__new__" "object.__init__":=
 ⟨by decide +kernel,by decide +kernel,⟨_,_,zcL⟩,madeBy_type zcL zb4 (by decide +kernel),by decide +kernel,by rw[isSubtype_type];kernel_rfl,zcf⟩
theorem typeCall_reversed_1 (a:Value):checkTypeCall "reversed" ⟨[a],[]⟩=pure ():=by kernel_rfl
theorem newCall_reversed_1 (a:Value):checkBuiltinCall "reversed.__new__" ⟨[.type "reversed",a],[]⟩=pure ():=by kernel_rfl
theorem entry_reversed_new:entryFor table "reversed.__new__"=some Builtin.«reversed.__new__»:=entryFor_of_tree (by kernel_rfl)
theorem sub_ri:isSubtype (.type "range_iterator") (.type "reversed")=pure false:=by rw[isSubtype_type];kernel_rfl
section
variable {prog:Program}{w:World}{A:Around}{E:Value->Shared->Prop}{s:Shared}
theorem callType_else {T T' newId initId:String}{Bn:Builtin}{args:List Value}{S:PySem.Spec}{Q Q₁:Value->Shared->Prop}(ft:TypeCalled T newId initId)
 (hct:checkTypeCall T ⟨args,[]⟩=pure ()) (hcn:checkBuiltinCall newId ⟨.type T::args,[]⟩=pure ())
 (entryN:entryFor table newId=some Bn) (g:Meets (Bn ⟨.type T::args,[]⟩) S) (hsub':isSubtype (.type T') (.type T)=pure false)
 (h:S A.in1 (wants Q₁ E) s) (hnext:∀obj s₁,Q₁ obj s₁->s₁.TypeIs obj T'/\Q obj s₁) :
 wpAny (model prog w) A (call (.type T) args) Q E s:=by
 obtain⟨c,tl,hmro⟩:=ft.mro;have hmade:=ft.made
 have hsub:=ft.sub
 refine wcn (codeAny_of_tree ?_);show wpAny _ _ (callAny (.type T) _) _ _ _
 refine wag ⟨wbX _ (by decide +kernel),wct F.entry_type_call ?_⟩;rw[Around.under_plain (weight_type_call_type T args []) (units_type_call_type T args [])];have h1:=ft.notType
 have h2:=ft.canCreate
 repeat (any_goals (first | assumption | wp_step))
 refine wcf (wbM ft.plain entryN (wcd hcn (g prog w A.in1 _ s h))) fun r s₁ hr=>?_
 cases r with
 | error e=>exact hr
 | ok fl=>
   cases fl with
   | ret obj=>
     obtain⟨hT,hq⟩:=hnext _ _ hr;repeat (any_goals (first | assumption | wp_step))
   | _=>exact hr.elim
end
theorem ziy (r:Addr)(lo hi:Int)(t u v:Tok)(hs:(Builtin.Range.rangeFitsLong lo&&Builtin.Range.rangeFitsLong hi&&Builtin.Range.rangeFitsLong 1&&Builtin.Range.rangeFitsLong (-1)&&Builtin.Range.rangeFitsLong (lo - 1)&&Builtin.Range.rangeFitsLong (Builtin.Range.rangeSize lo hi 1))=true) :
 Meets (Builtin.«range.__reversed__» ⟨[.ref r],[]⟩) (fun _ R s=>s.heap.get? r=some {cls:=.type "range",data:=.fields #[.int lo t,.int hi u,.int 1 v]}/\
  R (.ok (.ret (.ref s.heap.objs.size))) {s with heap:=s.heap.push {cls:=.type "range_iterator",data:=.fields #[rawInt (lo+(Builtin.Range.rangeSize lo hi 1 - 1)*1),rawInt (Builtin.Range.rangeSize lo hi 1),rawInt (-1)]}}):=
 .of_wp fun prog w A R s h=>by
  obtain⟨hp,g,d,tk,os⟩:=s;obtain⟨hl,h⟩:=h;wp_walk using wbc hl
  rw[hs,if_pos rfl];exact⟨_,rfl,h⟩
theorem meets_new_range (r:Addr)(lo hi:Int)(t u v:Tok)(hs:(Builtin.Range.rangeFitsLong lo&&Builtin.Range.rangeFitsLong hi&&Builtin.Range.rangeFitsLong 1&&Builtin.Range.rangeFitsLong (-1)&&Builtin.Range.rangeFitsLong (lo - 1)&&Builtin.Range.rangeFitsLong (Builtin.Range.rangeSize lo hi 1))=true) :
 Meets (Builtin.«reversed.__new__» ⟨[.type "reversed",.ref r],[]⟩) (fun _ R s=>s.heap.get? r=some {cls:=.type "range",data:=.fields #[.int lo t,.int hi u,.int 1 v]}/\
  R (.ok (.ret (.ref s.heap.objs.size))) {s with heap:=s.heap.push {cls:=.type "range_iterator",data:=.fields #[rawInt (lo+(Builtin.Range.rangeSize lo hi 1 - 1)*1),rawInt (Builtin.Range.rangeSize lo hi 1),rawInt (-1)]}}):=
 .of_wp fun prog w A R s h=>by
  obtain⟨hp,g,d,tk,os⟩:=s;obtain⟨hl,h⟩:=h;have hsub:=called_reversed.sub
  have hT:Shared.TypeIs ⟨hp,g,d,tk,os⟩ (.ref r) "range":=⟨_,hl,rfl⟩
  wp_walk using wbc hl
  rw[F.slot_range_reversed.lookup];refine wag ?_;show wpAny _ _ (bindSpecial (.builtin "range.__reversed__") (Value.ref r) >>= _) _ _ _
  rw[F.slot_range_reversed.bind];refine waa (wag ?_);refine waa (wpAny_rule ?_);refine waa (m:=call (.builtin "range.__reversed__") [Value.ref r]) (call_meets F.slot_range_reversed hT F.entry_range_reversed (F.args_range_reversed_1 _) (ziy r lo hi t u v hs) ⟨hl,?_⟩);exact wag ⟨_,rfl,h⟩
end Rv
namespace L2
open PySem PySem.Spec PyProof PyProof.Rows
def Itd (hi:Int)(n:Nat):It:=⟨fun i _=>i<n,fun i H x H'=>H'=H/\x=.int (hi - i),fun i _=>n<=i⟩
theorem zhf {P:Program}{w:World}{K:W.Frag}{tg:Expr}(it:Addr)(lo:Int)(n:Nat):Turn P w K tg (Itd lo n) [it] it (fun i h=>IsRangeIter h it (lo+(i:Nat)*(-1)) ((n:Int) - (i:Nat)) (-1)) where
 mem:=by simp
 obj:=fun i h st b hb=>by
  have e:b=it:=by simpa using hb
  subst e;exact⟨_,st,fun v z=>by
   have z':Data.fields _=Data.cell v:=z
   cases z'⟩
 keep:=fun i h h' st k=>k it (by simp) _ st
 item:=by
  intro X hP hw hK hc i pins s σ H E I hf st hg;subst hP hw hK;obtain⟨f0,f1,f2,f3,f4,f5⟩:=hf it (by simp);have W:=Walks.range (prog:=X.prog) (w:=X.w) (I.ok.hd hc) it lo (-1) n
  refine W.item i s _ _ hg st fun v h' tk hv st' kk=>?_
  obtain⟨t,rfl⟩:=hv;have I1:Inv X pins σ H {s with heap:=h',toks:=tk}:=I.turned (fun b o hb e=>kk b o (by simpa using hb) e) f0 f1 f3 f4 f5
  refine⟨_,rfl,zgR (s:={s with heap:=h',toks:=tk}) (n:="range_iterator") st' rfl rfl (by decide) ⟨.int (lo - i),H,I1,⟨t,?_⟩,⟨rfl,rfl⟩,st',fun b hb=>(hf b hb).1⟩⟩;rw[Int.mul_neg,Int.mul_one] <;> rfl
 done:=by
  intro X hP hw hK hc i pins s σ H E I hf st hg;subst hP hw hK;obtain⟨f0,f1,f2,f3,f4,f5⟩:=hf it (by simp);exact wpAny_pyNext_range_end (I.ok.hd hc) st (by have:n<=i:=hg;omega) fun h' eb=>⟨rfl,I.turned (t':=s.toks) (fun b o hb e=>eb b o hb e) f0 f1 f3 f4 f5⟩
 self:=fun _ _ _ _ _ st h=>wbZ st h
section
variable {X:Cx}{tg:Expr}
theorem zdr {prog:Program}{w:World}{A:Around}{E:Value->Shared->Prop}{s:Shared}{r:Addr}{lo hi:Int}{t u v:Tok}{Q:Value->Shared->Prop}(hr:s.heap.get? r=some {cls:=.type "range",data:=.fields #[.int lo t,.int hi u,.int 1 v]})
 (h1:-(2 ^ 62)<=lo) (h2:lo<2 ^ 62) (h3:-(2 ^ 62)<=hi) (h4:hi<2 ^ 62)
 (q:Q (.ref s.heap.objs.size) {s with heap:=s.heap.push {cls:=.type "range_iterator",data:=.fields #[rawInt (lo+(Builtin.Range.rangeSize lo hi 1 - 1)*1),rawInt (Builtin.Range.rangeSize lo hi 1),rawInt (-1)]}}) :
 wpAny (model prog w) A (call (.type "reversed") [.ref r]) Q E s:=by
 refine Rv.callType_else (T':="range_iterator") (Q₁:=fun v s1=>v=.ref s.heap.objs.size/\s1 = {s with heap:=s.heap.push {cls:=.type "range_iterator",data:=.fields #[rawInt (lo+(Builtin.Range.rangeSize lo hi 1 - 1)*1),rawInt (Builtin.Range.rangeSize lo hi 1),rawInt (-1)]}}) Rv.called_reversed (Rv.typeCall_reversed_1 _) (Rv.newCall_reversed_1 _) Rv.entry_reversed_new (Rv.meets_new_range r lo hi t u v ?_) Rv.sub_ri ⟨hr,rfl,rfl⟩ ?_
 ·have e2:Builtin.Range.rangeSize lo hi 1=(((hi - lo).toNat:Nat):Int):=by rw[rangeSize_one];split <;> omega
  rw[e2];have f:∀k:Int,-(2 ^ 63)<=k->k<2 ^ 63->Builtin.Range.rangeFitsLong k=true:=fun k a b=>by unfold Builtin.Range.rangeFitsLong;simp only[waA,decide_eq_true_eq];omega
  rw[f lo (by omega) (by omega),f hi (by omega) (by omega),f 1 (by decide) (by decide),f (-1) (by decide) (by decide),f (lo - 1) (by omega) (by omega),f _ (by omega) (by omega)];rfl
 ·rintro obj s1 ⟨rfl,rfl⟩;exact⟨⟨_,war _ rfl,rfl⟩,q⟩
def zn4 (ta:TA):TI:=fun σ H R=>ta σ H fun vs H1=>∃j:Int,vs = [.int j]/\0<=j/\j<2 ^ 62/\R (Itd (j - 1) j.toNat) H1
theorem zkI {a:Expr}{ta:TA}{p p2 pos pos2:Pos}(hg:Gl X "range")(hm:X.mg "range"=none)(hg2:Gl X "reversed")(hm2:X.mg "reversed"=none)(ha:PA X [a] ta)(hs:starEach [a] X.env = [(false,eval a X.env)]:=by rfl)
 (hs2:starEach [.Call (.Name "range" p) [a] [] pos] X.env = [(false,eval (.Call (.Name "range" p) [a] [] pos) X.env)]:=by rfl):PI X tg (.Call (.Name "reversed" p2) [.Call (.Name "range" p) [a] [] pos] [] pos2) (zn4 ta):=by
 intro pins s σ H R I h;refine waG (zb0 I hg2 hm2 boot_reversed ?_ (by decide) (by decide));refine waK ?_ hs2 rfl;rw[hs2];refine wbA ?_;refine Call_ (zb0 I hg hm boot_range (waK (thn (ha pos pins s σ H _ I h) fun us s1 ⟨vs,H1,I1,r1,q1⟩ =>?_) hs rfl));obtain⟨j,e,q1,q2,q⟩:=q1;subst e;cases r1 with
 | cons r rr=>
   cases rr;obtain⟨t,rfl⟩:=r;refine call_range_1 ?_;refine Calls.spliced_nil ?_;have I2:Inv X pins σ H1 {s1 with heap:=s1.heap.push {cls:=.type "range",data:=.fields #[.int 0 s1.toks,.int j t,.int 1 (s1.toks+1)]},toks:=s1.toks+1+1}:=I1.kept (t':=s1.toks+1+1) fun b o e=>wab _ e
   refine zdr (war _ rfl) (by decide) (by decide) (by omega) q2 ?_;have e2:Builtin.Range.rangeSize 0 j 1=((j.toNat:Nat):Int):=by rw[rangeSize_one];split <;> omega
   rw[e2];generalize hg9:s1.heap.push {cls:=.type "range",data:=.fields #[.int 0 s1.toks,.int j t,.int 1 (s1.toks+1)]}=g9 at I2
   ·rw[show(0:Int)+((j.toNat:Nat) - 1)*1=(j - 1)+((0:Nat):Int)*(-1) by omega,show((j.toNat:Nat):Int)=((j.toNat:Nat):Int) - ((0:Nat):Int) by omega];refine wbZ (it:=g9.objs.size) (war _ rfl) ?_;refine⟨g9.objs.size,[g9.objs.size],_,_,H1,rfl,I2.kept (t':=s1.toks+1+1) fun b o e=>wab _ e,zhf _ (j - 1) j.toNat,?_,fun b hb=>?_,q⟩
    ·exact war _ rfl
    ·have e:b=g9.objs.size:=by simpa using hb
     subst e;exact I2.fpOk (wam _) (I2.hok.fresh (wam _))
end
section
variable {X:Cx}
end
def clo (cells:List (Str×Addr)):List (Str×NameKind)->List (Str×Addr)->List (Str×Addr)
 | [],acc=>acc
 | (n,k)::r,acc=>clo cells r (if(k == NameKind.free)=true then(n,(cells.lookup n).getD 0)::acc else acc)
theorem zhg {env:Env}:∀(names:List (Str×NameKind)) (acc:List (Str×Addr)),(∀y∈names,y.2=.free->∃c,env.cells.lookup y.1=some c)->
 (forIn names acc fun(x:Str×NameKind) (cs:List (Str×Addr))=>match x with | (name,kind)=>if(kind == NameKind.free)=true then(do let c <-cellOf env name;pure (ForInStep.yield ((name,c)::cs))) else(pure (ForInStep.yield cs):Sem _))=pure (clo env.cells names acc)
 | [],acc,_=>rfl
 | (n,k)::r,acc,h=>by
   rw[List.forIn_cons];have ih:=zhg (env:=env) r
   by_cases hk:(k == NameKind.free)=true
   ·obtain⟨c,hc⟩:=h (n,k) (waj ..) (by cases k <;> first | rfl | cases hk);have e1:cellOf env n=pure c:=by unfold cellOf;rw[hc]
    show(if(k == NameKind.free)=true then _ else _) >>= _=_
    rw[if_pos hk,e1];show(forIn r ((n,c)::acc) _:Sem _)=pure (clo env.cells r (if(k == NameKind.free)=true then _ else _))
    rw[if_pos hk,hc];exact ih _ fun y hy=>h y (waf _ hy)
   ·show(if(k == NameKind.free)=true then _ else _) >>= _=_
    rw[if_neg hk];show(forIn r acc _:Sem _)=pure (clo env.cells r (if(k == NameKind.free)=true then _ else _))
    rw[if_neg hk];exact ih _ fun y hy=>h y (waf _ hy)
theorem zhh {env:Env}{scope:Scope}(h:∀y∈scope.names,y.2=.free->∃c,env.cells.lookup y.1=some c):closureFor scope env=pure (clo env.cells scope.names []):=by
 have e:=zhg (env:=env) scope.names [] h
 unfold closureFor;show(forIn scope.names ([]:List (Str×Addr)) _ >>= fun cs=>pure cs)=_
 have e2:(forIn scope.names ([]:List (Str×Addr)) (fun(x:Str×NameKind) (cs:List (Str×Addr))=>match x with | (name,kind)=>if(kind == NameKind.free)=true then(do let c <-cellOf env name;pure (ForInStep.yield ((name,c)::cs))) else(pure (ForInStep.yield cs):Sem _)) >>= fun cs=>pure cs)=pure (clo env.cells scope.names []):=by
  rw[e];rfl
 exact e2
theorem zdV (cells:List (Str×Addr)):∀(names:List (Str×NameKind)) (acc:List (Str×Addr)),(∀x c,acc.lookup x=some c->cells.lookup x=some c)->(∀y∈names,y.2=.free->∃c,cells.lookup y.1=some c)->
 ∀x c,(clo cells names acc).lookup x=some c->cells.lookup x=some c
 | [],acc,h,_,x,c,e=>h x c e
 | (n,k)::r,acc,h,hf,x,c,e=>by
   refine zdV cells r _ (fun y d e'=>?_) (fun y hy=>hf y (waf _ hy)) x c e;by_cases hk:(k == NameKind.free)=true
   ·rw[if_pos hk,waO] at e';obtain⟨c',hc⟩:=hf (n,k) (waj ..) (by cases k <;> first | rfl | cases hk);cases hy:y == n with
    | true=>
      rw[hy] at e';have:y=n:=by simpa using hy
      rw[this,hc];rw[hc] at e';exact e'
    | false=>rw[hy] at e';exact h y d e'
   ·rw[if_neg hk] at e';exact h y d e'
theorem zdW (cells:List (Str×Addr)):∀(names:List (Str×NameKind)) (acc:List (Str×Addr)) (x:Str),((∃c,acc.lookup x=some c)\/(x,NameKind.free)∈names)->∃c,(clo cells names acc).lookup x=some c
 | [],acc,x,h=>by
   rcases h with h | h
   ·exact h
   ·cases h
 | (n,k)::r,acc,x,h=>by
   refine zdW cells r _ x ?_;rcases h with⟨c,h⟩ | h
   ·left
    by_cases hk:(k == NameKind.free)=true
    ·rw[if_pos hk,waO];cases hy:x == n with
     | true=>exact⟨_,rfl⟩
     | false=>exact⟨c,h⟩
    ·rw[if_neg hk];exact⟨c,h⟩
   ·rcases wai.mp h with h | h
    ·left
     cases h;rw[if_pos (by rfl),waO,beq_self_eq_true];exact⟨_,rfl⟩
    ·exact .inr h
theorem zbj {κ β:Type}[BEq κ][LawfulBEq κ]:∀{l:List (κ×β)}{x:κ}{k:β},l.lookup x=some k->(x,k)∈l
 | [],x,k,h=>by cases h
 | (n,k')::r,x,k,h=>by
   rw[waO] at h;cases hx:x == n with
   | true=>
     rw[hx] at h;cases h;have:x=n:=by simpa using hx
     rw[this];exact waj ..
   | false=>rw[hx] at h;exact waf _ (zbj h)
theorem za4 {env:Env}:∀(l:List (Str×NameKind)),(∀y∈l,y.2≠.cell)->∀x k,(l.map fun(n,k)=>if(k == NameKind.free&&env.scope.kind == .function&&env.kindOf n == some .cell) then(n,NameKind.cell) else(n,k)).lookup x=some k->(k=.cell\/k=.free)->l.lookup x=some .free
 | [],_,x,k,e,_=>by cases e
 | (n,k0)::r,h,x,k,e,hk=>by
   rw[wbf] at e;have h0:k0≠.cell:=h _ (waj ..)
   rw[waO];cases hx:x == n with
   | true=>
     cases k0 with
     | free=>rfl
     | cell=>exact absurd rfl h0
     | _=>
       exfalso
       obtain rfl:x=n:=by simpa using hx
       rw[waO] at e;rcases hk with rfl | rfl <;> (revert e;simp)
   | false=>
     refine za4 (env:=env) r (fun y hy=>h y (waf _ hy)) x k ?_ hk;rw[waO] at e;have:(x == (if(k0 == NameKind.free&&env.scope.kind == .function&&env.kindOf n == some .cell)=true then(n,NameKind.cell) else(n,k0)).1)=false:=by split <;> exact hx
     rw[this] at e;exact e
theorem zbF {env:Env}(hf:env.scope.kind=.function):∀(l:List (Str×NameKind)) (x:Str),l.lookup x=some .free->env.kindOf x=some .cell->(l.map fun(n,k)=>if(k == NameKind.free&&env.scope.kind == .function&&env.kindOf n == some .cell) then(n,NameKind.cell) else(n,k)).lookup x=some .cell
 | [],x,e,_=>by cases e
 | (n,k0)::r,x,e,hk=>by
   rw[wbf];rw[waO] at e⊢;cases hx:x == n with
   | true=>
     rw[hx] at e;cases e;have hn:x=n:=by simpa using hx
     have hk':(env.kindOf n == some NameKind.cell)=true:=by rw[<-hn,hk];rfl
     have hcond:(NameKind.free == NameKind.free&&env.scope.kind == .function&&env.kindOf n == some .cell)=true:=by
      rw[hf,hk'];rfl
     simp only[hcond,if_true,hx]
   | false=>
     rw[hx] at e;have:(x == (if(k0 == NameKind.free&&env.scope.kind == .function&&env.kindOf n == some .cell)=true then(n,NameKind.cell) else(n,k0)).1)=false:=by split <;> exact hx
     simp only[this];exact zbF hf r x e hk
def zcg (N:List Str)(sc:List (Str×NameKind))(names:List (Str×NameKind))(NC:List Str)(fr:List (Option Nat)):Bool:=
 (NC.zip fr).all fun p=>match p.2 with | none=>true | some j=>(N[j]? == some p.1)&&(sc.lookup p.1 == some .cell)&&(names.lookup p.1 == some .free)
theorem zhi (N:List Str)(st:Stmt){X:Cx}{elt iter tg:Expr}{ifs:List Expr}{scope:Scope}{pos:Pos}{NC:List Str}(fr:List (Option Nat)){wi:TI}{g:TG}{tt:TT}{te:TE}{RR:Hp->Prop}(hRR:∀pins σ H s,Inv X pins σ H s->RR H)(hcalm:X.calm=true)(hi:PI X tg iter wi)
 (hcells:∀x,X.env.scope.names.lookup x=some .cell->∃c,X.env.cells.lookup x=some c) (hfk:X.env.scope.kind=.function) (hN:X.N=N) (hsc:X.env.scope.names=(zab st).names)
 (hfree':∀y∈scope.names,y.2=.free->(zab st).names.lookup y.1=some .cell) (hcell:∀y∈scope.names,y.2≠.cell) (hkind:scope.kind=.function) (hnames:∀y∈scope.names,y.2=.local->scope.names.lookup y.1=some .local)
 (hfr':zcg N (zab st).names scope.names NC fr=true) (hlen:fr.length=NC.length)
 (hg:∀cl C s0 H0 ex pn,PG (cxC X scope cl NC C s0 H0 ex pn) tg g) (ht:∀cl C s0 H0 ex pn,PTs (cxC X scope cl NC C s0 H0 ex pn) ifs tt) (he:∀cl C s0 H0 ex pn,RR H0->PE (cxC X scope cl NC C s0 H0 ex pn) elt te)
 (hs:∀x,foldedSetIterable iter X.env x=pure x:=by intro _;rfl):PE X (.ListComp elt [⟨tg,iter,ifs,0⟩] scope pos) (zfo fr wi g tt te):=by
 have hfree:∀y∈scope.names,y.2=.free->X.env.scope.names.lookup y.1=some .cell:=by rw[hsc];exact hfree'
 have hfr:zcg X.N X.env.scope.names scope.names NC fr=true:=by rw[hsc,hN];exact hfr'
 have hc:∀y∈scope.names,y.2=.free->∃c,X.env.cells.lookup y.1=some c:=fun y hy h=>hcells _ (hfree y hy h)
 refine zix (cl:=clo X.env.cells scope.names []) hRR hcalm hi (zhh hc) hcell hkind hnames (fun x c e=>zdV _ _ _ (fun _ _ z=>by cases z) hc x c e) (fun x hx=>?_) (fun i x j h1 h2=>?_) hlen (hg _) (ht _) (he _) hs
 ·refine zdW _ _ _ x (.inr (zbj ?_));rcases hx with e | e
  ·exact za4 scope.names hcell x _ e (.inl rfl)
  ·exact za4 scope.names hcell x _ e (.inr rfl)
 ·have hm:(x,some j)∈NC.zip fr:=by
   have hi1:=(wal.mp h1).1
   have:(NC.zip fr)[i]?=some (x,some j):=by rw[wbP];exact⟨h1,h2⟩
   exact waJ this
  have q:=waC.mp hfr _ hm
  have q':((X.N[j]? == some x)&&(X.env.scope.names.lookup x == some .cell)&&(scope.names.lookup x == some .free))=true:=q
  simp only[waA,beq_iff_eq] at q';obtain⟨⟨q1,q2⟩,q3⟩:=q';refine⟨q1,.inr (.inl q2),?_,.inl (zbF hfk scope.names x q3 q2)⟩;intro z;have z':X.env.scope.names.lookup x=some .local:=z
  rw[q2] at z';cases z'
section
variable {X:Cx}{scope:Scope}{cl:List (Str×Addr)}{NC:List Str}{C:Addr}{s0:Shared}{H0:Hp}{ex:List Addr}{pn:List (Addr×Obj)}
end
theorem zfS (N:List Str)(st:Stmt){X:Cx}{i:Nat}{x:Str}{elt iter tg:Expr}{ifs:List Expr}{scope:Scope}{pos pos' cp:Pos}{NC:List Str}(fr:List (Option Nat)){wi:TI}{g:TG}{tt:TT}{te:TE}(hND:X.N.Nodup)(hix:X.N[i]?=some x)(hx:Loc X.env.scope x)
 {RR:Hp->Prop}(hRR:∀pins σ H s,Inv X pins σ H s->RR H) (hcalm:X.calm=true) (hi:PI X tg iter wi)
 (hcells:∀x,X.env.scope.names.lookup x=some .cell->∃c,X.env.cells.lookup x=some c) (hfk:X.env.scope.kind=.function) (hN:X.N=N) (hsc:X.env.scope.names=(zab st).names)
 (hfree':∀y∈scope.names,y.2=.free->(zab st).names.lookup y.1=some .cell) (hcell:∀y∈scope.names,y.2≠.cell) (hkind:scope.kind=.function) (hnames:∀y∈scope.names,y.2=.local->scope.names.lookup y.1=some .local)
 (hfr':zcg N (zab st).names scope.names NC fr=true) (hlen:fr.length=NC.length)
 (hg:∀cl C s0 H0 ex pn,PG (cxC X scope cl NC C s0 H0 ex pn) tg g) (ht:∀cl C s0 H0 ex pn,PTs (cxC X scope cl NC C s0 H0 ex pn) ifs tt) (he:∀cl C s0 H0 ex pn,RR H0->PE (cxC X scope cl NC C s0 H0 ex pn) elt te)
 (hs:∀x,foldedSetIterable iter X.env x=pure x:=by intro _;rfl) (hsw:swapsWith (.ListComp elt [⟨tg,iter,ifs,0⟩] scope cp) (some (.Name x pos')) pos.line X.env=pure true:=by rfl)
 (hf:X.fn x=true\/X.env.scope.names.lookup x=some .local:=by first | exact .inl rfl | exact .inr rfl | assumption) :
 PS X (.Assign [.Name x pos'] (.ListComp elt [⟨tg,iter,ifs,0⟩] scope cp) pos) (tAsg (zfo fr wi g tt te) (zdq i)):=by
 intro pins s σ H D I h;rw[exec_Assign_Name_used _ _ _ _ hsw];refine waa (wbu ?_);rw[arm_evalThenUse_ListComp];have hfree:∀y∈scope.names,y.2=.free->X.env.scope.names.lookup y.1=some .cell:=by rw[hsc];exact hfree'
 have hfr:zcg X.N X.env.scope.names scope.names NC fr=true:=by rw[hsc,hN];exact hfr'
 have hc:∀y∈scope.names,y.2=.free->∃c,X.env.cells.lookup y.1=some c:=fun y hy h=>hcells _ (hfree y hy h)
 refine waa (waa (zfP (cl:=clo X.env.cells scope.names []) (Q:=fun x H1=>zdq i x σ H1 D.nx) (R:=fun _ s'=>wpAny (model X.prog X.w) X.A (pure ()) (fun _ s₁=>wpAny (model X.prog X.w) X.A (pure Flow.next) (SP X pins D) X.xe s₁) X.xe s') hRR hcalm hi (zhh hc) hcell hkind hnames (fun x c e=>zdV _ _ _ (fun _ _ z=>by cases z) hc x c e) (fun x hx=>?_) (fun i x j h1 h2=>?_) hlen (hg _) (ht _) (he _) hs I h ?_))
 ·refine zdW _ _ _ x (.inr (zbj ?_));rcases hx with e | e
  ·exact za4 scope.names hcell x _ e (.inl rfl)
  ·exact za4 scope.names hcell x _ e (.inr rfl)
 ·have hm:(x,some j)∈NC.zip fr:=by
   have:(NC.zip fr)[i]?=some (x,some j):=by rw[wbP];exact⟨h1,h2⟩
   exact waJ this
  have q:=waC.mp hfr _ hm
  have q':((X.N[j]? == some x)&&(X.env.scope.names.lookup x == some .cell)&&(scope.names.lookup x == some .free))=true:=q
  simp only[waA,beq_iff_eq] at q';obtain⟨⟨q1,q2⟩,q3⟩:=q';refine⟨q1,.inr (.inl q2),?_,.inl (zbF hfk scope.names x q3 q2)⟩;intro z;have z':X.env.scope.names.lookup x=some .local:=z
  rw[q2] at z';cases z'
 ·intro C Da H' s' m I' hns hfp q;show wpAny _ _ (assign (.Name x pos') X.env (.ref Da)) _ _ _
  refine wpAny_assign_Name (zet I' hND hix hx (show RelV (.ref Da) (.ref Da) from rfl) (fun s2 I2 hsb=>?_) hf);obtain⟨f0,f1,f2,f3,f4,f5⟩:=hfp;obtain⟨a,hsb,ha⟩:=hsb;have hCa:C≠a:=by
   rcases ha with rfl | ha
   ·exact f1
   ·exact fun z=>f4 x a ha z.symm
  obtain⟨o,es,ep,ho,r⟩:=hns;refine⟨m,⟨o,es,ep,hsb.extBut C o hCa ho,r⟩,fun h' hs'=>?_⟩;refine wag (wag ⟨_,H',?_,q⟩);exact I2.turned (t':=s2.toks) (fun b o hb e=>hs'.extBut b o hb e) f0 f1 f3 f4 f5
theorem zkJ (N:List Str)(st:Stmt){X:Cx}{i:Nat}{x:Str}{elt iter tg:Expr}{ifs:List Expr}{scope:Scope}{pos pos' cp:Pos}{NC:List Str}(fr:List (Option Nat)){wi:TI}{g:TG}{tt:TT}{te:TE}(hND:X.N.Nodup)(hix:X.N[i]?=some x)(hx:Loc X.env.scope x)
 (hcalm:X.calm=true) (hi:PI X tg iter wi)
 (hcells:∀x,X.env.scope.names.lookup x=some .cell->∃c,X.env.cells.lookup x=some c) (hfk:X.env.scope.kind=.function) (hN:X.N=N) (hsc:X.env.scope.names=(zab st).names)
 (hfree':∀y∈scope.names,y.2=.free->(zab st).names.lookup y.1=some .cell) (hcell:∀y∈scope.names,y.2≠.cell) (hkind:scope.kind=.function) (hnames:∀y∈scope.names,y.2=.local->scope.names.lookup y.1=some .local)
 (hfr':zcg N (zab st).names scope.names NC fr=true) (hlen:fr.length=NC.length)
 (hg:∀cl C s0 H0 ex pn,PG (cxC X scope cl NC C s0 H0 ex pn) tg g) (ht:∀cl C s0 H0 ex pn,PTs (cxC X scope cl NC C s0 H0 ex pn) ifs tt) (he:∀cl C s0 H0 ex pn,PE (cxC X scope cl NC C s0 H0 ex pn) elt te)
 (hs:∀x,foldedSetIterable iter X.env x=pure x:=by intro _;rfl) (hsw:swapsWith (.ListComp elt [⟨tg,iter,ifs,0⟩] scope cp) (some (.Name x pos')) pos.line X.env=pure true:=by rfl)
 (hf:X.fn x=true\/X.env.scope.names.lookup x=some .local:=by first | exact .inl rfl | exact .inr rfl | assumption) :
 PS X (.Assign [.Name x pos'] (.ListComp elt [⟨tg,iter,ifs,0⟩] scope cp) pos) (tAsg (zfo fr wi g tt te) (zdq i)):=
 zfS (RR:=fun _=>True) N st fr hND hix hx (fun _ _ _ _ _=>trivial) hcalm hi hcells hfk hN hsc hfree' hcell hkind hnames hfr' hlen hg ht (fun cl C s0 H0 ex pn _=>he cl C s0 H0 ex pn) hs hsw hf
end L2
namespace Mn
open PySem PySem.Spec PyProof PyProof.Rows
open Sem (wp)
section
variable {prog:Program}{w:World}{A:Around}{R:Result->Shared->Prop}{I:Addr}{fp wr:List Addr}{n:Nat}{P:Nat->Value->Prop}{St:Nat->Heap->Prop}
end
section
variable {prog:Program}{w:World}{A:Around}{E:Value->Shared->Prop}{s:Shared}
end
section
open PySem.SeqAt
open PySem.AutoSeq1 (wpAny_loadPart')
open PySem.MeetsSeq PySem.MeetsSeq2 PySem.MeetsSeq3
end
end Mn
namespace L2
open PySem PySem.Spec PyProof PyProof.Rows
section
variable {X:Cx}
end
end L2
namespace VD
open PySem PySem.Spec PyProof PyProof.Rows L2
inductive D where
 | non | bl (b:Bool) | int (i:Int) | str (x:Str) | tup (ds:List D) | lst (ds:List D) | dct (ks:List Key) (ds:List D) | scr (p:Addr) | exc (c:Str) (ns:List Str) (ds:List D)
mutual
def D.beq:D->D->Bool
 | .non,.non=>true
 | .bl a,.bl b=>a == b
 | .int a,.int b=>a == b
 | .str a,.str b=>a == b
 | .tup a,.tup b=>D.beqL a b
 | .lst a,.lst b=>D.beqL a b
 | .dct ks a,.dct ls b=>decide (ks=ls)&&D.beqL a b
 | .scr a,.scr b=>a == b
 | .exc c ns a,.exc c' ms b=>c == c'&&decide (ns=ms)&&D.beqL a b
 | _,_=>false
def D.beqL:List D->List D->Bool
 | [],[]=>true
 | a::as,b::bs=>D.beq a b&&D.beqL as bs
 | _,_=>false
end
mutual
theorem D.beq_iff:∀(a b:D),D.beq a b=true↔a=b
 | .non,b=>by cases b <;> simp[D.beq]
 | .bl _,b=>by cases b <;> simp[D.beq]
 | .int _,b=>by cases b <;> simp[D.beq]
 | .str _,b=>by cases b <;> simp[D.beq]
 | .tup xs,b=>by cases b <;> simp[D.beq,D.beqL_iff xs]
 | .lst xs,b=>by cases b <;> simp[D.beq,D.beqL_iff xs]
 | .dct ks xs,b=>by cases b <;> simp[D.beq,D.beqL_iff xs]
 | .scr _,b=>by cases b <;> simp[D.beq]
 | .exc c ns xs,b=>by cases b <;> simp[D.beq,D.beqL_iff xs,and_assoc]
theorem D.beqL_iff:∀(a b:List D),D.beqL a b=true↔a=b
 | [],b=>by cases b <;> simp[D.beqL]
 | x::xs,b=>by
   cases b with
   | nil=>simp[D.beqL]
   | cons y ys=>simp[D.beqL,D.beq_iff x y,D.beqL_iff xs ys]
end
instance:DecidableEq D:=fun a b=>decidable_of_iff _ (D.beq_iff a b)
instance:Inhabited D:=⟨.non⟩
def Exh (K:W.Frag)(H:Hp)(J:Addr->Prop)(a:Addr)(c:Str)(ns:List Str)(vs:List V):Prop:=
 J a/\∃oa C,W.nsIn K mainGlobals c=some (some (.ref C))/\H a=some (.frz oa (.ext fun _=>True))/\oa.cls=.ref C/\PySem.W.notCls oa=true/\
   ((ns = []/\vs = []/\oa.dict=none)\/∃d od,oa.dict=some d/\J d/\H d=some (.frz od (.xd (ns.zip vs)))/\ns.length=vs.length)
mutual
inductive Rp (K:W.Frag)(H:Hp)(J:Addr->Prop):V->D->Prop
 | non:Rp K H J .non .non
 | bl (b:Bool):Rp K H J (.bl b) (.bl b)
 | int (i:Int):Rp K H J (.int i) (.int i)
 | str (x:Str):Rp K H J (.str x) (.str x)
 | scr (p:Addr):Rp K H J (.ref p) (.scr p)
 | tup {p:Addr}{vs:List V}{ds:List D}(h:SqT K H p vs) (r:RpL K H J vs ds):Rp K H J (.ref p) (.tup ds)
 | lst {p:Addr}{vs:List V}{ds:List D}(h:H p=some (.lst vs)) (j:J p) (r:RpL K H J vs ds):Rp K H J (.ref p) (.lst ds)
 | dct {p:Addr}{kvs:List (Key×V)}{vs:List V}{ks:List Key}{ds:List D}(h:H p=some (.dK kvs)) (j:J p) (ek:kvs.map (·.1)=ks) (ev:kvs.map (·.2)=vs) (r:RpL K H J vs ds):Rp K H J (.ref p) (.dct ks ds)
 | exc {p:Addr}{c:Str}{ns:List Str}{vs:List V}{ds:List D}(h:Exh K H J p c ns vs) (r:RpL K H J vs ds):Rp K H J (.ref p) (.exc c ns ds)
inductive RpL (K:W.Frag)(H:Hp)(J:Addr->Prop):List V->List D->Prop
 | nil:RpL K H J [] []
 | cons {v:V}{d:D}{vs:List V}{ds:List D}(h:Rp K H J v d) (t:RpL K H J vs ds):RpL K H J (v::vs) (d::ds)
end
structure Keep (K:W.Frag)(H:Hp)(J:Addr->Prop)(H':Hp)(J':Addr->Prop):Prop where
 jj:∀a,J a->J' a
 jo:∀p o,J p->H p=some o->H' p=some o
 tp:∀p vs,SqT K H p vs->SqT K H' p vs
section
variable {K:W.Frag}{H H' H1 H2 Hz:Hp}{J J' J1 J2 Jz:Addr->Prop}
theorem Keep.refl:Keep K H J H J:=⟨fun _ h=>h,fun _ _ _ h=>h,fun _ _ h=>h⟩
theorem Keep.trans (a:Keep K H J H1 J1)(b:Keep K H1 J1 H2 J2):Keep K H J H2 J2:=⟨fun p h=>b.jj p (a.jj p h),fun p o j h=>b.jo p o (a.jj p j) (a.jo p o j h),fun p vs h=>b.tp p vs (a.tp p vs h)⟩
theorem Exh.keep {a:Addr}{c:Str}{ns:List Str}{vs:List V}(k:Keep K H J H' J')(h:Exh K H J a c ns vs):Exh K H' J' a c ns vs:=by
 obtain⟨j,oa,C,h1,h2,h3,h4,h5⟩:=h;refine⟨k.jj _ j,oa,C,h1,k.jo _ _ j h2,h3,h4,h5.imp (fun h=>h) fun⟨d,od,h6,h7,h8,h9⟩ =>⟨d,od,h6,k.jj _ h7,k.jo _ _ h7 h8,h9⟩⟩
mutual
theorem Rp.keep {v:V}{d:D}(k:Keep K H J H' J'):Rp K H J v d->Rp K H' J' v d
 | .non=>.non
 | .bl b=>.bl b
 | .int i=>.int i
 | .str x=>.str x
 | .scr p=>.scr p
 | .tup h r=>.tup (k.tp _ _ h) (RpL.keep k r)
 | .lst h j r=>.lst (k.jo _ _ j h) (k.jj _ j) (RpL.keep k r)
 | .dct h j ek ev r=>.dct (k.jo _ _ j h) (k.jj _ j) ek ev (RpL.keep k r)
 | .exc h r=>.exc (h.keep k) (RpL.keep k r)
theorem RpL.keep {vs:List V}{ds:List D}(k:Keep K H J H' J'):RpL K H J vs ds->RpL K H' J' vs ds
 | .nil=>.nil
 | .cons h t=>.cons (Rp.keep k h) (RpL.keep k t)
end
theorem ziz (h:Same H H')(p:Addr)(vs:List V):SqT K H p vs->SqT K H' p vs:=by
 rintro((h1 | ⟨o,h1⟩) | h1)
 ·exact .inl (.inl (h _ _ h1))
 ·exact .inl (.inr ⟨o,h _ _ h1⟩)
 ·exact .inr h1
structure Up (H:Hp)(J:Addr->Prop)(H':Hp)(J':Addr->Prop):Prop where
 same:Same H H'
 jj:∀a,J a->J' a
 jn:∀a,J' a->J a\/H a=none
 ja:∀a,J' a->H' a≠none
theorem Up.keep (u:Up H J H' J'):Keep K H J H' J':=⟨u.jj,fun p o _ h=>u.same p o h,ziz u.same⟩
theorem Up.refl (ja:∀a,J a->H a≠none):Up H J H J:=⟨Same.refl H,fun _ h=>h,fun _ h=>.inl h,ja⟩
theorem Up.trans (a:Up H J H1 J1)(b:Up H1 J1 H2 J2):Up H J H2 J2:=⟨a.same.trans b.same,fun p h=>b.jj p (a.jj p h),fun p h=>by
 rcases b.jn p h with h | h
 ·exact a.jn p h
 ·exact .inr (a.same.free h),b.ja⟩
theorem Up.new {p:Addr}(ja:∀a,J a->H a≠none)(hp:H p=none)(o:HO):Up H J (upd H p o) J:=
 ⟨zdU hp o,fun _ h=>h,fun _ h=>.inl h,fun a h=>by
  by_cases e:a=p
  ·subst e;rw[zaf];simp
  ·rw[zae e];exact ja a h⟩
theorem Up.newJ {p:Addr}(ja:∀a,J a->H a≠none)(hp:H p=none)(o:HO):Up H J (upd H p o) (fun a=>J a\/a=p):=
 ⟨zdU hp o,fun _ h=>.inl h,fun a h=>by rcases h with h | h;exact .inl h;subst h;exact .inr hp,fun a h=>by
  by_cases e:a=p
  ·subst e;rw[zaf];simp
  ·rw[zae e];rcases h with h | h;exact ja a h;exact absurd h e⟩
theorem RpL.length:∀{vs:List V}{ds:List D},RpL K H J vs ds->vs.length=ds.length
 | _,_,.nil=>rfl
 | _,_,.cons _ t=>by simp[RpL.length t]
theorem RpL.get:∀{vs:List V}{ds:List D}{i:Nat}{d:D},RpL K H J vs ds->ds[i]?=some d->∃v,vs[i]?=some v/\Rp K H J v d
 | _,_,_,_,.nil,e=>by simp at e
 | _,_,0,_,.cons h _,e=>by simp at e;subst e;exact⟨_,rfl,h⟩
 | _,_,i+1,d,.cons _ t,e=>by
   obtain⟨v,h1,h2⟩:=RpL.get (i:=i) (d:=d) t (by simpa using e);exact⟨v,by simpa using h1,h2⟩
theorem RpL.append:∀{vs us:List V}{ds es:List D},RpL K H J vs ds->RpL K H J us es->RpL K H J (vs++us) (ds++es)
 | _,_,_,_,.nil,s=>s
 | _,_,_,_,.cons h t,s=>.cons h (RpL.append t s)
theorem RpL.take:∀{vs:List V}{ds:List D}(n:Nat),RpL K H J vs ds->RpL K H J (vs.take n) (ds.take n)
 | _,_,0,_=>.nil
 | _,_,_+1,.nil=>.nil
 | _,_,n+1,.cons h t=>.cons h (RpL.take n t)
theorem RpL.drop:∀{vs:List V}{ds:List D}(n:Nat),RpL K H J vs ds->RpL K H J (vs.drop n) (ds.drop n)
 | _,_,0,h=>h
 | _,_,_+1,.nil=>.nil
 | _,_,n+1,.cons _ t=>RpL.drop n t
theorem RpL.reverse:∀{vs:List V}{ds:List D},RpL K H J vs ds->RpL K H J vs.reverse ds.reverse
 | _,_,.nil=>.nil
 | _,_,.cons h t=>by
   rw[wbH,wbH];exact(RpL.reverse t).append (.cons h .nil)
theorem RpL.set:∀{vs:List V}{ds:List D}(i:Nat) {v:V}{d:D},RpL K H J vs ds->Rp K H J v d->RpL K H J (vs.set i v) (ds.set i d)
 | _,_,_,_,_,.nil,_=>.nil
 | _,_,0,_,_,.cons _ t,h=>.cons h t
 | _,_,i+1,_,_,.cons q t,h=>.cons q (RpL.set i t h)
theorem RpL.at {vs:List V}{ds:List D}{i:Int}{d:D}(r:RpL K H J vs ds)(h:atI ds i=some d):∃v,atI vs i=some v/\Rp K H J v d:=by
 unfold atI at h⊢;rw[r.length];cases e:ixN ds.length i with
 | none=>rw[e] at h;cases h
 | some j=>rw[e] at h;exact r.get h
end
mutual
inductive RpU (K:W.Frag)(H:Hp)(J:Addr->Prop):Nat->V->D->List Addr->Prop
 | frz {v:V}{d:D}(h:Rp K H J v d):RpU K H J 0 v d []
 | lst {n:Nat}{a:Addr}{vs:List V}{ds:List D}{A:List Addr}(h:H a=some (.lst vs)) (r:RpUL K H J n vs ds A):RpU K H J (n+1) (.ref a) (.lst ds) (a::A)
 | dct {n:Nat}{a:Addr}{kvs:List (Key×V)}{vs:List V}{ks:List Key}{ds:List D}{A:List Addr}(h:H a=some (.dK kvs)) (ek:kvs.map (·.1)=ks) (ev:kvs.map (·.2)=vs) (r:RpUL K H J n vs ds A):RpU K H J (n+1) (.ref a) (.dct ks ds) (a::A)
inductive RpUL (K:W.Frag)(H:Hp)(J:Addr->Prop):Nat->List V->List D->List Addr->Prop
 | nil {n:Nat}:RpUL K H J n [] [] []
 | cons {n:Nat}{v:V}{d:D}{vs:List V}{ds:List D}{A B:List Addr}(h:RpU K H J n v d A) (t:RpUL K H J n vs ds B):RpUL K H J n (v::vs) (d::ds) (A++B)
end
def MutO:HO->Prop
 | .lst _=>True
 | .dK _=>True
 | _=>False
section
variable {K:W.Frag}{H H' H1 H2 Hz:Hp}{J J' J1 J2 Jz:Addr->Prop}
mutual
theorem RpU.keep {n:Nat}{v:V}{d:D}{A:List Addr}(k:Keep K H J H' J')(hA:∀b∈A,∀o,H b=some o->H' b=some o):RpU K H J n v d A->RpU K H' J' n v d A
 | .frz h=>.frz (h.keep k)
 | .lst h r=>.lst (hA _ waj _ h) (RpUL.keep k (fun b hb=>hA b (waf _ hb)) r)
 | .dct h ek ev r=>.dct (hA _ waj _ h) ek ev (RpUL.keep k (fun b hb=>hA b (waf _ hb)) r)
theorem RpUL.keep {n:Nat}{vs:List V}{ds:List D}{A:List Addr}(k:Keep K H J H' J')(hA:∀b∈A,∀o,H b=some o->H' b=some o):RpUL K H J n vs ds A->RpUL K H' J' n vs ds A
 | .nil=>.nil
 | .cons h t=>.cons (RpU.keep k (fun b hb=>hA b (wbL _ hb)) h) (RpUL.keep k (fun b hb=>hA b (was _ hb)) t)
end
mutual
theorem RpU.some {n:Nat}{v:V}{d:D}{A:List Addr}:RpU K H J n v d A->∀b∈A,∃o,H b=Option.some o/\MutO o
 | .frz _=>fun b hb=>absurd hb (by simp)
 | .lst h r=>fun b hb=>by
   rcases wai.mp hb with rfl | hb
   ·exact⟨_,h,trivial⟩
   ·exact RpUL.some r b hb
 | .dct h _ _ r=>fun b hb=>by
   rcases wai.mp hb with rfl | hb
   ·exact⟨_,h,trivial⟩
   ·exact RpUL.some r b hb
theorem RpUL.some {n:Nat}{vs:List V}{ds:List D}{A:List Addr}:RpUL K H J n vs ds A->∀b∈A,∃o,H b=Option.some o/\MutO o
 | .nil=>fun b hb=>absurd hb (by simp)
 | .cons h t=>fun b hb=>by
   rcases way.mp hb with hb | hb
   ·exact RpU.some h b hb
   ·exact RpUL.some t b hb
end
mutual
theorem RpU.rp {n:Nat}{v:V}{d:D}{A:List Addr}(j:∀a,J a->J' a)(hA:∀b∈A,J' b):RpU K H J n v d A->Rp K H J' v d
 | .frz h=>h.keep ⟨j,fun _ _ _ h=>h,fun _ _ h=>h⟩
 | .lst h r=>.lst h (hA _ waj) (RpUL.rp j (fun b hb=>hA b (waf _ hb)) r)
 | .dct h ek ev r=>.dct h (hA _ waj) ek ev (RpUL.rp j (fun b hb=>hA b (waf _ hb)) r)
theorem RpUL.rp {n:Nat}{vs:List V}{ds:List D}{A:List Addr}(j:∀a,J a->J' a)(hA:∀b∈A,J' b):RpUL K H J n vs ds A->RpL K H J' vs ds
 | .nil=>.nil
 | .cons h t=>.cons (RpU.rp j (fun b hb=>hA b (wbL _ hb)) h) (RpUL.rp j (fun b hb=>hA b (was _ hb)) t)
end
theorem RpUL.zero:∀{vs:List V}{ds:List D}{A:List Addr},RpUL K H J 0 vs ds A->RpL K H J vs ds/\A = []
 | _,_,_,.nil=>⟨.nil,rfl⟩
 | _,_,_,.cons (.frz h) t=>by
   obtain⟨r,e⟩:=RpUL.zero t;subst e;exact⟨.cons h r,rfl⟩
theorem RpUL.of:∀{vs:List V}{ds:List D},RpL K H J vs ds->RpUL K H J 0 vs ds []
 | _,_,.nil=>.nil
 | _,_,.cons h t=>.cons (A:=[]) (B:=[]) (.frz h) (RpUL.of t)
theorem RpU.one {v:V}{ds:List D}{A:List Addr}(h:RpU K H J 1 v (.lst ds) A):∃a vs,v=.ref a/\A = [a]/\H a=Option.some (.lst vs)/\RpL K H J vs ds:=by
 cases h with
 | lst h r=>obtain⟨r',rfl⟩:=r.zero;exact⟨_,_,rfl,rfl,h,r'⟩
theorem RpU.oneD {v:V}{ks:List Key}{ds:List D}{A:List Addr}(h:RpU K H J 1 v (.dct ks ds) A):∃a kvs vs,v=.ref a/\A = [a]/\H a=Option.some (.dK kvs)/\kvs.map (·.1)=ks/\kvs.map (·.2)=vs/\RpL K H J vs ds:=by
 cases h with
 | dct h e1 e2 r=>obtain⟨r',rfl⟩:=r.zero;exact⟨_,_,_,rfl,rfl,h,e1,e2,r'⟩
theorem RpUL.length {n:Nat}:∀{vs:List V}{ds:List D}{A:List Addr},RpUL K H J n vs ds A->vs.length=ds.length
 | _,_,_,.nil=>rfl
 | _,_,_,.cons _ t=>by simp[RpUL.length t]
theorem RpUL.append {n:Nat}:∀{vs us:List V}{ds es:List D}{A B:List Addr},RpUL K H J n vs ds A->RpUL K H J n us es B->RpUL K H J n (vs++us) (ds++es) (A++B)
 | _,_,_,_,_,_,.nil,s=>s
 | _,_,_,_,_,_,.cons h t,s=>by rw[wbr];exact .cons h (RpUL.append t s)
theorem RpUL.split {n:Nat}:∀{vs:List V}{ds:List D}{A:List Addr}(i:Nat) {d:D},RpUL K H J n vs ds A->ds[i]?=Option.some d->∃v A1 A2 A3,vs[i]?=Option.some v/\A=A1++(A2++A3)/\RpU K H J n v d A2/\
 ∀(H':Hp) (J':Addr->Prop) (u:V) (e:D) (B:List Addr),Keep K H J H' J'->(∀b∈A1++A3,∀o,H b=Option.some o->H' b=Option.some o)->RpU K H' J' n u e B->RpUL K H' J' n (vs.set i u) (ds.set i e) (A1++(B++A3))
 | _,_,_,_,_,.nil,e=>by simp at e
 | _,_,_,0,_,.cons (A:=A) (B:=B) h t,e=>by
   simp at e;subst e;exact⟨_,[],A,B,rfl,rfl,h,fun H' J' u e C k hk r=>RpUL.cons (A:=C) (B:=B) r (t.keep k (fun b hb=>hk b (by simpa using hb)))⟩
 | _,_,_,i+1,d,.cons (A:=A) (B:=B) h t,e=>by
   obtain⟨v,A1,A2,A3,hv,rfl,hr,up⟩:=RpUL.split i t (by simpa using e);refine⟨v,A++A1,A2,A3,by simpa using hv,by simp,hr,fun H' J' u e C k hk r=>?_⟩;rw[wbr];exact .cons (h.keep k (fun b hb=>hk b (by simp[hb]))) (up H' J' u e C k (fun b hb=>hk b (by simp at hb⊢;rcases hb with hb | hb <;> simp[hb])) r)
def RpW (K:W.Frag)(H:Hp)(J:Addr->Prop)(v:V)(d:D):Prop:=Rp K H J v d\/∃A,RpU K H J 1 v d A
theorem RpW.lst {v:V}{ds:List D}(h:RpW K H J v (.lst ds)):∃p vs,v=.ref p/\H p=some (.lst vs)/\RpL K H J vs ds:=by
 rcases h with h | ⟨A,h⟩
 ·cases h with | lst h j r=>exact⟨_,_,rfl,h,r⟩
 ·obtain⟨a,vs,rfl,_,h,r⟩:=h.one;exact⟨a,vs,rfl,h,r⟩
theorem RpW.tup {v:V}{ds:List D}(h:RpW K H J v (.tup ds)):∃p vs,v=.ref p/\SqT K H p vs/\RpL K H J vs ds:=by
 rcases h with h | ⟨A,h⟩
 ·cases h with | tup h r=>exact⟨_,_,rfl,h,r⟩
 ·cases h
theorem RpW.dct {v:V}{ks:List Key}{ds:List D}(h:RpW K H J v (.dct ks ds)):∃p kvs vs,v=.ref p/\H p=some (.dK kvs)/\kvs.map (·.1)=ks/\kvs.map (·.2)=vs/\RpL K H J vs ds:=by
 rcases h with h | ⟨A,h⟩
 ·cases h with | dct h j e1 e2 r=>exact⟨_,_,_,rfl,h,e1,e2,r⟩
 ·obtain⟨a,kvs,vs,rfl,_,h,e1,e2,r⟩:=h.oneD;exact⟨a,kvs,vs,rfl,h,e1,e2,r⟩
theorem RpW.int {v:V}{i:Int}(h:RpW K H J v (.int i)):v=.int i:=by
 rcases h with h | ⟨A,h⟩ <;> cases h
 rfl
theorem RpW.str {v:V}{i:Str}(h:RpW K H J v (.str i)):v=.str i:=by
 rcases h with h | ⟨A,h⟩ <;> cases h
 rfl
theorem RpW.bl {v:V}{i:Bool}(h:RpW K H J v (.bl i)):v=.bl i:=by
 rcases h with h | ⟨A,h⟩ <;> cases h
 rfl
theorem RpW.non {v:V}(h:RpW K H J v .non):v=.non:=by
 rcases h with h | ⟨A,h⟩ <;> cases h
 rfl
end
inductive SV where
 | un | val (d:D) | own (n:Nat) (d:D) | par (n:Nat) (d:D)
abbrev En:=List SV
structure Pr where
 ps:List (Nat×Addr×Nat)
 fpo:Nat->List Addr
def Pr.no:Pr:=⟨[],fun _=>[]⟩
def Pr.has (O:Pr)(b:Addr):Prop:=∃i,b∈O.fpo i
def OwAt (K:W.Frag)(Hz H:Hp)(J:Addr->Prop)(O:List Addr)(x:Option (Option V))(A:List Addr):Option SV->Prop
 | some (.own n d)=>(∃v,x=some (some v)/\RpU K H J n v d A)/\∀b∈A,Hz b=none
 | some (.par n d)=>(∃v,x=some (some v)/\RpU K H J n v d A)/\∀b∈A,Hz b=none\/b∈O
 | _=>A = []
structure Ow (K:W.Frag)(Hz:Hp)(O:Pr)(ρ:En)(σ:L2.St)(H:Hp)(J:Addr->Prop)(fp:Nat->List Addr):Prop where
 at':∀i,OwAt K Hz H J (O.fpo i) (σ[i]?) (fp i) (ρ[i]?)
 nd:∀i,(fp i).Nodup
 nj:∀i,∀b∈fp i,¬J b
 dj:∀i j,i≠j->∀b∈fp i,b∉fp j
structure ST (K:W.Frag)(Hz:Hp)(Jz:Addr->Prop)(O:Pr)(ρ:En)(σ:L2.St)(H:Hp)(J:Addr->Prop):Prop where
 same:∀b o,¬O.has b->Hz b=some o->H b=some o
 j0:∀a,Jz a->J a
 jn:∀a,J a->Jz a\/Hz a=none
 ja:∀a,J a->H a≠none
 len:σ.length=ρ.length
 vl:∀(i:Nat) (d:D),ρ[i]?=some (.val d)->∃v,σ[i]?=some (some v)/\Rp K H J v d
 ow:∃fp,Ow K Hz O ρ σ H J fp
 ps:∀q∈O.ps,σ[q.1]?=some (some (.ref q.2.1))/\∃d,ρ[q.1]?=some (.par q.2.2 d)
 al:∀b,Hz b≠none->H b≠none
section
variable {K:W.Frag}{H H' H1 H2 Hz:Hp}{J J' J1 J2 Jz:Addr->Prop}{ρ:En}{σ:L2.St}{O:Pr}
theorem OwAt.ru {B:List Addr}{x:Option (Option V)}{A:List Addr}{s:Option SV}(h:OwAt K Hz H J B x A s):∀b∈A,∃o,H b=some o/\MutO o:=by
 match s,h with
 | some (.own n d),⟨⟨v,_,r⟩,_⟩ =>exact r.some
 | some (.par n d),⟨⟨v,_,r⟩,_⟩ =>exact r.some
 | none,h=>cases h;simp
 | some .un,h=>cases h;simp
 | some (.val _),h=>cases h;simp
theorem OwAt.keep {B:List Addr}{x:Option (Option V)}{A:List Addr}{s:Option SV}(k:Keep K H J H' J')(hA:∀b∈A,∀o,H b=some o->H' b=some o)(h:OwAt K Hz H J B x A s):OwAt K Hz H' J' B x A s:=by
 match s,h with
 | some (.own n d),⟨⟨v,e,r⟩,q⟩ =>exact⟨⟨v,e,r.keep k hA⟩,q⟩
 | some (.par n d),⟨⟨v,e,r⟩,q⟩ =>exact⟨⟨v,e,r.keep k hA⟩,q⟩
 | none,h=>exact h
 | some .un,h=>exact h
 | some (.val _),h=>exact h
theorem ST.up (s:ST K Hz Jz O ρ σ H J)(u:Up H J H' J'):ST K Hz Jz O ρ σ H' J' where
 same:=fun b o hb h=>u.same b o (s.same b o hb h)
 j0:=fun a h=>u.jj a (s.j0 a h)
 jn:=fun a h=>by
  rcases u.jn a h with h | h
  ·exact s.jn a h
  ·right
   cases e:Hz a with
   | none=>rfl
   | some o=>
     exact absurd h (s.al a (by rw[e];simp))
 ja:=u.ja
 len:=s.len
 vl:=fun i d h=>let ⟨v,e,r⟩:=s.vl i d h;⟨v,e,r.keep u.keep⟩
 ow:=by
  obtain⟨fp,w⟩:=s.ow;refine⟨fp,fun i=>(w.at' i).keep u.keep fun b _=>u.same b,w.nd,fun i b hb j=>?_,w.dj⟩;rcases u.jn b j with j | j
  ·exact w.nj i b hb j
  ·obtain⟨o,e,_⟩:=(w.at' i).ru b hb;rw[e] at j;cases j
 ps:=s.ps
 al:=fun b h=>by
  cases e:H b with
  | none=>exact absurd e (s.al b h)
  | some o=>rw[u.same b o e];simp
theorem zb5 {α:Type}{l:List α}{i j:Nat}{x y:α}(h:(l.set i x)[j]?=some y):(j=i/\y=x)\/(j≠i/\l[j]?=some y):=by
 by_cases e:j=i
 ·subst e;by_cases hl:j<l.length
  ·rw[waq hl] at h;exact .inl ⟨rfl,(wav h).symm⟩
  ·rw[waL (by simp;omega)] at h;cases h
 ·rw[wad (Ne.symm e)] at h;exact .inr ⟨e,h⟩
def zhj (fp:Nat->List Addr)(i:Nat)(A:List Addr):Nat->List Addr:=fun j=>if j=i then A else fp j
theorem zaO {fp:Nat->List Addr}{i:Nat}{A:List Addr}:zhj fp i A i=A:=if_pos rfl
theorem za9 {fp:Nat->List Addr}{i j:Nat}{A:List Addr}(h:j≠i):zhj fp i A j=fp j:=if_neg h
theorem Ow.put {fp:Nat->List Addr}{ρ':En}{σ':L2.St}{i:Nat}{A:List Addr}(w:Ow K Hz O ρ σ H J fp)(k:Keep K H J H' J')(hs:∀j,j≠i->∀b∈fp j,∀o,H b=some o->H' b=some o)
 (hj:∀j,j≠i->∀b∈fp j,¬J' b) (hρ:∀j,j≠i->ρ'[j]?=ρ[j]?) (hσ:∀j,j≠i->σ'[j]?=σ[j]?) (hi:OwAt K Hz H' J' (O.fpo i) (σ'[i]?) A (ρ'[i]?)) (nd:A.Nodup) (nj:∀b∈A,¬J' b) (dj:∀j,j≠i->∀b∈A,b∉fp j) :
 Ow K Hz O ρ' σ' H' J' (zhj fp i A) where
 at':=fun j=>by
  by_cases e:j=i
  ·subst e;rw[zaO];exact hi
  ·rw[za9 e,hρ j e,hσ j e];exact(w.at' j).keep k (hs j e)
 nd:=fun j=>by
  by_cases e:j=i
  ·subst e;rw[zaO];exact nd
  ·rw[za9 e];exact w.nd j
 nj:=fun j b hb=>by
  by_cases e:j=i
  ·subst e;rw[zaO] at hb;exact nj b hb
  ·rw[za9 e] at hb;exact hj j e b hb
 dj:=fun j l ne b hb=>by
  by_cases e:j=i
  ·subst e;rw[zaO] at hb;rw[za9 (Ne.symm ne)];exact dj l (Ne.symm ne) b hb
  ·rw[za9 e] at hb;by_cases e2:l=i
   ·subst e2;rw[zaO];exact fun hb2=>dj j e b hb2 hb
   ·rw[za9 e2];exact w.dj j l ne b hb
theorem ST.psNe {i:Nat}(s:ST K Hz Jz O ρ σ H J)(hp:∀n d,ρ[i]?≠some (.par n d)):∀q∈O.ps,q.1≠i:=fun q hq e=>by
 obtain⟨_,d,h⟩:=s.ps q hq;exact hp _ d (e▸h)
theorem ST.set {i:Nat}{v:V}{d:D}(s:ST K Hz Jz O ρ σ H J)(r:Rp K H J v d)(hi:i<ρ.length)(hp:∀n d,ρ[i]?≠some (.par n d)):ST K Hz Jz O (ρ.set i (.val d)) (σ.set i (some v)) H J where
 same:=s.same
 j0:=s.j0
 jn:=s.jn
 ja:=s.ja
 len:=by simp[s.len]
 vl:=fun j e h=>by
  rcases zb5 h with⟨rfl,he⟩ | ⟨ne,h⟩
  ·cases he;exact⟨v,waq (by rw[s.len];exact hi),r⟩
  ·rw[wad (Ne.symm ne)];exact s.vl j e h
 ow:=by
  obtain⟨fp,w⟩:=s.ow;refine⟨_,w.put (i:=i) (A:=[]) Keep.refl (fun _ _ _ _ _ h=>h) (fun j _=>w.nj j) (fun j e=>wad (Ne.symm e)) (fun j e=>wad (Ne.symm e)) ?_ wba (by simp) (by simp)⟩;rw[waq hi];rfl
 ps:=fun q hq=>by
  have e:=s.psNe hp q hq
  rw[wad (Ne.symm e),wad (Ne.symm e)];exact s.ps q hq
 al:=s.al
theorem ST.drop {i:Nat}(s:ST K Hz Jz O ρ σ H J)(hp:∀n d,ρ[i]?≠some (.par n d)):ST K Hz Jz O (ρ.set i .un) σ H J where
 same:=s.same
 j0:=s.j0
 jn:=s.jn
 ja:=s.ja
 len:=by simp[s.len]
 vl:=fun j e h=>by
  rcases zb5 h with⟨rfl,he⟩ | ⟨ne,h⟩
  ·cases he
  ·exact s.vl j e h
 ow:=by
  obtain⟨fp,w⟩:=s.ow;refine⟨_,w.put (i:=i) (A:=[]) Keep.refl (fun _ _ _ _ _ h=>h) (fun j _=>w.nj j) (fun j e=>wad (Ne.symm e)) (fun _ _=>rfl) ?_ wba (by simp) (by simp)⟩;by_cases hi:i<ρ.length
  ·rw[waq hi];rfl
  ·have z:(List.set ρ i SV.un)[i]?=none:=waL (by simp;omega)
   rw[z];rfl
 ps:=fun q hq=>by
  have e:=s.psNe hp q hq
  rw[wad (Ne.symm e)];exact s.ps q hq
 al:=s.al
theorem ST.setOwn {i n:Nat}{v:V}{d:D}{A:List Addr}(s:ST K Hz Jz O ρ σ H1 J1)(u:Up H1 J1 H J)(fr:∀b∈A,H1 b=none)(r:RpU K H J n v d A)(nd:A.Nodup)(nj:∀b∈A,¬J b)(hi:i<ρ.length)(hp:∀n d,ρ[i]?≠some (.par n d)) :
 ST K Hz Jz O (ρ.set i (.own n d)) (σ.set i (some v)) H J:=by
 have s':=s.up u
 refine⟨s'.same,s'.j0,s'.jn,s'.ja,by simp[s.len],fun j e h=>?_,?_,fun q hq=>?_,s'.al⟩
 ·rcases zb5 h with⟨rfl,he⟩ | ⟨ne,h⟩
  ·cases he
  ·rw[wad (Ne.symm ne)];exact s'.vl j e h
 ·obtain⟨fp,w⟩:=s.ow;have h0:∀b∈A,Hz b=none:=fun b hb=>by
   cases e:Hz b with
   | none=>rfl
   | some o=>exact absurd (fr b hb) (s.al b (by rw[e];simp))
  refine⟨_,w.put (i:=i) (A:=A) u.keep (fun j _ b _ o=>u.same b o) (fun j _ b hb jb=>?_) (fun j e=>wad (Ne.symm e)) (fun j e=>wad (Ne.symm e)) ?_ nd nj (fun j _ b hb hb2=>?_)⟩
  ·rcases u.jn b jb with jb | jb
   ·exact w.nj j b hb jb
   ·obtain⟨o,e,_⟩:=(w.at' j).ru b hb;rw[e] at jb;cases jb
  ·rw[waq hi,waq (by rw[s.len];exact hi)];exact⟨⟨v,rfl,r⟩,h0⟩
  ·obtain⟨o,e,_⟩:=(w.at' j).ru b hb2;rw[fr b hb] at e;cases e
 ·have e:=s.psNe hp q hq
  rw[wad (Ne.symm e),wad (Ne.symm e)];exact s.ps q hq
def ownD:Option SV->Option (Nat×D)
 | some (.own n d)=>some (n,d)
 | some (.par n d)=>some (n,d)
 | _=>none
def putD (s:Option SV)(d:D):SV:=match s with
 | some (.own n _)=>.own n d
 | some (.par n _)=>.par n d
 | _=>.un
theorem ziA {A:List Addr}(hm:∀b∈A,∃o,H b=some o/\MutO o)(nj:∀b∈A,¬J b)(hs:∀b o,b∉A->H b=some o->H' b=some o)(jj:∀a,J a->J' a):Keep K H J H' J':=⟨jj,fun p o j h=>hs p o (fun hp=>nj p hp j) h,fun p vs h=>by
 rcases h with(h | ⟨u,h⟩) | h
 ·exact .inl (.inl (hs p _ (fun hp=>by obtain⟨o,e,m⟩:=hm p hp;rw[h] at e;cases e;exact m) h))
 ·exact .inl (.inr ⟨u,hs p _ (fun hp=>by obtain⟨o,e,m⟩:=hm p hp;rw[h] at e;cases e;exact m) h⟩)
 ·exact .inr h⟩
theorem ST.chg {i n:Nat}{d:D}(s:ST K Hz Jz O ρ σ H J)(h0:ownD (ρ[i]?)=some (n,d)):∃v A,σ[i]?=some (some v)/\RpU K H J n v d A/\A.Nodup/\(∀b∈A,¬J b)/\
 ∀(H':Hp) (J':Addr->Prop) (d':D) (A':List Addr),(∀b o,b∉A->H b=some o->H' b=some o)->(∀b,H b≠none->H' b≠none)->(∀a,J a->J' a)->(∀a,J' a->J a\/H a=none)->(∀a,J' a->H' a≠none)->
  RpU K H' J' n v d' A'->A'.Nodup->(∀b∈A',¬J' b)->(∀b∈A',b∈A\/H b=none)->ST K Hz Jz O (ρ.set i (putD (ρ[i]?) d')) σ H' J'/\Keep K H J H' J':=by
 obtain⟨fp,w⟩:=s.ow;have hat:=w.at' i
 have hi:i<ρ.length:=by
  by_cases hi:i<ρ.length
  ·exact hi
  ·rw[waL (by omega)] at h0;cases h0
 have main:(∃v,σ[i]?=some (some v)/\RpU K H J n v d (fp i))/\(∀b∈fp i,Hz b=none\/b∈O.fpo i):=by
  match hq:ρ[i]?,h0,hat with
  | some (.own m e),h0,hat=>cases h0;exact⟨hat.1,fun b hb=>.inl (hat.2 b hb)⟩
  | some (.par m e),h0,hat=>cases h0;exact hat
 obtain⟨⟨v,hv,r⟩,hfr⟩:=main;refine⟨v,fp i,hv,r,w.nd i,w.nj i,fun H' J' d' A' hs ha jj jn ja r' nd nj hA=>?_⟩;have kp:Keep K H J H' J':=ziA (fun b hb=>hat.ru b hb) (w.nj i) hs jj
 have out:∀j,j≠i->∀b∈fp j,b∉fp i:=fun j e b hb hb2=>w.dj j i e b hb hb2
 have free:∀b,H b=none->Hz b=none:=fun b hb=>by
  cases e:Hz b with
  | none=>rfl
  | some o=>exact absurd hb (s.al b (by rw[e];simp))
 refine⟨⟨fun b o hb h=>hs b o (fun hb2=>?_) (s.same b o hb h),fun a h=>jj a (s.j0 a h),fun a h=>?_,ja,by simp[s.len],fun j e h=>?_,?_,fun q hq=>?_,fun b h=>ha b (s.al b h)⟩,kp⟩
 ·rcases hfr b hb2 with h2 | h2
  ·rw[h2] at h;cases h
  ·exact hb ⟨i,h2⟩
 ·rcases jn a h with h | h
  ·exact s.jn a h
  ·exact .inr (free a h)
 ·rcases zb5 h with⟨rfl,he⟩ | ⟨ne,h⟩
  ·exfalso
   unfold putD at he;match hq:ρ[j]?,h0 with
   | some (.own m e),h0=>rw[hq] at he;cases he
   | some (.par m e),h0=>rw[hq] at he;cases he
  ·obtain⟨v,e1,r1⟩:=s.vl j e h;exact⟨v,e1,r1.keep kp⟩
 ·refine⟨_,w.put (i:=i) (A:=A') kp (fun j e b hb o ho=>hs b o (out j e b hb) ho) (fun j e b hb jb=>?_) (fun j e=>wad (Ne.symm e)) (fun _ _=>rfl) ?_ nd nj (fun j e b hb hb2=>?_)⟩
  ·rcases jn b jb with jb | jb
   ·exact w.nj j b hb jb
   ·obtain⟨o,e,_⟩:=(w.at' j).ru b hb;rw[e] at jb;cases jb
  ·rw[waq hi];match hq:ρ[i]?,h0,hat with
   | some (.own m e),h0,hat=>
     cases h0;refine⟨⟨v,hv,r'⟩,fun b hb=>?_⟩;rcases hA b hb with hb | hb
     ·exact hat.2 b hb
     ·exact free b hb
   | some (.par m e),h0,hat=>
     cases h0;refine⟨⟨v,hv,r'⟩,fun b hb=>?_⟩;rcases hA b hb with hb | hb
     ·exact hat.2 b hb
     ·exact .inl (free b hb)
  ·rcases hA b hb with hb | hb
   ·exact w.dj j i e b hb2 hb
   ·obtain⟨o,e,_⟩:=(w.at' j).ru b hb2;rw[hb] at e;cases e
 ·obtain⟨e1,e,h⟩:=s.ps q hq;refine⟨e1,?_⟩;by_cases e:q.1=i
  ·rw[e,waq hi];rw[e] at h;exact⟨d',by rw[h];rfl⟩
  ·rw[wad (Ne.symm e)];exact⟨_,h⟩
theorem ST.frz {i n:Nat}{d:D}(s:ST K Hz Jz O ρ σ H J)(h0:ρ[i]?=some (.own n d)):∃J',ST K Hz Jz O (ρ.set i (.val d)) σ H J'/\Keep K H J H J':=by
 obtain⟨fp,w⟩:=s.ow;have hat:=w.at' i
 rw[h0] at hat
 obtain⟨⟨v,hv,r⟩,hn⟩:=hat
 have hi:i<ρ.length:=(wal.mp h0).1
 have kp:Keep K H J H (fun b=>J b\/b∈fp i):=⟨fun _ h=>.inl h,fun _ _ _ h=>h,fun _ _ h=>h⟩
 refine⟨fun b=>J b\/b∈fp i,⟨s.same,fun b h=>.inl (s.j0 b h),fun b h=>?_,fun b h=>?_,by simp[s.len],fun j e h=>?_,?_,fun q hq=>?_,s.al⟩,kp⟩
 ·rcases h with h | h
  ·exact s.jn b h
  ·exact .inr (hn b h)
 ·rcases h with h | h
  ·exact s.ja b h
  ·obtain⟨o,e,_⟩:=r.some b h;rw[e];simp
 ·rcases zb5 h with⟨rfl,he⟩ | ⟨ne,h⟩
  ·cases he;exact⟨v,hv,r.rp (fun _ h=>.inl h) (fun b hb=>.inr hb)⟩
  ·obtain⟨v,e1,r1⟩:=s.vl j e h;exact⟨v,e1,r1.keep kp⟩
 ·refine⟨_,w.put (i:=i) (A:=[]) kp (fun _ _ _ _ _ h=>h) (fun j e b hb jb=>?_) (fun j e=>wad (Ne.symm e)) (fun _ _=>rfl) ?_ wba (by simp) (by simp)⟩
  ·rcases jb with jb | jb
   ·exact w.nj j b hb jb
   ·exact w.dj j i e b hb jb
  ·rw[waq hi];rfl
 ·have e:=s.psNe (i:=i) (fun n d z=>by rw[h0] at z;cases z) q hq
  rw[wad (Ne.symm e)];exact s.ps q hq
def Weak (ρ' ρ:En):Prop:=ρ'.length=ρ.length/\∀(i:Nat),ρ'[i]?=ρ[i]?\/ρ'[i]?=some .un
def isUn:Option SV->Bool
 | some .un=>true
 | _=>false
theorem ST.weak {ρ':En}(s:ST K Hz Jz O ρ σ H J)(w:Weak ρ' ρ)(hO:O.ps = []):ST K Hz Jz O ρ' σ H J where
 same:=s.same
 j0:=s.j0
 jn:=s.jn
 ja:=s.ja
 len:=by rw[s.len,w.1]
 vl:=fun i d h=>by
  rcases w.2 i with e | e
  ·exact s.vl i d (e▸h)
  ·rw[e] at h;cases h
 ow:=by
  obtain⟨fp,o⟩:=s.ow;have key:∀i:Nat,(ρ'[i]?=some SV.un)\/ρ'[i]?=ρ[i]?:=fun i=>(w.2 i).symm
  refine⟨fun i=>if isUn (ρ'[i]?) then[] else fp i,fun i=>?_,fun i=>?_,fun i b hb=>?_,fun i j ne b hb=>?_⟩
  ·have q:=o.at' i
   rcases key i with e | e
   ·rw[e];rfl
   ·rw[e];cases z:ρ[i]? with
    | none=>rw[z] at q;exact q
    | some x=>
      rw[z] at q;cases x with
      | un=>rfl
      | val d=>exact q
      | own n d=>exact q
      | par n d=>exact q
  ·split
   ·exact wba
   ·exact o.nd i
  ·split at hb
   ·cases hb
   ·exact o.nj i b hb
  ·split at hb
   ·cases hb
   ·split
    ·simp
    ·exact o.dj i j ne b hb
 ps:=by rw[hO];simp
 al:=s.al
end
end VD
namespace VD
open PySem PySem.Spec PyProof PyProof.Rows L2
abbrev FE:=En->Option D
abbrev FT:=En->Option Bool
abbrev FA:=En->Option (List D)
def lim:Nat:=100000
theorem zeG:lim<sizeLine:=by decide
theorem zbk {n:Nat}(h:n<=lim):n<=sizeLine:=wan h (wbg zeG)
def mkL (ds:List D):Option D:=if ds.length<=lim then some (.lst ds) else none
def mkT (ds:List D):Option D:=if ds.length<=lim then some (.tup ds) else none
theorem ziB {ds:List D}{d:D}(h:mkL ds=some d):ds.length<=lim/\d=.lst ds:=by
 unfold mkL at h;by_cases e:ds.length<=lim
 ·rw[if_pos e] at h;exact⟨e,(wav h).symm⟩
 ·rw[if_neg e] at h;cases h
theorem zdX {ds:List D}{d:D}(h:mkT ds=some d):ds.length<=lim/\d=.tup ds:=by
 unfold mkT at h;by_cases e:ds.length<=lim
 ·rw[if_pos e] at h;exact⟨e,(wav h).symm⟩
 ·rw[if_neg e] at h;cases h
section
variable (K:W.Frag)
def zfp (H:Hp)(J:Addr->Prop)(d:D)(Q:VK):Prop:=∀v H' J',Up H J H' J'->Rp K H' J' v d->Q v H'
def zmr (H:Hp)(J:Addr->Prop)(d:D)(Q:VK):Prop:=∀v H' J',Up H J H' J'->RpW K H' J' v d->Q v H'
def zjT (H:Hp)(J:Addr->Prop)(ds:List D)(Q:VK):Prop:=∀p vs H' J',Up H J H' J'->H p=none->¬J' p->H' p=some (.lst vs)->RpL K H' J' vs ds->Q (.ref p) H'
def zjU (H:Hp)(J:Addr->Prop)(b:Bool)(Q:Bool->Hp->Prop):Prop:=∀H' J',Up H J H' J'->Q b H'
def zms (H:Hp)(J:Addr->Prop)(ds:List D)(Q:List V->Hp->Prop):Prop:=∀vs H' J',Up H J H' J'->RpL K H' J' vs ds->Q vs H'
def GoE (t:TE)(f:FE):Prop:=∀Hz Jz O ρ σ H J d Q,ST K Hz Jz O ρ σ H J->f ρ=some d->zfp K H J d Q->t σ H Q
def GoW (t:TE)(f:FE):Prop:=∀Hz Jz O ρ σ H J d Q,ST K Hz Jz O ρ σ H J->f ρ=some d->zmr K H J d Q->t σ H Q
def GoN (t:TE)(f:FA):Prop:=∀Hz Jz O ρ σ H J d Q,ST K Hz Jz O ρ σ H J->f ρ=some d->zjT K H J d Q->t σ H Q
def GoT (t:TT)(f:FT):Prop:=∀Hz Jz O ρ σ H J b Q,ST K Hz Jz O ρ σ H J->f ρ=some b->zjU H J b Q->t σ H Q
def GoA (t:TA)(f:FA):Prop:=∀Hz Jz O ρ σ H J ds Q,ST K Hz Jz O ρ σ H J->f ρ=some ds->zms K H J ds Q->t σ H Q
end
def VE (X:Cx)(e:Expr)(f:FE):Prop:=∃t,PE X e t/\GoE X.K t f
def VW (X:Cx)(e:Expr)(f:FE):Prop:=∃t,PE X e t/\GoW X.K t f
def VN (X:Cx)(e:Expr)(f:FA):Prop:=∃t,PE X e t/\GoN X.K t f
def VT (X:Cx)(e:Expr)(f:FT):Prop:=∃t,PT X e t/\GoT X.K t f
def VP (X:Cx)(e:Expr)(f:FT):Prop:=∃t,PW X e t/\GoT X.K t f
def VA (X:Cx)(es:List Expr)(f:FA):Prop:=∃t,PA X es t/\GoA X.K t f
def RpWL (K:W.Frag)(H:Hp)(J:Addr->Prop):List V->List D->Prop
 | [],[]=>True
 | v::vs,d::ds=>RpW K H J v d/\RpWL K H J vs ds
 | _,_=>False
def GoAW (K:W.Frag)(t:TA)(f:FA):Prop:=∀Hz Jz O ρ σ H J ds Q,ST K Hz Jz O ρ σ H J->f ρ=some ds->(∀vs H' J',Up H J H' J'->RpWL K H' J' vs ds->Q vs H')->t σ H Q
def VAW (X:Cx)(es:List Expr)(f:FA):Prop:=∃t,PA X es t/\GoAW X.K t f
theorem RpW.up {K:W.Frag}{H H':Hp}{J J':Addr->Prop}{v:V}{d:D}(h:RpW K H J v d)(u:Up H J H' J'):RpW K H' J' v d:=by
 rcases h with h | ⟨A,h⟩
 ·exact .inl (h.keep u.keep)
 ·exact .inr ⟨A,h.keep u.keep fun b _ o=>u.same b o⟩
section
variable {X:Cx}{a b c e:Expr}{es rest:List Expr}{fa fb:FE}{ft fu:FT}{fl:FA}{pos p:Pos}
theorem VE.w (h:VE X a fa):VW X a fa:=by
 obtain⟨t,p,g⟩:=h;exact⟨t,p,fun Hz Jz O ρ σ H J d Q s e w=>g Hz Jz O ρ σ H J d Q s e fun v H' J' u r=>w v H' J' u (.inl r)⟩
def eVar (i:Nat):FE:=fun ρ=>match ρ[i]? with | some (.val d)=>some d | _=>none
def eRd (i:Nat):FE:=fun ρ=>match ρ[i]? with | some (.val d)=>some d | some (.own 1 d)=>some d | some (.par 1 d)=>some d | _=>none
theorem zmt {K:W.Frag}{i:Nat}:GoE K (tVar i) (eVar i):=by
 intro Hz Jz O ρ σ H J d Q s e w;unfold eVar at e;split at e
 ·rename_i d' q
  cases e;obtain⟨v,hv,r⟩:=s.vl i _ q;exact⟨v,hv,w v H J (Up.refl s.ja) r⟩
 ·cases e
theorem ST.rd {K:W.Frag}{Hz H:Hp}{Jz J:Addr->Prop}{O:Pr}{ρ:En}{σ:L2.St}{i n:Nat}{d:D}(s:ST K Hz Jz O ρ σ H J)(h:ownD (ρ[i]?)=some (n,d)):∃v A,σ[i]?=some (some v)/\RpU K H J n v d A:=by
 obtain⟨v,A,h1,h2,_⟩:=s.chg h;exact⟨v,A,h1,h2⟩
theorem zn5 {K:W.Frag}{i:Nat}:GoW K (tVar i) (eRd i):=by
 intro Hz Jz O ρ σ H J d Q s e w;unfold eRd at e;split at e
 ·rename_i d' q
  cases e;obtain⟨v,hv,r⟩:=s.vl i _ q;exact⟨v,hv,w v H J (Up.refl s.ja) (.inl r)⟩
 ·rename_i d' q
  cases e;obtain⟨v,A,hv,r⟩:=s.rd (i:=i) (n:=1) (d:=d) (by rw[q];rfl);exact⟨v,hv,w v H J (Up.refl s.ja) (.inr ⟨A,r⟩)⟩
 ·rename_i d' q
  cases e;obtain⟨v,A,hv,r⟩:=s.rd (i:=i) (n:=1) (d:=d) (by rw[q];rfl);exact⟨v,hv,w v H J (Up.refl s.ja) (.inr ⟨A,r⟩)⟩
 ·cases e
theorem vv (i:Nat){x:Str}{pos:Pos}(hN:X.N[i]?=some x:=by rfl)(hv:Vis X.env.scope x:=by first | exact Or.inl rfl | exact Or.inr (Or.inl rfl) | exact Or.inr (Or.inr rfl))(hd:(x == ("__debug__" : Str))=false:=by decide)
 (hcd:(x == ("__classdict__" : Str))=false:=by decide):VE X (.Name x pos) (eVar i):=⟨_,zcb hN hv hd hcd,zmt⟩
theorem vr (i:Nat){x:Str}{pos:Pos}(hN:X.N[i]?=some x:=by rfl)(hv:Vis X.env.scope x:=by first | exact Or.inl rfl | exact Or.inr (Or.inl rfl) | exact Or.inr (Or.inr rfl))(hd:(x == ("__debug__" : Str))=false:=by decide)
 (hcd:(x == ("__classdict__" : Str))=false:=by decide):VW X (.Name x pos) (eRd i):=⟨_,zcb hN hv hd hcd,zn5⟩
def eK (d:D):FE:=fun _=>some d
theorem go_c {K:W.Frag}{v:V}{d:D}(h:∀H J,Rp K H J v d):GoE K (tC v) (eK d):=by
 intro Hz Jz O ρ σ H J d' Q s e w;cases e;exact w v H J (Up.refl s.ja) (h H J)
theorem zag {i j pos}:VE X (.Constant (.int i) j pos) (eK (.int i)):=⟨_,zlV,go_c fun _ _=>.int i⟩
theorem zhk {i j pos}:VE X (.Constant (.bool i) j pos) (eK (.bl i)):=⟨_,znO,go_c fun _ _=>.bl i⟩
theorem zaz {i j pos}:VE X (.Constant (.str i) j pos) (eK (.str i)):=⟨_,zlX,go_c fun _ _=>.str i⟩
theorem zfT {j pos}:VE X (.Constant .none j pos) (eK .non):=⟨_,zlW,go_c fun _ _=>.non⟩
structure GlobD (K:W.Frag)(mg:Str->Option Value)(x:Str)(d:D):Prop where
 ex:∃u v,mg x=some u/\RelV v u/\∀H J,Rp K H J v d
theorem zbf {x:Str}{d:D}{pos:Pos}(G:GlobD X.K X.mg x d)(hg:Gl X x:=by rfl)(hd:(x == ("__debug__" : Str))=false:=by decide):VE X (.Name x pos) (eK d):=by
 obtain⟨u,v,h1,h2,h3⟩:=G.ex;exact⟨_,zfh hg h1 h2 hd,go_c h3⟩
def e2 (F:D->D->Option D)(f g:FE):FE:=fun ρ=>(f ρ).bind fun x=>(g ρ).bind fun y=>F x y
def e1 (F:D->Option D)(f:FE):FE:=fun ρ=>(f ρ).bind F
theorem bind_some {α β:Type}{o:Option α}{f:α->Option β}{b:β}(h:o.bind f=some b):∃a,o=some a/\f a=some b:=by
 cases o with
 | none=>cases h
 | some a=>exact⟨a,rfl,h⟩
def Im2 (K:W.Frag)(r:R2)(F:D->D->Option D):Prop:=∀H J x y d e d' Q,(∀a,J a->H a≠none)->RpW K H J x d->RpW K H J y e->F d e=some d'->zfp K H J d' Q->r x y H Q
theorem ziC {K:W.Frag}{r:R2}{F:D->D->Option D}{ta tb:TE}(im:Im2 K r F)(ga:GoW K ta fa)(gb:GoW K tb fb):GoE K (tOp r ta tb) (e2 F fa fb):=by
 intro Hz Jz O ρ σ H J d Q s e w;obtain⟨x,ex,e⟩:=bind_some e;obtain⟨y,ey,e⟩:=bind_some e;refine ga Hz Jz O ρ σ H J x _ s ex fun v1 H1 J1 u1 r1=>?_
 refine gb Hz Jz O ρ σ H1 J1 y _ (s.up u1) ey fun v2 H2 J2 u2 r2=>?_
 exact im H2 J2 v1 v2 x y d Q u2.ja (r1.up u2) r2 e fun v3 H3 J3 u3 r3=>w v3 H3 J3 (u1.trans (u2.trans u3)) r3
theorem zav {op:Operator}{r:R2}{F:D->D->Option D}(ho:OpR X (binaryOp op) r)(im:Im2 X.K r F)(ha:VW X a fa)(hb:VW X b fb):VE X (.BinOp a op b pos) (e2 F fa fb):=by
 obtain⟨ta,pa,ga⟩:=ha;obtain⟨tb,pb,gb⟩:=hb;exact⟨_,zl8 ho pa pb,ziC im ga gb⟩
theorem zc5 {op:CmpOp}{r:R2}{F:D->D->Option D}(ho:OpR X (compareOp op) r)(im:Im2 X.K r F)(ha:VW X a fa)(hb:VW X b fb)(hm:behindInMarks op b=false):VE X (.Compare a [op] [b] pos) (e2 F fa fb):=by
 obtain⟨ta,pa,ga⟩:=ha;obtain⟨tb,pb,gb⟩:=hb;exact⟨_,zkp ho pa pb hm,ziC im ga gb⟩
def dB:D->Option Bool
 | .bl b=>some b
 | _=>none
def t1 (f:FE):FT:=fun ρ=>(f ρ).bind dB
theorem zkK {K:W.Frag}{t:TE}{f:FE}(g:GoE K t f):GoT K (zme t) (t1 f):=by
 intro Hz Jz O ρ σ H J d Q s e w;obtain⟨x,ex,e⟩:=bind_some e;refine g Hz Jz O ρ σ H J x _ s ex fun v H1 J1 u1 r1=>?_
 cases x with
 | bl k=>cases e;cases r1;exact⟨_,rfl,w H1 J1 u1⟩
 | _=>cases e
theorem zcM {op:CmpOp}{r:R2}{F:D->D->Option D}(ho:OpR X (compareOp op) r)(im:Im2 X.K r F)(ha:VW X a fa)(hb:VW X b fb)(hm:behindInMarks op b=false):VT X (.Compare a [op] [b] pos) (t1 (e2 F fa fb)):=by
 obtain⟨ta,pa,ga⟩:=ha;obtain⟨tb,pb,gb⟩:=hb;exact⟨_,zkq ho pa pb hm,zkK (ziC im ga gb)⟩
def e3 (F G:D->D->Option D)(f g h:FE):FE:=fun ρ=>(f ρ).bind fun x=>(g ρ).bind fun y=>(F x y).bind fun z=>(dB z).bind fun k=>if k then(h ρ).bind fun w=>G y w else some (.bl false)
def dTru:D->Option Bool
 | .non=>some false
 | .bl b=>some b
 | .int i=>some (i != 0)
 | .str x=>if x.length<=lim then some ((x.length:Int) != 0) else none
 | .tup ds=>some (!ds.isEmpty)
 | .lst ds=>some (!ds.isEmpty)
 | .dct ks _=>some (!ks.isEmpty)
 | .scr _=>none
 | .exc _ _ _=>none
def tT (f:FE):FT:=fun ρ=>(f ρ).bind dTru
theorem zc6 {α β:Type}{xs:List α}{ys:List β}(h:xs.length=ys.length):xs.isEmpty=ys.isEmpty:=by
 cases xs <;> cases ys <;> first | rfl | cases h
theorem zmu {K:W.Frag}{H:Hp}{J:Addr->Prop}{v:V}{d:D}{k:Bool}(r:RpW K H J v d)(h:dTru d=some k):TruV K v H k:=by
 cases d with
 | non=>rw[r.non];cases h;rfl
 | bl b=>rw[r.bl];cases h;rfl
 | int b=>rw[r.int];cases h;rfl
 | str x=>
   rw[r.str];have h:(if x.length<=lim then some ((x.length:Int) != 0) else none)=some k:=h
   by_cases e:x.length<=lim
   ·rw[if_pos e] at h;cases h;exact⟨zbk e,rfl⟩
   ·rw[if_neg e] at h;cases h
 | tup ds=>obtain⟨p,vs,rfl,h1,h2⟩:=r.tup;cases h;exact .inr (.inl ⟨vs,h1,by rw[zc6 h2.length]⟩)
 | lst ds=>obtain⟨p,vs,rfl,h1,h2⟩:=r.lst;cases h;exact .inl ⟨vs,SqL.of h1,by rw[zc6 h2.length]⟩
 | scr p=>cases h
 | exc _ _ _=>cases h
 | dct ks ds=>
   obtain⟨p,kvs,vs,rfl,h1,h2,h3,h4⟩:=r.dct;cases h;refine .inr (.inr ⟨kvs,h1,?_⟩);rw[<-h2];cases kvs <;> rfl
theorem zeH (ha:VW X a fa)(he:∀whole,isTrue a X.env whole=(do let v <-whole;standAt a.pos;holding [v] (truthy v)):=by intro _;rfl):VT X a (tT fa):=by
 obtain⟨ta,pa,ga⟩:=ha;refine⟨_,zir pa he,?_⟩;intro Hz Jz O ρ σ H J d Q s e w;obtain⟨x,ex,e⟩:=bind_some e;refine ga Hz Jz O ρ σ H J x _ s ex fun v H1 J1 u1 r1=>?_
 exact⟨d,zmu r1 e,w H1 J1 u1⟩
def tAndF (f g:FT):FT:=fun ρ=>(f ρ).bind fun k=>if k then g ρ else some false
def tOrF (f g:FT):FT:=fun ρ=>(f ρ).bind fun k=>if k then some true else g ρ
def tNotF (f:FT):FT:=fun ρ=>(f ρ).bind fun k=>some (!k)
theorem zmv {K:W.Frag}{t u:TT}(g1:GoT K t ft)(g2:GoT K u fu):GoT K (tAnd t u) (tAndF ft fu):=by
 intro Hz Jz O ρ σ H J d Q s e w;obtain⟨k,ek,e⟩:=bind_some e;refine g1 Hz Jz O ρ σ H J k _ s ek fun H1 J1 u1=>?_
 cases k with
 | true=>exact iteT (g2 Hz Jz O ρ σ H1 J1 d Q (s.up u1) e fun H2 J2 u2=>w H2 J2 (u1.trans u2))
 | false=>have e':some false=some d:=e;cases e';exact iteF (w H1 J1 u1)
theorem zn6 {K:W.Frag}{t u:TT}(g1:GoT K t ft)(g2:GoT K u fu):GoT K (tOr t u) (tOrF ft fu):=by
 intro Hz Jz O ρ σ H J d Q s e w;obtain⟨k,ek,e⟩:=bind_some e;refine g1 Hz Jz O ρ σ H J k _ s ek fun H1 J1 u1=>?_
 cases k with
 | true=>have e':some true=some d:=e;cases e';exact iteT (w H1 J1 u1)
 | false=>exact iteF (g2 Hz Jz O ρ σ H1 J1 d Q (s.up u1) e fun H2 J2 u2=>w H2 J2 (u1.trans u2))
theorem zkL (h:VT X a ft):VP X (.BoolOp .And [a] pos) ft:=let ⟨t,p,g⟩:=h;⟨t,zkl p,g⟩
theorem zmw (h:VT X a ft):VP X (.BoolOp .Or [a] pos) ft:=let ⟨t,p,g⟩:=h;⟨t,zlY p,g⟩
theorem zmx (h:VT X a ft)(h2:VP X (.BoolOp .And (b::rest) pos) fu):VP X (.BoolOp .And (a::b::rest) pos) (tAndF ft fu):=let ⟨_,p,g⟩:=h;let ⟨_,p2,g2⟩:=h2;⟨_,zlZ p p2,zmv g g2⟩
theorem zn7 (h:VT X a ft)(h2:VP X (.BoolOp .Or (b::rest) pos) fu):VP X (.BoolOp .Or (a::b::rest) pos) (tOrF ft fu):=let ⟨_,p,g⟩:=h;let ⟨_,p2,g2⟩:=h2;⟨_,znP p p2,zn6 g g2⟩
theorem VP.t (h:VP X a ft):VT X a ft:=let ⟨t,p,g⟩:=h;⟨t,p.pt,g⟩
theorem zfU (h:VT X a ft):VT X (.UnaryOp .Not a pos) (tNotF ft):=by
 obtain⟨t,p,g⟩:=h;refine⟨_,zl0 p,?_⟩;intro Hz Jz O ρ σ H J d Q s e w;obtain⟨k,ek,e⟩:=bind_some e;cases e;exact g Hz Jz O ρ σ H J k _ s ek fun H1 J1 u1=>w H1 J1 u1
def eAnd (f g:FE):FE:=fun ρ=>(t1 f ρ).bind fun k=>if k then g ρ else some (.bl false)
def eNot (f:FE):FE:=fun ρ=>(t1 f ρ).bind fun k=>some (.bl (!k))
theorem zhl {op}(h:VE X a fa):VE X (.BoolOp op [a] pos) fa:=let ⟨_,p,g⟩:=h;⟨_,zl1 p,g⟩
theorem zfV (h:VE X a fa)(h2:VE X (.BoolOp .And (b::rest) pos) fb):VE X (.BoolOp .And (a::b::rest) pos) (eAnd fa fb):=by
 obtain⟨t,p,g⟩:=h;obtain⟨t2,p2,g2⟩:=h2;refine⟨_,zl2 p p2,?_⟩;intro Hz Jz O ρ σ H J d Q s e w;obtain⟨k,ek,e⟩:=bind_some e;obtain⟨x,ex,ek⟩:=bind_some ek;refine g Hz Jz O ρ σ H J x _ s ex fun v H1 J1 u1 r1=>?_
 cases x with
 | bl k'=>
   have ek':k'=k:=wav ek
   subst ek';cases r1;refine⟨_,rfl,?_⟩;cases k' with
   | true=>exact iteT (g2 Hz Jz O ρ σ H1 J1 d Q (s.up u1) e fun v2 H2 J2 u2 r2=>w v2 H2 J2 (u1.trans u2) r2)
   | false=>have e':some (D.bl false)=some d:=e;cases e';exact iteF (w _ H1 J1 u1 (.bl false))
 | _=>cases ek
theorem zmy (h:VE X a fa):VE X (.UnaryOp .Not a pos) (eNot fa):=by
 obtain⟨t,p,g⟩:=h;refine⟨_,zl3 p,?_⟩;intro Hz Jz O ρ σ H J d Q s e w;obtain⟨k,ek,e⟩:=bind_some e;obtain⟨x,ex,ek⟩:=bind_some ek;refine g Hz Jz O ρ σ H J x _ s ex fun v H1 J1 u1 r1=>?_
 cases x with
 | bl k'=>
   have ek':k'=k:=wav ek
   subst ek';cases r1;cases e;exact⟨_,rfl,w _ H1 J1 u1 (.bl _)⟩
 | _=>cases ek
def aNil:FA:=fun _=>some []
def aCons (f:FE)(g:FA):FA:=fun ρ=>(f ρ).bind fun x=>(g ρ).bind fun xs=>some (x::xs)
theorem zah:VA X [] aNil:=⟨_,zcd,fun Hz Jz O ρ σ H J ds Q s e w=>by cases e;exact w [] H J (Up.refl s.ja) .nil⟩
theorem zac (ha:VE X e fa)(hr:VA X es fl)(hs:starEach (e::es) X.env=(false,eval e X.env)::starEach es X.env:=by rfl):VA X (e::es) (aCons fa fl):=by
 obtain⟨t,p,g⟩:=ha;obtain⟨t2,p2,g2⟩:=hr;refine⟨_,zaV p p2 hs,?_⟩;intro Hz Jz O ρ σ H J ds Q s e w;obtain⟨x,ex,e⟩:=bind_some e;obtain⟨xs,exs,e⟩:=bind_some e;cases e;refine g Hz Jz O ρ σ H J x _ s ex fun v1 H1 J1 u1 r1=>?_
 refine g2 Hz Jz O ρ σ H1 J1 xs _ (s.up u1) exs fun vs H2 J2 u2 r2=>?_
 exact w _ H2 J2 (u1.trans u2) (.cons (r1.keep u2.keep) r2)
theorem zc7:VAW X [] aNil:=⟨_,zcd,fun Hz Jz O ρ σ H J ds Q s e w=>by cases e;exact w [] H J (Up.refl s.ja) trivial⟩
theorem zbP (ha:VW X e fa)(hr:VAW X es fl)(hs:starEach (e::es) X.env=(false,eval e X.env)::starEach es X.env:=by rfl):VAW X (e::es) (aCons fa fl):=by
 obtain⟨t,p,g⟩:=ha;obtain⟨t2,p2,g2⟩:=hr;refine⟨_,zaV p p2 hs,?_⟩;intro Hz Jz O ρ σ H J ds Q s e w;obtain⟨x,ex,e⟩:=bind_some e;obtain⟨xs,exs,e⟩:=bind_some e;cases e;refine g Hz Jz O ρ σ H J x _ s ex fun v1 H1 J1 u1 r1=>?_
 refine g2 Hz Jz O ρ σ H1 J1 xs _ (s.up u1) exs fun vs H2 J2 u2 r2=>?_
 exact w _ H2 J2 (u1.trans u2) ⟨r1.up u2,r2⟩
def eTup (f:FA):FE:=fun ρ=>(f ρ).bind mkT
theorem zc8 {x1}(h:VA X es fl):VE X (.Tuple es x1 pos) (eTup fl):=by
 obtain⟨t,p,g⟩:=h;refine⟨_,zjO p,?_⟩;intro Hz Jz O ρ σ H J d Q s e w;obtain⟨xs,exs,e⟩:=bind_some e;obtain⟨hl,rfl⟩:=zdX e;refine g Hz Jz O ρ σ H J xs _ s exs fun vs H1 J1 u1 r1=>⟨by rw[r1.length];exact zbk hl,fun p hp=>?_⟩
 have un:=Up.new u1.ja hp (.tup vs)
 exact w _ _ _ (u1.trans un) (.tup (SqT.of zaf) (r1.keep un.keep))
def aMk (f:FA):FA:=fun ρ=>(f ρ).bind fun ds=>if ds.length<=lim then some ds else none
theorem ziD {f:FA}{ρ:En}{ds:List D}(h:aMk f ρ=some ds):f ρ=some ds/\ds.length<=lim:=by
 obtain⟨xs,e1,e2⟩:=bind_some h;by_cases hl:xs.length<=lim
 ·rw[if_pos hl] at e2;cases e2;exact⟨e1,hl⟩
 ·rw[if_neg hl] at e2;cases e2
theorem zaI (h:VA X es fl):VN X (.List es pos) (aMk fl):=by
 obtain⟨t,p,g⟩:=h;refine⟨_,zgZ p,?_⟩;intro Hz Jz O ρ σ H J ds Q s e w;obtain⟨e1,hl⟩:=ziD e;refine g Hz Jz O ρ σ H J ds _ s e1 fun vs H1 J1 u1 r1=>⟨by rw[r1.length];exact zbk hl,fun p hp=>?_⟩
 have un:=Up.new u1.ja hp (.lst vs)
 exact w p vs _ J1 (u1.trans un) (u1.same.free hp) (fun j=>u1.ja p j hp) zaf (r1.keep un.keep)
def eL (f:FA):FE:=fun ρ=>(f ρ).bind fun ds=>some (.lst ds)
theorem zjV {K:W.Frag}{t:TE}{f:FA}(g:GoN K t f):GoE K t (eL f):=by
 intro Hz Jz O ρ σ H J d Q s e w;obtain⟨ds,e1,e⟩:=bind_some e;cases e;refine g Hz Jz O ρ σ H J ds _ s e1 fun p vs H1 J1 u1 hp nj h1 r1=>?_
 have kp:Keep K H1 J1 H1 (fun a=>J1 a\/a=p):=⟨fun _ h=>.inl h,fun _ _ _ h=>h,fun _ _ h=>h⟩
 refine w (.ref p) H1 (fun a=>J1 a\/a=p) ⟨u1.same,fun a h=>.inl (u1.jj a h),fun a h=>?_,fun a h=>?_⟩ (.lst h1 (.inr rfl) (r1.keep kp))
 ·rcases h with h | rfl
  ·exact u1.jn a h
  ·exact .inr hp
 ·rcases h with h | rfl
  ·exact u1.ja a h
  ·rw[h1];simp
theorem VN.ve {f:FA}(h:VN X a f):VE X a (eL f):=let ⟨_,p,g⟩:=h;⟨_,p,zjV g⟩
def spF (K:W.Frag)(F:List D->Option D):Sp:=fun vs H Q _=>∃J ds d,(∀a,J a->H a≠none)/\RpL K H J vs ds/\F ds=some d/\zfp K H J d Q
def eCall (F:List D->Option D)(f:FA):FE:=fun ρ=>(f ρ).bind F
theorem zaC {k k':Nat}{x:Str}{ps:List Str}{F:List D->Option D}(C:Cal X.prog X.w X.K X.mg X.base k x ps (spF X.K F))(hr:Room k' X.A)(ha:VA X (e::es) fl)(hk:k<=k':=by decide)(hg:Gl X x:=by rfl)(hdb:(x == ("__debug__" : Str))=false:=by decide)
 (he:starEach (e::es) X.env=(false,eval e X.env)::starEach es X.env:=by rfl) (hpl:(backTo pos (starEach es X.env)).any (·.1)=false:=by rfl):VE X (.Call (.Name x p) (e::es) [] pos) (eCall F fl):=by
 obtain⟨t,p,g⟩:=ha;refine⟨_,pc C hr p hk hg hdb he hpl,?_⟩;intro Hz Jz O ρ σ H J d Q s e w;obtain⟨ds,e1,e⟩:=bind_some e;refine g Hz Jz O ρ σ H J ds _ s e1 fun vs H1 J1 u1 r1=>?_
 refine⟨J1,ds,d,u1.ja,by rw[waF];exact r1,e,fun v H2 J2 u2 r2=>w v H2 J2 (u1.trans u2) r2⟩
def ImC (K:W.Frag)(r:List V->Hp->VK->Prop)(F:List D->Option D):Prop:=∀H J vs ds d Q,(∀a,J a->H a≠none)->RpWL K H J vs ds->F ds=some d->zfp K H J d Q->r vs H Q
theorem zmz {K:W.Frag}{r:List V->Hp->VK->Prop}{F:List D->Option D}{t:TA}(im:ImC K r F)(g:GoAW K t fl):GoE K (tCB r t) (eCall F fl):=by
 intro Hz Jz O ρ σ H J d Q s e w;obtain⟨ds,e1,e⟩:=bind_some e;refine g Hz Jz O ρ σ H J ds _ s e1 fun vs H1 J1 u1 r1=>?_
 exact im H1 J1 vs ds d Q u1.ja r1 e fun v H2 J2 u2 r2=>w v H2 J2 (u1.trans u2) r2
theorem ve_b {id:String}{x:Str}{r:List V->Hp->VK->Prop}{F:List D->Option D}(hc:zcc X (.builtin id) r)(im:ImC X.K r F)(B:Blt X.mg)(hv:bootBuiltins x=some (.builtin id))(ha:VAW X (e::es) fl)(hB:x∈za8:=by decide +kernel)(hg:Gl X x:=by rfl)(hn:x≠"__name__":=by decide)(hdb:(x == ("__debug__" : Str))=false:=by decide)
 (he:starEach (e::es) X.env=(false,eval e X.env)::starEach es X.env:=by rfl) (hpl:(backTo pos (starEach es X.env)).any (·.1)=false:=by rfl):VE X (.Call (.Name x p) (e::es) [] pos) (eCall F fl):=by
 obtain⟨t,p,g⟩:=ha;exact⟨_,pb hc B hv p hB hg hn hdb he hpl,zmz im g⟩
theorem zmA {T:String}{x:Str}{r:List V->Hp->VK->Prop}{F:List D->Option D}(hc:zcc X (.type T) r)(im:ImC X.K r F)(B:Blt X.mg)(hv:bootBuiltins x=some (.type T))(ha:VAW X (e::es) fl)(hB:x∈za8:=by decide +kernel)(hg:Gl X x:=by rfl)(hn:x≠"__name__":=by decide)(hdb:(x == ("__debug__" : Str))=false:=by decide)
 (he:starEach (e::es) X.env=(false,eval e X.env)::starEach es X.env:=by rfl) (hpl:(backTo pos (starEach es X.env)).any (·.1)=false:=by rfl):VE X (.Call (.Name x p) (e::es) [] pos) (eCall F fl):=by
 obtain⟨t,p,g⟩:=ha;exact⟨_,pty hc B hv p hB hg hn hdb he hpl,zmz im g⟩
end
section
variable {K:W.Frag}{X:Cx}
def dAdd:D->D->Option D
 | .int i,.int j=>some (.int (i+j))
 | .str x,.str y=>if x.length+y.length<=lim then some (.str (x++y)) else none
 | .lst xs,.lst ys=>mkL (xs++ys)
 | .tup xs,.tup ys=>if ys = [] then none else mkT (xs++ys)
 | _,_=>none
def zmB (K:W.Frag):R2:=fun x y H Q=>(rI0 fun i j=>.int (i+j)) x y H Q\/(∃i j,x=.str i/\y=.str j/\i.length+j.length<=sizeLine/\Q (.str (i++j)) H)\/rCat x y H Q\/zmm K x y H Q
theorem zbG:OpR X (binaryOp .Add) (zmB X.K):=op_add.or (op_add_str.or (op_cat.or zkF))
theorem zaS:Im2 K (zmB K) dAdd:=by
 intro H J x y d e d' Q ja hx hy hF w;match d,e,hF with
 | .int i,.int j,hF=>
   cases hF;rw[hx.int,hy.int];exact .inl ⟨i,j,rfl,rfl,w _ H J (Up.refl ja) (.int _)⟩
 | .str a,.str b,hF=>
   have hF:(if a.length+b.length<=lim then some (D.str (a++b)) else none)=some d':=hF
   by_cases hl:a.length+b.length<=lim
   ·rw[if_pos hl] at hF;cases hF;rw[hx.str,hy.str];exact .inr (.inl ⟨a,b,rfl,rfl,zbk hl,w _ H J (Up.refl ja) (.str _)⟩)
   ·rw[if_neg hl] at hF;cases hF
 | .lst xs,.lst ys,hF=>
   have hF:mkL (xs++ys)=some d':=hF
   obtain⟨hl,rfl⟩:=ziB hF;obtain⟨p,vs,rfl,h1,r1⟩:=hx.lst;obtain⟨q,us,rfl,h2,r2⟩:=hy.lst;refine .inr (.inr (.inl ⟨p,q,vs,us,rfl,rfl,h1,h2,?_,fun c hc=>?_⟩))
   ·rw[r1.length,r2.length,<-wat];exact zbk hl
   ·have un:=Up.newJ ja hc (.lst (vs++us))
    exact w _ _ _ un (.lst zaf (.inr rfl) ((r1.append r2).keep un.keep))
 | .tup xs,.tup ys,hF=>
   have hF:(if ys = [] then none else mkT (xs++ys))=some d':=hF
   by_cases hy0:ys = []
   ·rw[if_pos hy0] at hF;cases hF
   ·rw[if_neg hy0] at hF;obtain⟨hl,rfl⟩:=zdX hF;obtain⟨p,vs,rfl,h1,r1⟩:=hx.tup;obtain⟨q,us,rfl,h2,r2⟩:=hy.tup;refine .inr (.inr (.inr ⟨p,q,vs,us,rfl,rfl,h1,h2,?_,?_,fun e=>?_,fun _ c hc=>?_⟩))
    ·rintro rfl;exact hy0 (List.length_eq_zero_iff.mp (by rw[<-r2.length];rfl))
    ·rw[r1.length,r2.length,<-wat];exact zbk hl
    ·subst e;obtain rfl:xs = []:=List.length_eq_zero_iff.mp (by rw[<-r1.length];rfl);exact w _ H J (Up.refl ja) (.tup h2 r2)
    ·have un:=Up.new ja hc (.tup (vs++us))
     exact w _ _ _ un (.tup (SqT.of zaf) ((r1.append r2).keep un.keep))
def dI (C:Int->Int->Prop)[∀i j,Decidable (C i j)](g:Int->Int->D):D->D->Option D
 | .int i,.int j=>if C i j then some (g i j) else none
 | _,_=>none
theorem im_I {C:Int->Int->Prop}[∀i j,Decidable (C i j)]{g:Int->Int->V}{g':Int->Int->D}(hg:∀i j H J,Rp K H J (g i j) (g' i j)):Im2 K (rI C g) (dI C g'):=by
 intro H J x y d e d' Q ja hx hy hF w;match d,e,hF with
 | .int i,.int j,hF=>
   have hF:(if C i j then some (g' i j) else none)=some d':=hF
   by_cases hc:C i j
   ·rw[if_pos hc] at hF;cases hF;rw[hx.int,hy.int];exact⟨i,j,rfl,rfl,hc,w _ H J (Up.refl ja) (hg i j H J)⟩
   ·rw[if_neg hc] at hF;cases hF
def dI0 (g:Int->Int->D):D->D->Option D
 | .int i,.int j=>some (g i j)
 | _,_=>none
theorem zmC {g:Int->Int->V}{g':Int->Int->D}(hg:∀i j H J,Rp K H J (g i j) (g' i j)):Im2 K (rI0 g) (dI0 g'):=by
 intro H J x y d e d' Q ja hx hy hF w;match d,e,hF with
 | .int i,.int j,hF=>
   cases hF;rw[hx.int,hy.int];exact⟨i,j,rfl,rfl,w _ H J (Up.refl ja) (hg i j H J)⟩
instance (i j:Int):Decidable (CMul i j):=by unfold CMul;infer_instance
instance (i j:Int):Decidable (CDiv i j):=by unfold CDiv;infer_instance
instance (i j:Int):Decidable (CPow i j):=by unfold CPow;infer_instance
def dSub:=dI0 fun i j=>.int (i - j)
def dFdiv:=dI CDiv fun i j=>.int (i / j)
def dMod:=dI (fun _ j=>0<j) fun i j=>.int (i % j)
def dPow:=dI CPow fun i j=>.int (i ^ j.toNat)
def dGe:=dI0 fun i j=>.bl (decide (j<=i))
theorem zmD:Im2 K (rI0 fun i j=>.int (i - j)) dSub:=zmC fun _ _ _ _=>.int _
theorem zhm:Im2 K (rI CDiv fun i j=>.int (i / j)) dFdiv:=im_I fun _ _ _ _=>.int _
theorem zcN:Im2 K (rI (fun _ j=>0<j) fun i j=>.int (i % j)) dMod:=im_I fun _ _ _ _=>.int _
theorem zmE:Im2 K (rI CPow fun i j=>.int (i ^ j.toNat)) dPow:=im_I fun _ _ _ _=>.int _
theorem zn8:Im2 K (rI0 fun i j=>.bl (decide (j<=i))) dGe:=zmC fun _ _ _ _=>.bl _
def dMul:D->D->Option D
 | .int i,.int j=>if CMul i j then some (.int (i*j)) else none
 | .str z,.int n=>if -1000<=n/\n<=1000/\z.length<=1000 then some (.str (Txt.mul z n)) else none
 | .lst xs,.int k=>if 0<=k/\k<=1000/\xs.length<=1000 then some (.lst (List.replicate k.toNat xs).flatten) else none
 | _,_=>none
def zmF:R2:=fun x y H Q=>(rI CMul fun i j=>.int (i*j)) x y H Q\/(∃z n,x=.str z/\y=.int n/\-1000<=n/\n<=1000/\z.length<=1000/\Q (.str (Txt.mul z n)) H)\/rRep x y H Q
theorem zeI:OpR X (binaryOp .Mult) zmF:=op_mul.or (op_rep_str.or zmk)
theorem RpL.rep {H:Hp}{J:Addr->Prop}{vs:List V}{ds:List D}(r:RpL K H J vs ds):∀n:Nat,RpL K H J (List.replicate n vs).flatten (List.replicate n ds).flatten
 | 0=>.nil
 | n+1=>by
   rw[waQ,waQ,wbq,wbq];exact r.append (RpL.rep r n)
theorem zcO:Im2 K zmF dMul:=by
 intro H J x y d e d' Q ja hx hy hF w;match d,e,hF with
 | .int i,.int j,hF=>
   have hF:(if CMul i j then some (D.int (i*j)) else none)=some d':=hF
   by_cases hc:CMul i j
   ·rw[if_pos hc] at hF;cases hF;rw[hx.int,hy.int];exact .inl ⟨i,j,rfl,rfl,hc,w _ H J (Up.refl ja) (.int _)⟩
   ·rw[if_neg hc] at hF;cases hF
 | .str z,.int n,hF=>
   have hF:(if -1000<=n/\n<=1000/\z.length<=1000 then some (D.str (Txt.mul z n)) else none)=some d':=hF
   by_cases hc:-1000<=n/\n<=1000/\z.length<=1000
   ·rw[if_pos hc] at hF;cases hF;rw[hx.str,hy.int];exact .inr (.inl ⟨z,n,rfl,rfl,hc.1,hc.2.1,hc.2.2,w _ H J (Up.refl ja) (.str _)⟩)
   ·rw[if_neg hc] at hF;cases hF
 | .lst xs,.int n,hF=>
   have hF:(if 0<=n/\n<=1000/\xs.length<=1000 then some (D.lst (List.replicate n.toNat xs).flatten) else none)=some d':=hF
   by_cases hc:0<=n/\n<=1000/\xs.length<=1000
   ·rw[if_pos hc] at hF;cases hF;obtain⟨p,vs,rfl,h1,r1⟩:=hx.lst;rw[hy.int];refine .inr (.inr ⟨p,n,vs,rfl,rfl,h1,by omega,by omega,?_,fun c hc=>?_⟩)
    ·rw[r1.length];have h1:xs.length*n.toNat<=1000*1000:=Nat.mul_le_mul hc.2.2 (by omega)
     exact wan h1 (by decide)
    ·have un:=Up.newJ ja hc (.lst (List.replicate n.toNat vs).flatten)
     exact w _ _ _ un (.lst zaf (.inr rfl) ((r1.rep _).keep un.keep))
   ·rw[if_neg hc] at hF;cases hF
def dV:D->V
 | .non=>.non
 | .bl b=>.bl b
 | .int i=>.int i
 | .str x=>.str x
 | _=>.ty ""
def zfW:D->Bool
 | .non=>true
 | .int _=>true
 | .str _=>true
 | _=>false
theorem zam {p q:Prop}[Decidable p][Decidable q](h:p↔q):decide p=decide q:=by
 by_cases hp:p
 ·rw[waB hp,waB (h.mp hp)]
 ·rw[wau hp,wau (fun z=>hp (h.mpr z))]
def dIn (neg:Bool):D->D->Option D
 | x,.lst ds=>if zfW x=true/\ds.all zfW=true then some (.bl (if neg then !decide (x∈ds) else decide (x∈ds))) else none
 | x,.tup ds=>if zfW x=true/\ds.all zfW=true then some (.bl (if neg then !decide (x∈ds) else decide (x∈ds))) else none
 | _,_=>none
def dIs (neg:Bool):D->D->Option D
 | d,.non=>some (.bl (if neg then !decide (d=.non) else decide (d=.non)))
 | _,_=>none
theorem zkM {H:Hp}{J:Addr->Prop}{v:V}{d:D}(r:RpW K H J v d):v=.non↔d=.non:=by
 rcases r with r | ⟨A,r⟩
 ·cases r <;> simp
 ·cases r <;> simp
theorem zn9:Im2 K (fun x y H Q=>y=.non/\Q (.bl (decide (x=.non))) H) (dIs false):=by
 intro H J x y d e d' Q ja hx hy hF w;cases e with
 | non=>
   cases hF;refine⟨hy.non,?_⟩;rw[zam (zkM hx)];exact w _ H J (Up.refl ja) (.bl _)
 | _=>cases hF
def dIx:D->D->Option D
 | .lst ds,.int i=>atI ds i
 | .tup ds,.int i=>atI ds i
 | .str z,.int i=>if z.length<=lim then(atI z.cps.toList i).map fun c=>.str ⟨#[c]⟩ else none
 | _,_=>none
theorem zmG:Im2 K (rIx K) dIx:=by
 intro H J x y d e d' Q ja hx hy hF w;match d,e,hF with
 | .lst ds,.int i,hF=>
   have hF:atI ds i=some d':=hF
   obtain⟨p,vs,rfl,h1,r1⟩:=hx.lst;obtain⟨v,hv,rv⟩:=r1.at hF;rw[hy.int];exact .inl ⟨p,vs,i,v,rfl,rfl,SqL.of h1,hv,w v H J (Up.refl ja) rv⟩
 | .tup ds,.int i,hF=>
   have hF:atI ds i=some d':=hF
   obtain⟨p,vs,rfl,h1,r1⟩:=hx.tup;obtain⟨v,hv,rv⟩:=r1.at hF;rw[hy.int];exact .inr (.inl ⟨p,vs,i,v,rfl,rfl,h1,hv,w v H J (Up.refl ja) rv⟩)
 | .str z,.int i,hF=>
   have hF:(if z.length<=lim then(atI z.cps.toList i).map fun c=>D.str ⟨#[c]⟩ else none)=some d':=hF
   by_cases hl:z.length<=lim
   ·rw[if_pos hl] at hF;cases q:atI z.cps.toList i with
    | none=>rw[q] at hF;cases hF
    | some c=>
      rw[q] at hF;cases hF;rw[hx.str,hy.int];exact .inr (.inr ⟨z,i,c,rfl,rfl,zbk hl,q,w _ H J (Up.refl ja) (.str _)⟩)
   ·rw[if_neg hl] at hF;cases hF
variable {a b:Expr}{fa fb:FE}{pos p2:Pos}
theorem zay (ha:VW X a fa)(hb:VW X b fb)(hs:zb3 b:=by exact fun _ _=>rfl):VE X (.Subscript a b pos) (e2 dIx fa fb):=by
 obtain⟨ta,pa,ga⟩:=ha;obtain⟨tb,pb,gb⟩:=hb;exact⟨_,zgt zfM pa pb hs,ziC zmG ga gb⟩
def cut {α:Type}(xs:List α)(lo hi:Option Int):List α:=(xs.drop (HT.sIx xs.length 0 lo)).take (HT.sIx xs.length xs.length hi - HT.sIx xs.length 0 lo)
theorem RpL.cut {H:Hp}{J:Addr->Prop}{vs:List V}{ds:List D}(r:RpL K H J vs ds)(lo hi:Option Int):RpL K H J (cutV vs lo hi) (VD.cut ds lo hi):=by
 unfold cutV VD.cut;rw[r.length];exact(r.drop _).take _
def dSl:D->Option Int->Option Int->Option D
 | .lst ds,lo,hi=>some (.lst (cut ds lo hi))
 | .tup ds,lo,hi=>if HT.sIx ds.length 0 lo=0/\HT.sIx ds.length ds.length hi=ds.length then none else some (.tup (cut ds lo hi))
 | .str z,lo,hi=>if z.length<=lim then some (.str (Txt.slice z lo hi)) else none
 | _,_,_=>none
abbrev FO:=En->Option (Option Int)
def GoO (K:W.Frag)(t:TO)(f:FO):Prop:=∀Hz Jz O ρ σ H J o Q,ST K Hz Jz O ρ σ H J->f ρ=some o->(∀H' J',Up H J H' J'->Q o H')->t σ H Q
def VO (X:Cx)(e:Option Expr)(f:FO):Prop:=∃t,PO X e t/\GoO X.K t f
def oN:FO:=fun _=>some none
def dInt:D->Option Int
 | .int i=>some i
 | _=>none
def oS (f:FE):FO:=fun ρ=>(f ρ).bind fun d=>(dInt d).bind fun i=>some (some i)
theorem zkN:VO X none oN:=⟨_,zg3,fun Hz Jz O ρ σ H J o Q s e w=>by cases e;exact w H J (Up.refl s.ja)⟩
theorem zkO (h:VE X a fa):VO X (some a) (oS fa):=by
 obtain⟨t,p,g⟩:=h;refine⟨_,zg4 p,?_⟩;intro Hz Jz O ρ σ H J o Q s e w;obtain⟨d,e1,e⟩:=bind_some e;obtain⟨i,e2,e⟩:=bind_some e;cases e;refine g Hz Jz O ρ σ H J d _ s e1 fun v H1 J1 u1 r1=>?_
 cases d with
 | int k=>cases e2;cases r1;exact⟨_,rfl,w H1 J1 u1⟩
 | _=>cases e2
def eSl (f:FE)(lo hi:FO):FE:=fun ρ=>(f ρ).bind fun x=>(lo ρ).bind fun l=>(hi ρ).bind fun h=>dSl x l h
def rSlD (K:W.Frag):V->Option Int->Option Int->Hp->VK->Prop:=fun x lo hi H Q=>rSlL K x lo hi H Q\/rSlT K x lo hi H Q\/rSlS x lo hi H Q
theorem ziE {lo hi:Option Expr}{fl fh:FO}(ha:VW X a fa)(hl:VO X lo fl)(hh:VO X hi fh):VE X (.Subscript a (.Slice lo hi none p2) pos) (eSl fa fl fh):=by
 obtain⟨t,p,g⟩:=ha;obtain⟨tl,pl,gl⟩:=hl;obtain⟨th,ph,gh⟩:=hh;refine⟨_,zfL (r:=rSlD X.K) (sl_list.or (sl_tup.or zjQ)) p pl ph,?_⟩;intro Hz Jz O ρ σ H J d Q s e w;obtain⟨x,e1,e⟩:=bind_some e;obtain⟨l,e2,e⟩:=bind_some e;obtain⟨h,e3,e⟩:=bind_some e;refine g Hz Jz O ρ σ H J x _ s e1 fun v H1 J1 u1 r1=>?_
 refine gl Hz Jz O ρ σ H1 J1 l _ (s.up u1) e2 fun H2 J2 u2=>?_
 refine gh Hz Jz O ρ σ H2 J2 h _ (s.up (u1.trans u2)) e3 fun H3 J3 u3=>?_
 have r3:=r1.up (u2.trans u3)
 have u:=u1.trans (u2.trans u3)
 match x,e with
 | .lst ds,e=>
   cases e;obtain⟨p,vs,rfl,h1,rl⟩:=r3.lst;refine .inl ⟨p,vs,rfl,SqL.of h1,fun c hc=>?_⟩;have un:=Up.newJ u3.ja hc (.lst (cutV vs l h))
   exact w _ _ _ (u.trans un) (.lst zaf (.inr rfl) ((rl.cut l h).keep un.keep))
 | .tup ds,e=>
   have e:(if HT.sIx ds.length 0 l=0/\HT.sIx ds.length ds.length h=ds.length then none else some (D.tup (cut ds l h)))=some d:=e
   by_cases hc:HT.sIx ds.length 0 l=0/\HT.sIx ds.length ds.length h=ds.length
   ·rw[if_pos hc] at e;cases e
   ·rw[if_neg hc] at e;cases e;obtain⟨p,vs,rfl,h1,rl⟩:=r3.tup;refine .inr (.inl ⟨p,vs,rfl,h1,by rw[rl.length];exact hc,fun c hc=>?_⟩);have un:=Up.new u3.ja hc (.tup (cutV vs l h))
    exact w _ _ _ (u.trans un) (.tup (SqT.of zaf) ((rl.cut l h).keep un.keep))
 | .str z,e=>
   have e:(if z.length<=lim then some (D.str (Txt.slice z l h)) else none)=some d:=e
   by_cases hc:z.length<=lim
   ·rw[if_pos hc] at e;cases e;rw[r3.str];exact .inr (.inr ⟨z,rfl,zbk hc,w _ _ _ u (.str _)⟩)
   ·rw[if_neg hc] at e;cases e
def dLst:D->Option (List D)
 | .lst ds=>some ds
 | _=>none
def aRev (f:FE):FA:=fun ρ=>(f ρ).bind fun d=>(dLst d).bind fun ds=>some ds.reverse
theorem zjW {p3 p4:Pos}{j:Nat}(ha:VW X a fa):VN X (.Subscript a (.Slice none none (some (.UnaryOp .USub (.Constant (.int 1) j p3) p4)) p2) pos) (aRev fa):=by
 obtain⟨t,p,g⟩:=ha;refine⟨_,zmp p,?_⟩;intro Hz Jz O ρ σ H J ds Q s e w;obtain⟨x,e1,e⟩:=bind_some e;obtain⟨xs,e2,e⟩:=bind_some e;cases e;refine g Hz Jz O ρ σ H J x _ s e1 fun v H1 J1 u1 r1=>?_
 cases x with
 | lst ds=>
   cases e2;obtain⟨p,vs,rfl,h1,rl⟩:=r1.lst;refine⟨p,vs,rfl,SqL.of h1,fun c hc=>?_⟩;have un:=Up.new u1.ja hc (.lst vs.reverse)
   exact w c _ _ _ (u1.trans un) (u1.same.free hc) (fun j=>u1.ja c j hc) zaf (rl.reverse.keep un.keep)
 | _=>cases e2
def dNeg:D->Option D
 | .int i=>some (.int (-i))
 | _=>none
theorem zdz (ha:VE X a fa):VE X (.UnaryOp .USub a pos) (e1 dNeg fa):=by
 obtain⟨t,p,g⟩:=ha;refine⟨_,znV zmb p,?_⟩;intro Hz Jz O ρ σ H J d Q s e w;obtain⟨x,e1,e⟩:=bind_some e;refine g Hz Jz O ρ σ H J x _ s e1 fun v H1 J1 u1 r1=>?_
 cases x with
 | int i=>cases e;cases r1;exact⟨i,rfl,w _ H1 J1 u1 (.int _)⟩
 | _=>cases e
theorem RpWL.one {H:Hp}{J:Addr->Prop}{vs:List V}{d:D}(h:RpWL K H J vs [d]):∃v,vs = [v]/\RpW K H J v d:=by
 match vs,h with
 | [v],h=>exact⟨v,rfl,h.1⟩
 | [],h=>exact h.elim
 | _::_::_,h=>exact h.2.elim
theorem RpWL.two {H:Hp}{J:Addr->Prop}{vs:List V}{d e:D}(h:RpWL K H J vs [d,e]):∃v u,vs = [v,u]/\RpW K H J v d/\RpW K H J u e:=by
 match vs,h with
 | [v,u],h=>exact⟨v,u,rfl,h.1,h.2.1⟩
 | [],h=>exact h.elim
 | [_],h=>exact h.2.elim
 | _::_::_::_,h=>exact h.2.2.elim
def bLen:List D->Option D
 | [.lst ds]=>some (.int ds.length)
 | [.tup ds]=>some (.int ds.length)
 | [.str z]=>if z.length<=lim then some (.int z.length) else none
 | _=>none
theorem zjX:ImC K (fun xs H Q=>∃x n,xs = [x]/\LenV K x H n/\Q (.int n) H) bLen:=by
 intro H J vs ds d Q ja r hF w;match ds,r,hF with
 | [.lst ds],r,hF=>
   obtain⟨v,rfl,rr⟩:=r.one;cases hF;obtain⟨p,us,rfl,h1,rl⟩:=rr.lst;refine⟨_,us.length,rfl,.inl ⟨us,SqL.of h1,rfl⟩,?_⟩;rw[rl.length];exact w _ H J (Up.refl ja) (.int _)
 | [.tup ds],r,hF=>
   obtain⟨v,rfl,rr⟩:=r.one;cases hF;obtain⟨p,us,rfl,h1,rl⟩:=rr.tup;refine⟨_,us.length,rfl,.inr ⟨us,h1,rfl⟩,?_⟩;rw[rl.length];exact w _ H J (Up.refl ja) (.int _)
 | [.str z],r,hF=>
   obtain⟨v,rfl,rr⟩:=r.one;have hF:(if z.length<=lim then some (D.int z.length) else none)=some d:=hF
   by_cases hl:z.length<=lim
   ·rw[if_pos hl] at hF;cases hF;rw[rr.str];exact⟨_,z.length,rfl,⟨zbk hl,rfl⟩,w _ H J (Up.refl ja) (.int _)⟩
   ·rw[if_neg hl] at hF;cases hF
def bMax:List D->Option D
 | [.int i,.int j]=>some (.int (if j>i then j else i))
 | _=>none
def bMin:List D->Option D
 | [.int i,.int j]=>some (.int (if j<i then j else i))
 | _=>none
theorem zmH:ImC K (fun xs H Q=>∃i j,xs = [.int i,.int j]/\Q (.int (if j<i then j else i)) H) bMin:=by
 intro H J vs ds d Q ja r hF w;match ds,r,hF with
 | [.int i,.int j],r,hF=>obtain⟨v,u,rfl,q1,q2⟩:=r.two;cases hF;exact⟨i,j,by rw[q1.int,q2.int],w _ H J (Up.refl ja) (.int _)⟩
def bList:List D->Option D
 | [.lst ds]=>some (.lst ds)
 | [.tup ds]=>some (.lst ds)
 | _=>none
def bTuple:List D->Option D
 | [.lst ds]=>some (.tup ds)
 | [.tup ds]=>some (.tup ds)
 | _=>none
theorem zfX:ImC K (fun xs H Q=>∃p ys,xs = [.ref p]/\((SqL K H p ys/\∀l,H l=none->Q (.ref l) (upd H l (.tup ys)))\/(SqT K H p ys/\Q (.ref p) H))) bTuple:=by
 intro H J vs ds d Q ja r hF w;match ds,r,hF with
 | [.lst ds],r,hF=>
   obtain⟨v,rfl,rr⟩:=r.one;cases hF;obtain⟨p,us,rfl,h1,rl⟩:=rr.lst;refine⟨p,us,rfl,.inl ⟨SqL.of h1,fun c hc=>?_⟩⟩;have un:=Up.new ja hc (.tup us)
   exact w _ _ _ un (.tup (SqT.of zaf) (rl.keep un.keep))
 | [.tup ds],r,hF=>
   obtain⟨v,rfl,rr⟩:=r.one;cases hF;obtain⟨p,us,rfl,h1,rl⟩:=rr.tup;exact⟨p,us,rfl,.inr ⟨h1,w _ H J (Up.refl ja) (.tup h1 rl)⟩⟩
end
def Src (K:W.Frag)(I:It)(H:Hp)(J:Addr->Prop)(ds:List D):Prop:=∀H2 J2,Keep K H J H2 J2->(∀a,J2 a->H2 a≠none)->
 I.stop ds.length H2/\∀i d,ds[i]?=some d->I.go i H2/\∀x H3,I.yld i H2 x H3->∃J3,Up H2 J2 H3 J3/\Rp K H3 J3 x d
def GoI (K:W.Frag)(wi:TI)(f:FA):Prop:=∀Hz Jz O ρ σ H J ds R,ST K Hz Jz O ρ σ H J->f ρ=some ds->(∀I H' J',Up H J H' J'->Src K I H' J' ds->R I H')->wi σ H R
def VI (X:Cx)(tg iter:Expr)(f:FA):Prop:=∃wi,PI X tg iter wi/\GoI X.K wi f
section
variable {X:Cx}{K:W.Frag}{tg a b:Expr}{fa fb:FE}{fl:FA}{pos p:Pos}
theorem zoa {wi wi':TI}{iter:Expr}(h:PI X tg iter wi)(h':PI X tg iter wi'):PI X tg iter (fun σ H R=>wi σ H R\/wi' σ H R):=by
 intro pins s σ H R I q;rcases q with q | q
 ·exact h pins s σ H R I q
 ·exact h' pins s σ H R I q
def dSeq:D->Option (List D)
 | .lst ds=>some ds
 | .tup ds=>some ds
 | _=>none
def aSeq (f:FE):FA:=fun ρ=>(f ρ).bind dSeq
theorem zbl (h:VE X a fa):VI X tg a (aSeq fa):=by
 obtain⟨t,p,g⟩:=h;refine⟨_,zoa (zko p) (zl7 p),?_⟩;intro Hz Jz O ρ σ H J ds R s e w;obtain⟨x,e1,e⟩:=bind_some e;cases x with
 | lst xs=>
   cases e;refine .inl (g Hz Jz O ρ σ H J _ _ s e1 fun v H1 J1 u1 r1=>?_);cases r1 with
   | lst h j r=>
     refine⟨_,rfl,⟨_,SqL.of h⟩,w _ H1 J1 u1 fun H2 J2 k ja=>?_⟩;have h2:=k.jo _ _ j h
     refine⟨⟨_,SqL.of h2,by rw[r.length];exact wam _⟩,fun i d hd=>?_⟩;obtain⟨v,hv,rv⟩:=r.get hd;refine⟨⟨_,v,SqL.of h2,hv⟩,fun x H3 y=>?_⟩;obtain⟨rfl,y⟩:=y;have e:=y _ (SqL.of h2)
     rw[hv] at e;cases e;exact⟨J2,Up.refl ja,rv.keep k⟩
 | tup xs=>
   cases e;refine .inr (g Hz Jz O ρ σ H J _ _ s e1 fun v H1 J1 u1 r1=>?_);cases r1 with
   | tup h r=>
     refine⟨_,rfl,⟨_,h⟩,w _ H1 J1 u1 fun H2 J2 k ja=>?_⟩;have h2:=k.tp _ _ h
     refine⟨⟨_,h2,by rw[r.length];exact wam _⟩,fun i d hd=>?_⟩;obtain⟨v,hv,rv⟩:=r.get hd;refine⟨⟨_,v,h2,hv⟩,fun x H3 y=>?_⟩;obtain⟨rfl,y⟩:=y;have e:=y _ h2
     rw[hv] at e;cases e;exact⟨J2,Up.refl ja,rv.keep k⟩
 | _=>cases e
def zaF (lo:Int)(n:Nat):List D:=(List.range n).map fun(i:Nat)=>.int (lo+(i:Int))
theorem zhn {H:Hp}{J:Addr->Prop}(lo:Int)(n:Nat):Src K (Itr lo n) H J (zaF lo n):=by
 intro H2 J2 k ja;have hl:(zaF lo n).length=n:=by simp[zaF]
 rw[hl];refine⟨wam _,fun i d hd=>?_⟩;have hi:i<n:=by rw[<-hl];exact(wal.mp hd).1
 refine⟨hi,fun x H3 y=>?_⟩;obtain⟨rfl,rfl⟩:=y;unfold zaF at hd;rw[waw,wcu hi] at hd;cases hd;exact⟨J2,Up.refl ja,.int _⟩
def a1Int:List D->Option Int
 | [.int i]=>some i
 | _=>none
def aRng1 (f:FA):FA:=fun ρ=>(f ρ).bind fun l=>(a1Int l).bind fun j=>if -1000000<=j/\j<=1000000 then some (zaF 0 j.toNat) else none
theorem zch (B:Blt X.mg)(ha:VA X [a] fl)(hg:Gl X "range":=by rfl)(hs:starEach [a] X.env = [(false,eval a X.env)]:=by rfl):VI X tg (.Call (.Name "range" p) [a] [] pos) (aRng1 fl):=by
 obtain⟨t,p,g⟩:=ha;refine⟨_,zgT hg (B.get "range") p hs,?_⟩;intro Hz Jz O ρ σ H J ds R s e w;obtain⟨l,e1,e⟩:=bind_some e;obtain⟨j,e2,e⟩:=bind_some e;by_cases hj:-1000000<=j/\j<=1000000
 ·rw[if_pos hj] at e;cases e;refine g Hz Jz O ρ σ H J _ _ s e1 fun vs H1 J1 u1 r1=>?_
  match l,e2,r1 with
  | [.int i],e2,r1=>
    cases e2;cases r1 with
    | cons h t=>cases t;cases h;exact⟨j,rfl,by omega,by omega,w _ H1 J1 u1 (zhn 0 _)⟩
 ·rw[if_neg hj] at e;cases e
def zeJ (ds:List D):List D:=ds.zipIdx.map fun p=>.tup [.int (p.2:Nat),p.1]
def a1Tup:List D->Option (List D)
 | [.tup ds]=>some ds
 | _=>none
def aEnum (f:FA):FA:=fun ρ=>(f ρ).bind fun l=>(a1Tup l).bind fun ds=>some (zeJ ds)
theorem zeK (ds:List D):(zeJ ds).length=ds.length:=by simp[zeJ]
theorem zho {ds:List D}{i:Nat}{d:D}(h:(zeJ ds)[i]?=some d):∃x,ds[i]?=some x/\d=.tup [.int (i:Nat),x]:=by
 unfold zeJ at h;rw[waw,List.getElem?_zipIdx] at h;cases q:ds[i]? with
 | none=>rw[q] at h;cases h
 | some x=>rw[q] at h;simp at h;exact⟨x,rfl,h.symm⟩
theorem zkP {elts:List Expr}{x1}{tpos:Pos}(B:Blt X.mg)(ha:VA X [a] fl)(hg:Gl X "enumerate":=by rfl)(hs:starEach [a] X.env = [(false,eval a X.env)]:=by rfl):VI X (.Tuple elts x1 tpos) (.Call (.Name "enumerate" p) [a] [] pos) (aEnum fl):=by
 obtain⟨t,p,g⟩:=ha;refine⟨_,zkD hg (B.get "enumerate") p hs,?_⟩;intro Hz Jz O ρ σ H J ds R s e w;obtain⟨l,e1,e⟩:=bind_some e;obtain⟨xs,e2,e⟩:=bind_some e;cases e;refine g Hz Jz O ρ σ H J _ _ s e1 fun vs H1 J1 u1 r1=>?_
 match l,e2,r1 with
 | [.tup _],e2,r1=>
   cases e2;cases r1 with
   | cons h t=>
     cases t;cases h with
     | tup h r=>
       refine⟨_,rfl,⟨_,h⟩,w _ H1 J1 u1 fun H2 J2 k ja=>?_⟩;have h2:=k.tp _ _ h
       refine⟨⟨_,h2,by rw[r.length,zeK];exact wam _⟩,fun i d hd=>?_⟩;obtain⟨x,hx,rfl⟩:=zho hd;obtain⟨v,hv,rv⟩:=r.get hx;refine⟨⟨_,v,h2,hv⟩,fun y H3 hy=>?_⟩;obtain⟨q,hn,rfl,hy⟩:=hy;obtain⟨y,ey,rfl⟩:=hy _ h2;rw[hv] at ey;cases ey;have un:=Up.new ja hn (.tup [.int (i:Nat),v])
       exact⟨J2,un,.tup (SqT.of zaf) (.cons (.int _) (.cons ((rv.keep k).keep un.keep) .nil))⟩
end
abbrev FG:=D->En->Option En
abbrev FGs:=List D->En->Option En
def Only (is:List Nat)(ρ ρ':En):Prop:=ρ'.length=ρ.length/\∀j,j∉is->ρ'[j]?=ρ[j]?
def GoG (K:W.Frag)(g:TG)(is:List Nat)(f:FG):Prop:=(∀d ρ ρ',f d ρ=some ρ'->Only is ρ ρ')/\∀Hz Jz O ρ σ H J v d ρ' Q,ST K Hz Jz O ρ σ H J->Rp K H J v d->f d ρ=some ρ'->(∀σ',ST K Hz Jz O ρ' σ' H J->Q σ' H)->g v σ H Q
def GoGs (K:W.Frag)(g:TGs)(is:List Nat)(f:FGs):Prop:=(∀d ρ ρ',f d ρ=some ρ'->Only is ρ ρ')/\∀Hz Jz O ρ σ H J vs ds ρ' Q,ST K Hz Jz O ρ σ H J->RpL K H J vs ds->f ds ρ=some ρ'->(∀σ',ST K Hz Jz O ρ' σ' H J->Q σ' H)->g vs σ H Q
def VG (X:Cx)(tg:Expr)(is:List Nat)(f:FG):Prop:=∃g,PG X tg g/\GoG X.K g is f
def VGs (X:Cx)(tgs:List Expr)(is:List Nat)(f:FGs):Prop:=∃g,PGs X tgs g/\GoGs X.K g is f
def isPar:Option SV->Bool
 | some (.par _ _)=>true
 | _=>false
theorem zaP {x:Option SV}(h:isPar x=false):∀n d,x≠some (.par n d):=fun n d e=>by rw[e] at h;cases h
def gN (i:Nat):FG:=fun d ρ=>if i<ρ.length/\isPar (ρ[i]?)=false then some (ρ.set i (.val d)) else none
def gNil':FGs:=fun ds ρ=>if ds = [] then some ρ else none
def gCons' (f:FG)(g:FGs):FGs:=fun ds ρ=>match ds with | d::r=>(f d ρ).bind fun ρ1=>g r ρ1 | []=>none
def gT (n:Nat)(f:FGs):FG:=fun d ρ=>match d with | .tup ds=>if ds.length=n then f ds ρ else none | _=>none
theorem zfq {K:W.Frag}{i:Nat}:GoG K (zdq i) [i] (gN i):=by
 refine⟨fun d ρ ρ' h=>?_,fun Hz Jz O ρ σ H J v d ρ' Q s r e w=>?_⟩
 ·unfold gN at h;by_cases hi:i<ρ.length/\isPar (ρ[i]?)=false
  ·rw[if_pos hi] at h;cases h;exact⟨by simp,fun j hj=>wad (fun z=>hj (by simp[z]))⟩
  ·rw[if_neg hi] at h;cases h
 ·unfold gN at e;by_cases hi:i<ρ.length/\isPar (ρ[i]?)=false
  ·rw[if_pos hi] at e;cases e;exact w _ (s.set r hi.1 (zaP hi.2))
  ·rw[if_neg hi] at e;cases e
theorem Only.trans {is js:List Nat}{ρ ρ1 ρ2:En}(a:Only is ρ ρ1)(b:Only js ρ1 ρ2):Only (is++js) ρ ρ2:=⟨b.1.trans a.1,fun j hj=>by
 rw[way] at hj;rw[b.2 j (fun z=>hj (.inr z)),a.2 j (fun z=>hj (.inl z))]⟩
theorem zkQ {K:W.Frag}:GoGs K gNil [] gNil':=by
 refine⟨fun d ρ ρ' h=>?_,fun Hz Jz O ρ σ H J vs ds ρ' Q s r e w=>?_⟩
 ·unfold gNil' at h;by_cases hd:d = []
  ·rw[if_pos hd] at h;cases h;exact⟨rfl,fun _ _=>rfl⟩
  ·rw[if_neg hd] at h;cases h
 ·unfold gNil' at e;by_cases hd:ds = []
  ·rw[if_pos hd] at e;cases e;subst hd;cases r;exact⟨rfl,w _ s⟩
  ·rw[if_neg hd] at e;cases e
theorem ziF {K:W.Frag}{g:TG}{gs:TGs}{is js:List Nat}{f:FG}{fs:FGs}(h1:GoG K g is f)(h2:GoGs K gs js fs):GoGs K (zl5 g gs) (is++js) (gCons' f fs):=by
 refine⟨fun d ρ ρ' h=>?_,fun Hz Jz O ρ σ H J vs ds ρ' Q s r e w=>?_⟩
 ·cases d with
  | nil=>cases h
  | cons d r=>
    obtain⟨ρ1,e1,e2⟩:=bind_some (show((f d ρ).bind fun ρ1=>fs r ρ1)=some ρ' from h);exact(h1.1 _ _ _ e1).trans (h2.1 _ _ _ e2)
 ·cases ds with
  | nil=>cases e
  | cons d ds=>
    obtain⟨ρ1,e1,e2⟩:=bind_some (show((f d ρ).bind fun ρ1=>fs ds ρ1)=some ρ' from e);cases r with
    | cons r1 r2=>
      refine⟨_,_,rfl,h1.2 Hz Jz O ρ σ H J _ d ρ1 _ s r1 e1 fun σ1 s1=>?_⟩;exact h2.2 Hz Jz O ρ1 σ1 H J _ ds ρ' _ s1 r2 e2 w
theorem zkR {K:W.Frag}{n:Nat}{gs:TGs}{is:List Nat}{fs:FGs}(h:GoGs K gs is fs):GoG K (gTup K n gs) is (gT n fs):=by
 refine⟨fun d ρ ρ' e=>?_,fun Hz Jz O ρ σ H J v d ρ' Q s r e w=>?_⟩
 ·cases d with
  | tup ds=>
    have e:(if ds.length=n then fs ds ρ else none)=some ρ':=e
    by_cases hn:ds.length=n
    ·rw[if_pos hn] at e;exact h.1 _ _ _ e
    ·rw[if_neg hn] at e;cases e
  | _=>cases e
 ·cases d with
  | tup ds=>
    have e:(if ds.length=n then fs ds ρ else none)=some ρ':=e
    by_cases hn:ds.length=n
    ·rw[if_pos hn] at e;cases r with
     | tup hq rl=>exact⟨_,_,rfl,hq,by rw[rl.length];exact hn,h.2 Hz Jz O ρ σ H J _ ds ρ' Q s rl e w⟩
    ·rw[if_neg hn] at e;cases e
  | _=>cases e
section
variable {X:Cx}{pos:Pos}
theorem zkS {i:Nat}{x:Str}(hN:X.N.Nodup)(hi:X.N[i]?=some x)(hx:Loc X.env.scope x)(hf:X.fn x=true\/X.env.scope.names.lookup x=some .local:=by first | exact .inl rfl | exact .inr rfl | assumption):VG X (.Name x pos) [i] (gN i):=⟨_,zfj hN hi hx hf,zfq⟩
theorem zdY:VGs X [] [] gNil':=⟨_,zkn,zkQ⟩
theorem zba {e:Expr}{es:List Expr}{is js:List Nat}{f:FG}{fs:FGs}(h1:VG X e is f)(h2:VGs X es js fs)(hs:(assignEach (e::es) X.env).map (·.2)=assign e X.env::(assignEach es X.env).map (·.2):=by rfl):VGs X (e::es) (is++js) (gCons' f fs):=by
 obtain⟨g,p,q⟩:=h1;obtain⟨gs,ps,qs⟩:=h2;exact⟨_,zio p ps hs,ziF q qs⟩
theorem zfY {es:List Expr}{k:Nat}{is:List Nat}{n:Nat}{fs:FGs}(hc:X.calm=true)(h:VGs X es is fs)(hn:(assignEach es X.env).length=n:=by rfl)(hst:(assignEach es X.env).findIdx? (·.1)=none:=by rfl):VG X (.Tuple es k pos) is (gT n fs):=by
 obtain⟨gs,ps,qs⟩:=h;exact⟨_,zl6 hc ps hn hst,zkR qs⟩
theorem vgC (i:Nat){X:Cx}{scope:Scope}{cl:List (Str×Addr)}{NC:List Str}{C:Addr}{s0:Shared}{H0:Hp}{ex:List Addr}{pn:List (Addr×Obj)}{x:Str}{pos:Pos}(nd:NC.Nodup)(hi:NC[i]?=some x)(hx:scope.names.lookup x=some .local):VG (cxC X scope cl NC C s0 H0 ex pn) (.Name x pos) [i] (gN i):=⟨_,pgC i nd hi hx,zfq⟩
end
def TEof (K:W.Frag)(f:FE):TE:=fun σ H Q=>∃Hz Jz O ρ J d,ST K Hz Jz O ρ σ H J/\f ρ=some d/\zfp K H J d Q
def TTof (K:W.Frag)(f:FT):TT:=fun σ H Q=>∃Hz Jz O ρ J b,ST K Hz Jz O ρ σ H J/\f ρ=some b/\zjU H J b Q
def TGof (K:W.Frag)(f:FG):TG:=fun v σ H Q=>∃Hz Jz O ρ J d ρ',ST K Hz Jz O ρ σ H J/\Rp K H J v d/\f d ρ=some ρ'/\∀σ',ST K Hz Jz O ρ' σ' H J->Q σ' H
theorem VE.of {X:Cx}{e:Expr}{f:FE}(h:VE X e f):PE X e (TEof X.K f):=by
 obtain⟨t,p,g⟩:=h;rintro pins s σ H Q I ⟨Hz,Jz,O,ρ,J,d,s1,e1,w⟩;exact p pins s σ H Q I (g Hz Jz O ρ σ H J d Q s1 e1 w)
theorem VG.of {X:Cx}{e:Expr}{is:List Nat}{f:FG}(h:VG X e is f):PG X e (TGof X.K f):=by
 obtain⟨t,p,g⟩:=h;rintro pins s σ H v u Q I r ⟨Hz,Jz,O,ρ,J,d,ρ',s1,r1,e1,w⟩;exact p pins s σ H v u Q I r (g.2 Hz Jz O ρ σ H J v d ρ' Q s1 r1 e1 w)
def zaD (ρ:En)(fr:List (Option Nat)):En:=fr.map fun o=>match o with
 | none=>.un
 | some j=>match ρ[j]? with
   | some (.val d)=>.val d
   | _=>.un
def zcR (f:D->Option (Option D)):List D->Option (List D)
 | []=>some []
 | d::r=>(f d).bind fun o=>(zcR f r).bind fun xs=>some (match o with | some x=>x::xs | none=>xs)
def zbq (ρ:En)(g:FG)(t:FT)(e:FE)(d:D):Option (Option D):=(g d ρ).bind fun ρ1=>(t ρ1).bind fun ok=>if ok then(e ρ1).bind fun x=>some (some x) else some none
def zeL (fr:List (Option Nat))(fi:FA)(g:FG)(t:FT)(e:FE):FA:=fun ρ=>(fi ρ).bind fun ds=>(zcR (zbq (zaD ρ fr) g t e) ds).bind fun out=>if out.length<=lim then some out else none
def tTrue:FT:=fun _=>some true
def VTs (X:Cx)(ifs:List Expr)(f:FT):Prop:=PTs X ifs (TTof X.K f)
theorem zc9 {X:Cx}:VTs X [] tTrue:=by
 rintro pins s σ H Q I ⟨Hz,Jz,O,ρ,J,d,s1,e1,w⟩;cases e1;exact zkB pins s σ H Q I (w H J (Up.refl s1.ja))
theorem ziG (σ:L2.St)(fr:List (Option Nat)):(pick σ fr).length=fr.length:=by simp[pick]
theorem zhp (ρ:En)(fr:List (Option Nat)):(zaD ρ fr).length=fr.length:=by simp[zaD]
section
variable {K:W.Frag}{H H' H1 Hz:Hp}{J J' J1 Jz:Addr->Prop}{ρ:En}{σ:L2.St}
def Pr.blk (O:Pr):Pr:=⟨[],O.fpo⟩
theorem zb6 (ρ:En)(fr:List (Option Nat)):∀i:Nat,ownD ((zaD ρ fr)[i]?)=none:=by
 intro i;unfold zaD;rw[waw];cases q:fr[i]? with
 | none=>rfl
 | some o=>
   cases o with
   | none=>rfl
   | some j=>
     simp only[Option.map_some];cases z:ρ[j]? with
     | none=>rfl
     | some y=>cases y <;> rfl
theorem zhq {x:Option (Option V)}{s:Option SV}{O:List Addr}(h:ownD s=none):OwAt K Hz H J O x [] s:=by
 match s,h with
 | none,_=>rfl
 | some .un,_=>rfl
 | some (.val _),_=>rfl
theorem ST.pick {O:Pr}(s:ST K Hz Jz O ρ σ H J)(fr:List (Option Nat)):ST K Hz Jz O.blk (zaD ρ fr) (pick σ fr) H J where
 same:=s.same
 j0:=s.j0
 jn:=s.jn
 ja:=s.ja
 al:=s.al
 ps:=fun q hq=>absurd hq (by simp[Pr.blk])
 ow:=⟨fun _=>[],fun i=>zhq (zb6 ρ fr i),fun _=>wba,fun _ b hb=>absurd hb (by simp),fun _ _ _ b hb=>absurd hb (by simp)⟩
 len:=by rw[ziG,zhp]
 vl:=fun i d h=>by
  unfold zaD at h;rw[waw] at h;cases q:fr[i]? with
  | none=>rw[q] at h;cases h
  | some o=>
    rw[q] at h;cases o with
    | none=>simp at h
    | some j=>
      simp only[Option.map_some,Option.some.injEq] at h;cases z:ρ[j]? with
      | none=>rw[z] at h;cases h
      | some y=>
        rw[z] at h;cases y with
        | val d'=>
          cases h;obtain⟨v,hv,r⟩:=s.vl j _ z;refine⟨v,?_,r⟩;show(fr.map _)[i]?=_
          rw[waw,q];simp[hv]
        | _=>cases h
theorem zb7 {D:Addr}{ys:List V}{o:HO}(hD:H D=some (.lst ys))(nj:¬J D):Keep K H J (upd H D o) J:=⟨fun _ h=>h,fun p u j h=>by rw[zae (show p≠D from fun z=>nj (z▸j))];exact h,fun p vs h=>by
 rcases h with(h | ⟨u,h⟩) | h
 ·refine .inl (.inl ?_);rw[zae];exact h;rintro rfl;rw[h] at hD;cases hD
 ·refine .inl (.inr ⟨u,?_⟩);rw[zae];exact h;rintro rfl;rw[h] at hD;cases hD
 ·exact .inr h⟩
theorem OwAt.nil {x:Option (Option V)}{A:List Addr}{s:Option SV}{O:List Addr}(h:OwAt K Hz H J O x A s)(n:ownD s=none):A = []:=by
 match s,h,n with
 | none,h,_=>exact h
 | some .un,h,_=>exact h
 | some (.val _),h,_=>exact h
theorem ST.at {O:Pr}{D:Addr}{ys:List V}{o:HO}(s:ST K Hz Jz O ρ σ H J)(no:∀i:Nat,ownD (ρ[i]?)=none)(hD:H D=some (.lst ys))(nj:¬J D)(h0:Hz D=none):ST K Hz Jz O ρ σ (upd H D o) J where
 same:=fun b u hb h=>by rw[zae (show b≠D from fun z=>by rw[z,h0] at h;cases h)];exact s.same b u hb h
 j0:=s.j0
 jn:=s.jn
 ja:=fun a h=>by
  by_cases e:a=D
  ·subst e;rw[zaf];simp
  ·rw[zae e];exact s.ja a h
 al:=fun a h=>by
  by_cases e:a=D
  ·subst e;rw[zaf];simp
  ·rw[zae e];exact s.al a h
 len:=s.len
 vl:=fun i d h=>let ⟨v,e,r⟩:=s.vl i d h;⟨v,e,r.keep (zb7 hD nj)⟩
 ps:=s.ps
 ow:=by
  obtain⟨fp,w⟩:=s.ow;refine⟨fp,fun i=>(w.at' i).keep (zb7 hD nj) fun b hb=>?_,w.nd,w.nj,w.dj⟩;rw[(w.at' i).nil (no i)] at hb;cases hb
theorem Up.at {D:Addr}{ys:List V}{o:HO}(u:Up H1 J1 H J)(h1:H1 D=none):Up H1 J1 (upd H D o) J:=⟨fun b v h=>by rw[zae (show b≠D from fun z=>by rw[z,h1] at h;cases h)];exact u.same b v h,u.jj,u.jn,fun a h=>by
 by_cases e:a=D
 ·subst e;rw[zaf];simp
 ·rw[zae e];exact u.ja a h⟩
end
def apart (is:List Nat)(fr:List (Option Nat)):Bool:=is.all fun i=>fr[i]? == some none
theorem zfr {ρ ρ1:En}{fr:List (Option Nat)}{is:List Nat}(o:Only is (zaD ρ fr) ρ1)(h:apart is fr=true):Weak (zaD ρ fr) ρ1:=by
 refine⟨o.1.symm,fun i=>?_⟩;by_cases hi:i∈is
 ·right
  have q:=waC.mp h i hi
  have q':fr[i]?=some none:=by simpa using q
  unfold zaD;rw[waw,q'];rfl
 ·left;exact(o.2 i hi).symm
theorem ST.free {K:W.Frag}{Hz H H1:Hp}{Jz J J1:Addr->Prop}{O:Pr}{ρ:En}{σ:L2.St}(s:ST K Hz Jz O ρ σ H J)(u:Up H J H1 J1){b:Addr}(h:H1 b=none):Hz b=none:=by
 cases e:Hz b with
 | none=>rfl
 | some o=>exact absurd h ((s.up u).al b (by rw[e];simp))
theorem zfs {K:W.Frag}{fr:List (Option Nat)}{wi:TI}{fi:FA}{g:FG}{is:List Nat}{ft:FT}{fe:FE}(hi:GoI K wi fi)(hon:∀d ρ ρ',g d ρ=some ρ'->Only is ρ ρ')(hap:apart is fr=true) :
 GoN K (zfo fr wi (TGof K g) (TTof K ft) (TEof K fe)) (zeL fr fi g ft fe):=by
 intro Hz Jz O ρ σ H J out Q s e w;obtain⟨ds,e1,e⟩:=bind_some e;obtain⟨out',e2,e⟩:=bind_some e;by_cases hl:out'.length<=lim
 ·rw[if_pos hl] at e;cases e;refine hi Hz Jz O ρ σ H J ds _ s e1 fun I H1 J1 u1 src=>?_
  intro Da hD;have hD0:Hz Da=none:=(s.free (u:=u1) hD)
  have nJ1:¬J1 Da:=fun j=>u1.ja Da j hD
  refine⟨fun i m ys σ2 H2=>m=ds.length - i/\i<=ds.length/\∃J2 dn rs,ST K Hz Jz O.blk (zaD ρ fr) σ2 H2 J2/\Up H1 J1 H2 J2/\¬J2 Da/\Keep K H1 J1 H2 J2/\RpL K H2 J2 ys dn/\out=dn++rs/\zcR (zbq (zaD ρ fr) g ft fe) (ds.drop i)=some rs,⟨ds.length,by simp,wbo _,?_⟩,?_⟩
  ·have un:=Up.new u1.ja hD (.lst [])
   exact⟨J1,[],out,((s.up u1).up un).pick fr,un,nJ1,un.keep,.nil,rfl,by simpa using e2⟩
  ·rintro i m ys σ2 H2 ⟨rfl,hil,J2,dn,rs,s2,u2,nj2,k2,r2,eo,ec⟩ hys;obtain⟨stop,turn⟩:=src H2 J2 k2 s2.ja;by_cases hlt:i<ds.length
   ·right
    have hd:ds[i]?=some ds[i]:=wap hlt
    generalize hdd:ds[i]=d at hd;obtain⟨go,yl⟩:=turn i d hd;have edrop:ds.drop i=d::ds.drop (i+1):=by rw[<-hdd];exact(wby hlt).symm
    rw[edrop] at ec;obtain⟨o,eo1,ec⟩:=bind_some (show((zbq (zaD ρ fr) g ft fe d).bind fun o=>(zcR (zbq (zaD ρ fr) g ft fe) (ds.drop (i+1))).bind fun xs=>some (match o with | some x=>x::xs | none=>xs))=some rs from ec);obtain⟨rs',er,ec⟩:=bind_some ec;obtain⟨ρ1,eg,eo1⟩:=bind_some eo1;obtain⟨ok,et,eo1⟩:=bind_some eo1;refine⟨go,fun zs σ' H'=>∃J2 dn rs,ST K Hz Jz O.blk (zaD ρ fr) σ' H' J2/\Up H1 J1 H' J2/\¬J2 Da/\Keep K H1 J1 H' J2/\RpL K H' J2 zs dn/\out=dn++rs/\zcR (zbq (zaD ρ fr) g ft fe) (ds.drop (i+1))=some rs,fun zs σ' H' h=>⟨ds.length - (i+1),by omega,rfl,hlt,h⟩,fun x H3 y=>?_⟩;obtain⟨J3,u3,r3⟩:=yl x H3 y;have wk:Weak (zaD ρ fr) ρ1:=zfr (hon _ _ _ eg) hap
    refine⟨Hz,Jz,O.blk,zaD ρ fr,J3,d,ρ1,s2.up u3,r3,eg,fun σ4 s4=>?_⟩;refine⟨Hz,Jz,O.blk,ρ1,J3,ok,s4,et,fun H5 J5 u5=>?_⟩;have s5:=s4.up u5
    have u25:=u3.trans u5
    have nj5:¬J5 Da:=fun j=>by
     rcases u25.jn Da j with j | j
     ·exact nj2 j
     ·rw[hys] at j;cases j
    have hy5:H5 Da=some (.lst ys):=u25.same _ _ hys
    refine⟨fun hok=>?_,fun hok=>?_⟩
    ·subst hok;rw[if_pos rfl] at eo1;obtain⟨xd,ex,eo1⟩:=bind_some eo1;cases eo1;cases ec;refine⟨Hz,Jz,O.blk,ρ1,J5,xd,s5,ex,fun v H6 J6 u6 r6=>?_⟩;have u26:=u25.trans u6
     have nj6:¬J6 Da:=fun j=>by
      rcases u6.jn Da j with j | j
      ·exact nj5 j
      ·rw[hy5] at j;cases j
     have hy6:H6 Da=some (.lst ys):=u6.same _ _ hy5
     have kA:Keep K H6 J6 (upd H6 Da (.lst (ys++[v]))) J6:=zb7 hy6 nj6
     refine⟨hy6,?_,J6,dn++[xd],rs',?_,(u2.trans u26).at (ys:=ys) hD,nj6,(k2.trans u26.keep).trans kA,((r2.keep u26.keep).append (.cons r6 .nil)).keep kA,by rw[eo];simp,er⟩
     ·have:(dn++xd::rs').length<=lim:=by rw[<-eo];exact hl
      rw[wat,waV] at this;rw[r2.length];exact wah (by omega:dn.length<lim) (wbg zeG)
     ·exact((s5.up u6).weak wk rfl).at (zb6 ρ fr) hy6 nj6 hD0
    ·subst hok;rw[if_neg (by simp)] at eo1;cases eo1;cases ec;exact⟨hy5,J5,dn,rs',s5.weak wk rfl,u2.trans u25,nj5,k2.trans u25.keep,r2.keep u25.keep,eo,er⟩
   ·left
    have hi':i=ds.length:=by omega
    subst hi';rw[wck] at ec;cases ec;refine⟨stop,?_⟩;rw[waF] at eo;subst eo;exact w Da ys H2 J2 (u1.trans u2) (u1.same.free hD) nj2 hys r2
 ·rw[if_neg hl] at e;cases e
theorem ziH (N:List Str)(st:Stmt){X:Cx}{elt iter tg:Expr}{ifs:List Expr}{scope:Scope}{pos:Pos}{NC:List Str}(fr:List (Option Nat)){fi:FA}{g:FG}{is:List Nat}{ft:FT}{fe:FE}{RR:Hp->Prop}(hRR:∀pins σ H s,Inv X pins σ H s->RR H)(hcalm:X.calm=true)(hi:VI X tg iter fi)
 (hcells:∀x,X.env.scope.names.lookup x=some .cell->∃c,X.env.cells.lookup x=some c) (hfk:X.env.scope.kind=.function) (hN:X.N=N) (hsc:X.env.scope.names=(zab st).names)
 (hfree':∀y∈scope.names,y.2=.free->(zab st).names.lookup y.1=some .cell) (hcell:∀y∈scope.names,y.2≠.cell) (hkind:scope.kind=.function) (hnames:∀y∈scope.names,y.2=.local->scope.names.lookup y.1=some .local)
 (hfr':zcg N (zab st).names scope.names NC fr=true) (hlen:fr.length=NC.length) (hap:apart is fr=true)
 (hg:∀cl C s0 H0 ex pn,VG (cxC X scope cl NC C s0 H0 ex pn) tg is g) (ht:∀cl C s0 H0 ex pn,VTs (cxC X scope cl NC C s0 H0 ex pn) ifs ft) (he:∀cl C s0 H0 ex pn,RR H0->VE (cxC X scope cl NC C s0 H0 ex pn) elt fe)
 (hs:∀x,foldedSetIterable iter X.env x=pure x:=by intro _;rfl):VN X (.ListComp elt [⟨tg,iter,ifs,0⟩] scope pos) (zeL fr fi g ft fe):=by
 obtain⟨wi,pi,gi⟩:=hi;obtain⟨_,_,hon,_⟩:=hg [] 0 X.s₀ X.Hz [] [];exact⟨_,zhi N st fr hRR hcalm pi hcells hfk hN hsc hfree' hcell hkind hnames hfr' hlen (fun cl C s0 H0 ex pn=>(hg cl C s0 H0 ex pn).of) (fun cl C s0 H0 ex pn=>show PTs (cxC X scope cl NC C s0 H0 ex pn) ifs (TTof X.K ft) from ht cl C s0 H0 ex pn) (fun cl C s0 H0 ex pn r=>(he cl C s0 H0 ex pn r).of) hs,zfs gi hon hap⟩
theorem zkT (N:List Str)(st:Stmt){X:Cx}{elt iter tg:Expr}{ifs:List Expr}{scope:Scope}{pos:Pos}{NC:List Str}(fr:List (Option Nat)){fi:FA}{g:FG}{is:List Nat}{ft:FT}{fe:FE}(hcalm:X.calm=true)(hi:VI X tg iter fi)
 (hcells:∀x,X.env.scope.names.lookup x=some .cell->∃c,X.env.cells.lookup x=some c) (hfk:X.env.scope.kind=.function) (hN:X.N=N) (hsc:X.env.scope.names=(zab st).names)
 (hfree':∀y∈scope.names,y.2=.free->(zab st).names.lookup y.1=some .cell) (hcell:∀y∈scope.names,y.2≠.cell) (hkind:scope.kind=.function) (hnames:∀y∈scope.names,y.2=.local->scope.names.lookup y.1=some .local)
 (hfr':zcg N (zab st).names scope.names NC fr=true) (hlen:fr.length=NC.length) (hap:apart is fr=true)
 (hg:∀cl C s0 H0 ex pn,VG (cxC X scope cl NC C s0 H0 ex pn) tg is g) (ht:∀cl C s0 H0 ex pn,VTs (cxC X scope cl NC C s0 H0 ex pn) ifs ft) (he:∀cl C s0 H0 ex pn,VE (cxC X scope cl NC C s0 H0 ex pn) elt fe)
 (hs:∀x,foldedSetIterable iter X.env x=pure x:=by intro _;rfl):VN X (.ListComp elt [⟨tg,iter,ifs,0⟩] scope pos) (zeL fr fi g ft fe):=
 ziH (RR:=fun _=>True) N st fr (fun _ _ _ _ _=>trivial) hcalm hi hcells hfk hN hsc hfree' hcell hkind hnames hfr' hlen hap hg ht (fun cl C s0 H0 ex pn _=>he cl C s0 H0 ex pn) hs
inductive RV where
 | told (d:D) | new (n:Nat) (d:D)
inductive Out where
 | nx (ρ:En) | ret (r:RV) (ρ:En) | bk (ρ:En) | ct (ρ:En)
abbrev FS:=En->Option Out
def RtAt (K:W.Frag)(Hz:Hp)(O:Pr)(ρ:En)(σ:L2.St)(H:Hp)(J:Addr->Prop)(v:V):RV->Prop
 | .told d=>Rp K H J v d
 | .new n d=>∃A fp,Ow K Hz O ρ σ H J fp/\RpU K H J n v d A/\A.Nodup/\(∀b∈A,¬J b/\Hz b=none)/\∀i:Nat,∀b∈A,b∉fp i
def Fits (K:W.Frag)(Hz:Hp)(Jz:Addr->Prop)(O:Pr)(H:Hp)(J:Addr->Prop)(E:Ends):Out->Prop
 | .nx ρ'=>∀σ' H' J',ST K Hz Jz O ρ' σ' H' J'->Keep K H J H' J'->E.nx σ' H'
 | .bk ρ'=>∀σ' H' J',ST K Hz Jz O ρ' σ' H' J'->Keep K H J H' J'->E.bk σ' H'
 | .ct ρ'=>∀σ' H' J',ST K Hz Jz O ρ' σ' H' J'->Keep K H J H' J'->E.ct σ' H'
 | .ret r ρ'=>∀v σ' H' J',ST K Hz Jz O ρ' σ' H' J'->RtAt K Hz O ρ' σ' H' J' v r->E.rt v H'
theorem Fits.keep {K:W.Frag}{Hz:Hp}{Jz:Addr->Prop}{O:Pr}{H H1:Hp}{J J1:Addr->Prop}{E:Ends}(k:Keep K H J H1 J1):∀{o:Out},Fits K Hz Jz O H J E o->Fits K Hz Jz O H1 J1 E o
 | .nx _,h=>fun σ' H' J' s q=>h σ' H' J' s (k.trans q)
 | .bk _,h=>fun σ' H' J' s q=>h σ' H' J' s (k.trans q)
 | .ct _,h=>fun σ' H' J' s q=>h σ' H' J' s (k.trans q)
 | .ret _ _,h=>h
def GoS (K:W.Frag)(t:TS)(g:FS):Prop:=∀Hz Jz O ρ σ H J o E,ST K Hz Jz O ρ σ H J->g ρ=some o->Fits K Hz Jz O H J E o->t E σ H
def VS (X:Cx)(st:Stmt)(g:FS):Prop:=∃t,PS X st t/\GoS X.K t g
def VSs (X:Cx)(sts:List Stmt)(g:FS):Prop:=∃t,PSs X sts t/\GoS X.K t g
def gSeq (a b:FS):FS:=fun ρ=>(a ρ).bind fun o=>match o with
 | .nx ρ'=>b ρ'
 | .bk ρ'=>some (.bk ρ')
 | .ct ρ'=>some (.ct ρ')
 | .ret d ρ'=>some (.ret d ρ')
def gNx:FS:=fun ρ=>some (.nx ρ)
theorem RpL.one {K:W.Frag}{H:Hp}{J:Addr->Prop}{vs:List V}{d:D}(r:RpL K H J vs [d]):∃v,vs = [v]/\Rp K H J v d:=by
 cases r with
 | cons h t=>cases t;exact⟨_,rfl,h⟩
section
variable {X:Cx}{K:W.Frag}{st:Stmt}{sts:List Stmt}{g g2:FS}{pos:Pos}{e a:Expr}{fa:FE}{fl:FA}{ft:FT}
theorem zao:VSs X [] gNx:=⟨_,zgO,fun Hz Jz O ρ σ H J o E s e w=>by cases e;exact w σ H J s Keep.refl⟩
theorem zmI {t u:TS}(h1:GoS K t g)(h2:GoS K u g2):GoS K (tSeq t u) (gSeq g g2):=by
 intro Hz Jz O ρ σ H J o E s e w;obtain⟨o1,e1,e⟩:=bind_some e;refine h1 Hz Jz O ρ σ H J o1 _ s e1 ?_;cases o1 with
 | nx ρ'=>exact fun σ' H' J' s' k=>h2 Hz Jz O ρ' σ' H' J' o E s' e (w.keep k)
 | bk ρ'=>cases e;exact w
 | ct ρ'=>cases e;exact w
 | ret d ρ'=>cases e;exact w
theorem zad (h1:VS X st g)(h2:VSs X sts g2):VSs X (st::sts) (gSeq g g2):=by
 obtain⟨t,p,q⟩:=h1;obtain⟨u,p2,q2⟩:=h2;exact⟨_,zdP p p2,zmI q q2⟩
theorem zan (h:VS X st g):VSs X [st] g:=let ⟨t,p,q⟩:=h;⟨t,zgP p,q⟩
def frzE (i:Nat)(ρ:En):En:=match ρ[i]? with
 | some (.own _ d)=>ρ.set i (.val d)
 | _=>ρ
theorem zdZ (i:Nat)(h:VSs X sts g):VSs X sts (fun ρ=>g (frzE i ρ)):=by
 obtain⟨t,p,q⟩:=h;refine⟨t,p,fun Hz Jz O ρ σ H J o E s e w=>?_⟩;have e:g (frzE i ρ)=some o:=e
 unfold frzE at e;cases z:ρ[i]? with
 | none=>rw[z] at e;exact q Hz Jz O ρ σ H J o E s e w
 | some x=>
   rw[z] at e;cases x with
   | own n d=>
     obtain⟨J',s',k⟩:=s.frz z;exact q Hz Jz O _ σ H J' o E s' e (w.keep k)
   | _=>exact q Hz Jz O ρ σ H J o E s e w
def gNo:FS:=fun _=>none
theorem zfZ:VS X st gNo:=⟨_,zfH,fun Hz Jz O ρ σ H J o E s e w=>by cases e⟩
def gRet (f:FE):FS:=fun ρ=>(f ρ).bind fun d=>some (.ret (.told d) ρ)
theorem zaG (h:VE X e fa):VS X (.Return (some e) pos) (gRet fa):=by
 obtain⟨t,p,q⟩:=h;refine⟨_,zgQ p,fun Hz Jz O ρ σ H J o E s e w=>?_⟩;obtain⟨d,e1,e⟩:=bind_some e;cases e;exact q Hz Jz O ρ σ H J d _ s e1 fun v H' J' u r=>w v σ H' J' (s.up u) r
def gEx (f:FE):FS:=fun ρ=>(f ρ).bind fun _=>some (.nx ρ)
def gIf (c:FT)(a b:FS):FS:=fun ρ=>(c ρ).bind fun k=>if k then a ρ else b ρ
theorem zds {c:Expr}{bs os:List Stmt}(hc:VT X c ft)(ha:VSs X bs g)(hb:VSs X os g2):VS X (.If c bs os pos) (gIf ft g g2):=by
 obtain⟨tc,pc,qc⟩:=hc;obtain⟨t,p,q⟩:=ha;obtain⟨u,p2,q2⟩:=hb;refine⟨_,zl4 pc p p2,fun Hz Jz O ρ σ H J o E s e w=>?_⟩;obtain⟨k,e1,e⟩:=bind_some e;refine qc Hz Jz O ρ σ H J k _ s e1 fun H1 J1 u1=>?_
 cases k with
 | true=>exact iteT (q Hz Jz O ρ σ H1 J1 o E (s.up u1) e (w.keep u1.keep))
 | false=>exact iteF (q2 Hz Jz O ρ σ H1 J1 o E (s.up u1) e (w.keep u1.keep))
def gSet (i:Nat)(f:FE):FS:=fun ρ=>(f ρ).bind fun d=>if i<ρ.length/\isPar (ρ[i]?)=false then some (.nx (ρ.set i (.val d))) else none
theorem zjY {i:Nat}{t:TE}(q:GoE K t fa):GoS K (tAsg t (zdq i)) (gSet i fa):=by
 intro Hz Jz O ρ σ H J o E s e w;obtain⟨d,e1,e⟩:=bind_some e;by_cases hi:i<ρ.length/\isPar (ρ[i]?)=false
 ·rw[if_pos hi] at e;cases e;exact q Hz Jz O ρ σ H J d _ s e1 fun v H' J' u r=>w _ H' J' ((s.up u).set r hi.1 (zaP hi.2)) u.keep
 ·rw[if_neg hi] at e;cases e
theorem zmJ {i:Nat}{x:Str}{pos':Pos}(hN:X.N.Nodup)(hi:X.N[i]?=some x)(hx:Loc X.env.scope x)(h:VE X e fa)(hs:swapsWith e (some (.Name x pos')) pos.line X.env=pure false:=by rfl)(hf:X.fn x=true\/X.env.scope.names.lookup x=some .local:=by first | exact .inl rfl | exact .inr rfl | assumption) :
 VS X (.Assign [.Name x pos'] e pos) (gSet i fa):=by
 obtain⟨t,p,q⟩:=h;exact⟨_,zeu hN hi hx p hs hf,zjY q⟩
def gOwn (i:Nat)(f:FA):FS:=fun ρ=>(f ρ).bind fun ds=>if i<ρ.length/\isPar (ρ[i]?)=false then some (.nx (ρ.set i (.own 1 (.lst ds)))) else none
theorem zjZ {i:Nat}{t:TE}(q:GoN K t fl):GoS K (tAsg t (zdq i)) (gOwn i fl):=by
 intro Hz Jz O ρ σ H J o E s e w;obtain⟨ds,e1,e⟩:=bind_some e;by_cases hi:i<ρ.length/\isPar (ρ[i]?)=false
 ·rw[if_pos hi] at e;cases e;refine q Hz Jz O ρ σ H J ds _ s e1 fun p vs H' J' u hp nj h' r=>w _ H' J' (s.setOwn (A:=[p]) u (fun b hb=>by rw[wak.mp hb];exact hp) (.lst h' (RpUL.of r)) (by simp) (fun b hb=>by rw[wak.mp hb];exact nj) hi.1 (zaP hi.2)) u.keep
 ·rw[if_neg hi] at e;cases e
def gRetN (f:FA):FS:=fun ρ=>(f ρ).bind fun ds=>some (.ret (.new 1 (.lst ds)) ρ)
theorem zda (h:VN X e fl):VS X (.Return (some e) pos) (gRetN fl):=by
 obtain⟨t,p,q⟩:=h;refine⟨_,zgQ p,fun Hz Jz O ρ σ H J o E s e w=>?_⟩;obtain⟨ds,e1,e⟩:=bind_some e;cases e;refine q Hz Jz O ρ σ H J ds _ s e1 fun p vs H' J' u hp nj h' r=>?_
 obtain⟨fp,ow⟩:=(s.up u).ow;obtain⟨fp0,ow0⟩:=s.ow;have s':=s.up u
 refine w _ σ H' J' s' ⟨[p],fp0,⟨fun i=>(ow0.at' i).keep u.keep fun b _=>u.same b,ow0.nd,fun i b hb jb=>?_,ow0.dj⟩,.lst h' (RpUL.of r),by simp,fun b hb=>?_,fun i b hb hb2=>?_⟩
 ·rcases u.jn b jb with jb | jb
  ·exact ow0.nj i b hb jb
  ·obtain⟨o,e,_⟩:=(ow0.at' i).ru b hb;rw[e] at jb;cases jb
 ·rw[wak.mp hb];refine⟨nj,?_⟩;cases e:Hz p with
  | none=>rfl
  | some o=>exact absurd hp (s.al p (by rw[e];simp))
 ·rw[wak.mp hb] at hb2;obtain⟨o,e,_⟩:=(ow0.at' i).ru p hb2;rw[hp] at e;cases e
theorem zmK {i:Nat}{x:Str}{pos':Pos}(hN:X.N.Nodup)(hi:X.N[i]?=some x)(hx:Loc X.env.scope x)(h:VN X e fl)(hs:swapsWith e (some (.Name x pos')) pos.line X.env=pure false:=by rfl)(hf:X.fn x=true\/X.env.scope.names.lookup x=some .local:=by first | exact .inl rfl | exact .inr rfl | assumption) :
 VS X (.Assign [.Name x pos'] e pos) (gOwn i fl):=by
 obtain⟨t,p,q⟩:=h;exact⟨_,zeu hN hi hx p hs hf,zjZ q⟩
def gAsg (f:FE)(g:FG):FS:=fun ρ=>(f ρ).bind fun d=>(g d ρ).bind fun ρ'=>some (.nx ρ')
def setO (ρ:En)(i:Nat)(d:D):En:=ρ.set i (putD (ρ[i]?) d)
theorem ST.top {Hz H H':Hp}{Jz J:Addr->Prop}{O:Pr}{ρ:En}{σ:L2.St}{i:Nat}{ds es:List D}(s:ST K Hz Jz O ρ σ H J)(h0:ownD (ρ[i]?)=some (1,.lst ds)):∃a vs,σ[i]?=some (some (.ref a))/\H a=some (.lst vs)/\RpL K H J vs ds/\
 ∀(us:List V) (es:List D),RpL K H J us es->ST K Hz Jz O (setO ρ i (.lst es)) σ (upd H a (.lst us)) J/\Keep K H J (upd H a (.lst us)) J:=by
 obtain⟨v,A,hv,r,nd,nj,go⟩:=s.chg h0;obtain⟨a,vs,rfl,rfl,ha,rl⟩:=r.one;refine⟨a,vs,hv,ha,rl,fun us es re=>?_⟩;have nja:¬J a:=nj a (by simp)
 have kp:Keep K H J (upd H a (.lst us)) J:=zb7 ha nja
 refine go (upd H a (.lst us)) J (.lst es) [a] (fun b o hb h=>?_) (fun b h=>?_) (fun _ h=>h) (fun _ h=>.inl h) (fun b h=>?_) (.lst zaf (RpUL.of (re.keep kp))) (by simp) nj (fun b hb=>.inl hb)
 ·rw[zae (fun z=>hb (by simp[z]))];exact h
 ·by_cases e:b=a
  ·subst e;rw[zaf];simp
  ·rw[zae e];exact h
 ·by_cases e:b=a
  ·subst e;rw[zaf];simp
  ·rw[zae e];exact s.ja b h
def gApp (i:Nat)(f:FE):FS:=fun ρ=>(f ρ).bind fun d=>match ownD (ρ[i]?) with
 | some (1,.lst ds)=>if ds.length<lim then some (.nx (setO ρ i (.lst (ds++[d])))) else none
 | _=>none
theorem zmL {i:Nat}{t:TA}(q:GoA K t fl)(f:FE)(hf:∀ρ d,f ρ=some d->fl ρ=some [d]):GoS K (zkm (tBM K "list" zfl (tVar i) t)) (gApp i f):=by
 intro Hz Jz O ρ σ H J o E s e w;obtain⟨d,e1,e⟩:=bind_some e;split at e
 ·rename_i ds z
  by_cases hl:ds.length<lim
  ·rw[if_pos hl] at e;cases e;obtain⟨a,vs,ha,hv,_,_⟩:=s.top (H':=H) (es:=[]) z;refine⟨.ref a,ha,.inl ⟨rfl,vs,SqL.of hv⟩,q Hz Jz O ρ σ H J [d] _ s (hf ρ d e1) fun ws H1 J1 u1 r1=>?_⟩;obtain⟨v,rfl,rv⟩:=r1.one;obtain⟨a',vs',ha',hv',rl,go⟩:=(s.up u1).top (H':=H) (es:=[]) z;rw[ha] at ha';cases ha';refine⟨a,vs',v,rfl,rfl,hv',by rw[rl.length];exact wah hl (wbg zeG),?_⟩;obtain⟨s2,k2⟩:=go (vs'++[v]) (ds++[d]) (rl.append (.cons rv .nil));exact w σ _ J1 s2 (u1.keep.trans k2)
  ·rw[if_neg hl] at e;cases e
 ·cases e
theorem zdA (i:Nat){x:Str}{xp apos cpos:Pos}(h:VE X e fa)(hN:X.N[i]?=some x:=by rfl)(hv:Vis X.env.scope x:=by first | exact Or.inl rfl | exact Or.inr (Or.inl rfl) | exact Or.inr (Or.inr rfl))(hd:(x == ("__debug__" : Str))=false:=by decide)
 (hcd:(x == ("__classdict__" : Str))=false:=by decide) (h1:starEach [e] X.env=(false,eval e X.env)::starEach [] X.env:=by rfl)
 (hbase:attributeBase (.Name x xp) "append" X.env (eval (.Name x xp) X.env)=eval (.Name x xp) X.env:=by rfl)
 (hfew:((backTo cpos (starEach [e] X.env)).all (fun x=>!x.1)&&(backToKw cpos (keywordEach [] X.env)).all (fun x=>x.1.isSome)
  && decide ([e].length+([]:List Keyword).length+(if([]:List Keyword).isEmpty then 0 else 1)<30))=true:=by rfl)
 (hline:(apos.endLine == cpos.line)=true:=by rfl) (hs:starEach [e] X.env = [(false,eval e X.env)]:=by rfl) (hsw:swapsWith (.Call (.Attribute (.Name x xp) "append" apos) [e] [] cpos) none pos.line X.env=pure false:=by rfl) :
 VS X (.Expr (.Call (.Attribute (.Name x xp) "append" apos) [e] [] cpos) pos) (gApp i fa):=by
 obtain⟨t,p,q⟩:=zac h zah h1;refine⟨_,zfi (papp (zcb hN hv hd hcd) p hbase hfew hline hs) hsw,zmL q fa fun ρ d e=>?_⟩;show((fa ρ).bind fun x=>(aNil ρ).bind fun xs=>some (x::xs))=some [d]
 rw[e];rfl
def gExt (i:Nat)(f:FE):FS:=fun ρ=>(f ρ).bind fun d=>match d,ownD (ρ[i]?) with
 | .lst es,some (1,.lst ds)=>if(ds++es).length<=lim then some (.nx (setO ρ i (.lst (ds++es)))) else none
 | _,_=>none
theorem zmM {i:Nat}{t:TA}(q:GoA K t fl)(f:FE)(hf:∀ρ d,f ρ=some d->fl ρ=some [d]):GoS K (zkm (tBM K "list" zg6 (tVar i) t)) (gExt i f):=by
 intro Hz Jz O ρ σ H J o E s e w;obtain⟨d,e1,e⟩:=bind_some e;split at e
 ·rename_i es ds z
  by_cases hl:(ds++es).length<=lim
  ·rw[if_pos hl] at e;cases e;obtain⟨a,vs,ha,hv,_,_⟩:=s.top (H':=H) (es:=[]) z;refine⟨.ref a,ha,.inl ⟨rfl,vs,SqL.of hv⟩,q Hz Jz O ρ σ H J [.lst es] _ s (hf ρ _ e1) fun ws H1 J1 u1 r1=>?_⟩;obtain⟨v,rfl,rv⟩:=r1.one;obtain⟨b,us,rfl,hb,rb⟩:=RpW.lst (.inl rv);obtain⟨a',vs',ha',hv',rl,go⟩:=(s.up u1).top (H':=H) (es:=[]) z;rw[ha] at ha';cases ha';refine⟨a,b,vs',us,rfl,rfl,hv',hb,by rw[rl.length,rb.length,<-wat];exact zbk hl,?_⟩;obtain⟨s2,k2⟩:=go (vs'++us) (ds++es) (rl.append rb);exact w σ _ J1 s2 (u1.keep.trans k2)
  ·rw[if_neg hl] at e;cases e
 ·cases e
theorem zj0 (i:Nat){x:Str}{xp apos cpos:Pos}(h:VE X e fa)(hN:X.N[i]?=some x:=by rfl)(hv:Vis X.env.scope x:=by first | exact Or.inl rfl | exact Or.inr (Or.inl rfl) | exact Or.inr (Or.inr rfl))(hd:(x == ("__debug__" : Str))=false:=by decide)
 (hcd:(x == ("__classdict__" : Str))=false:=by decide) (h1:starEach [e] X.env=(false,eval e X.env)::starEach [] X.env:=by rfl)
 (hbase:attributeBase (.Name x xp) "extend" X.env (eval (.Name x xp) X.env)=eval (.Name x xp) X.env:=by rfl)
 (hfew:((backTo cpos (starEach [e] X.env)).all (fun x=>!x.1)&&(backToKw cpos (keywordEach [] X.env)).all (fun x=>x.1.isSome)
  && decide ([e].length+([]:List Keyword).length+(if([]:List Keyword).isEmpty then 0 else 1)<30))=true:=by rfl)
 (hline:(apos.endLine == cpos.line)=true:=by rfl) (hs:starEach [e] X.env = [(false,eval e X.env)]:=by rfl) (hsw:swapsWith (.Call (.Attribute (.Name x xp) "extend" apos) [e] [] cpos) none pos.line X.env=pure false:=by rfl) :
 VS X (.Expr (.Call (.Attribute (.Name x xp) "extend" apos) [e] [] cpos) pos) (gExt i fa):=by
 obtain⟨t,p,q⟩:=zac h zah h1;refine⟨_,zfi (zmj PySem.F.plainAttrs_list PySem.F.slot_list_extend PySem.F.type_list_extend zg7 (zcb hN hv hd hcd) p hbase hfew hline hs rfl) hsw,zmM q fa fun ρ d e=>?_⟩;show((fa ρ).bind fun x=>(aNil ρ).bind fun xs=>some (x::xs))=some [d]
 rw[e];rfl
end
def forL (tg:FG)(b:FS):List D->En->Option Out
 | [],ρ=>some (.nx ρ)
 | d::r,ρ=>(tg d ρ).bind fun ρ1=>(b ρ1).bind fun o=>match o with
   | .nx ρ2=>forL tg b r ρ2
   | .ct ρ2=>forL tg b r ρ2
   | .bk ρ2=>some (.nx ρ2)
   | .ret d ρ2=>some (.ret d ρ2)
def gFor (fi:FA)(tg:FG)(b:FS):FS:=fun ρ=>(fi ρ).bind fun ds=>forL tg b ds ρ
section
variable {X:Cx}{K:W.Frag}{fi:FA}{g:FS}{pos:Pos}{ft:FT}
theorem zmN {wi:TI}{tb:TS}{tg:TG}{fg:FG}{is:List Nat}(hi:GoI K wi fi)(hg:GoG K tg is fg)(hb:GoS K tb g):GoS K (tFor wi tg tb) (gFor fi fg g):=by
 intro Hz Jz O ρ σ H J o E s e w;obtain⟨ds,e1,e⟩:=bind_some e;refine hi Hz Jz O ρ σ H J ds _ s e1 fun I H1 J1 u1 src=>?_
 refine⟨fun i m σ' H'=>m=ds.length - i/\i<=ds.length/\∃ρ' J',ST K Hz Jz O ρ' σ' H' J'/\Keep K H1 J1 H' J'/\forL fg g (ds.drop i) ρ'=some o,⟨ds.length,by simp,wbo _,ρ,J1,s.up u1,Keep.refl,by simpa using e⟩,?_⟩;rintro i m σ2 H2 ⟨rfl,hil,ρ2,J2,s2,k2,e2⟩;obtain⟨stop,turn⟩:=src H2 J2 k2 s2.ja;by_cases hlt:i<ds.length
 ·right
  have hd:ds[i]?=some ds[i]:=wap hlt
  generalize hdd:ds[i]=d at hd;obtain⟨go,yl⟩:=turn i d hd;have edrop:ds.drop i=d::ds.drop (i+1):=by rw[<-hdd];exact(wby hlt).symm
  rw[edrop] at e2;unfold forL at e2;obtain⟨ρ3,eg,e2⟩:=bind_some e2;obtain⟨ob,eb,e2⟩:=bind_some e2;refine⟨go,fun σ' H'=>∃ρ' J',ST K Hz Jz O ρ' σ' H' J'/\Keep K H1 J1 H' J'/\forL fg g (ds.drop (i+1)) ρ'=some o,fun σ' H' h=>⟨ds.length - (i+1),by omega,rfl,hlt,h⟩,fun x H3 y=>?_⟩;obtain⟨J3,u3,r3⟩:=yl x H3 y;refine hg.2 Hz Jz O ρ2 σ2 H3 J3 x d ρ3 _ (s2.up u3) r3 eg fun σ4 s4=>?_
  refine hb Hz Jz O ρ3 σ4 H3 J3 ob _ s4 eb ?_;have k3:=k2.trans u3.keep
  cases ob with
  | nx ρ5=>exact fun σ5 H5 J5 s5 k5=>⟨ρ5,J5,s5,k3.trans k5,e2⟩
  | ct ρ5=>exact fun σ5 H5 J5 s5 k5=>⟨ρ5,J5,s5,k3.trans k5,e2⟩
  | bk ρ5=>cases e2;exact fun σ5 H5 J5 s5 k5=>w σ5 H5 J5 s5 ((u1.keep.trans k3).trans k5)
  | ret d ρ5=>cases e2;exact w
 ·left
  have hi':i=ds.length:=by omega
  subst hi';rw[wck] at e2;cases e2;exact⟨stop,w σ2 H2 J2 s2 (u1.keep.trans k2)⟩
theorem zbC {tg iter:Expr}{body:List Stmt}{is:List Nat}{fg:FG}(hi:VI X tg iter fi)(hg:VG X tg is fg)(hb:VSs X body g)(hp:PassesOwn (model X.prog X.w) X.A X.env X.xe:=by exact PassesOwn.never)(hc:X.calm=true:=by rfl)
 (hs:∀x,foldedSetIterable iter X.env x=pure x:=by intro _;rfl):VS X (.For tg iter body [] pos) (gFor fi fg g):=by
 obtain⟨wi,p1,q1⟩:=hi;obtain⟨t,p2,q2⟩:=hg;obtain⟨tb,p3,q3⟩:=hb;exact⟨_,zjN hp hc p1 p2 p3 hs,zmN q1 q2 q3⟩
end
theorem ziI (N:List Str)(st:Stmt){X:Cx}{i:Nat}{x:Str}{elt iter tg:Expr}{ifs:List Expr}{scope:Scope}{pos pos' cp:Pos}{NC:List Str}(fr:List (Option Nat)){fi:FA}{g:FG}{is:List Nat}{ft:FT}{fe:FE}(hND:X.N.Nodup)(hix:X.N[i]?=some x)(hx:Loc X.env.scope x){RR:Hp->Prop}(hRR:∀pins σ H s,Inv X pins σ H s->RR H)(hcalm:X.calm=true)(hi:VI X tg iter fi)
 (hcells:∀x,X.env.scope.names.lookup x=some .cell->∃c,X.env.cells.lookup x=some c) (hfk:X.env.scope.kind=.function) (hN:X.N=N) (hsc:X.env.scope.names=(zab st).names)
 (hfree':∀y∈scope.names,y.2=.free->(zab st).names.lookup y.1=some .cell) (hcell:∀y∈scope.names,y.2≠.cell) (hkind:scope.kind=.function) (hnames:∀y∈scope.names,y.2=.local->scope.names.lookup y.1=some .local)
 (hfr':zcg N (zab st).names scope.names NC fr=true) (hlen:fr.length=NC.length) (hap:apart is fr=true)
 (hg:∀cl C s0 H0 ex pn,VG (cxC X scope cl NC C s0 H0 ex pn) tg is g) (ht:∀cl C s0 H0 ex pn,VTs (cxC X scope cl NC C s0 H0 ex pn) ifs ft) (he:∀cl C s0 H0 ex pn,RR H0->VE (cxC X scope cl NC C s0 H0 ex pn) elt fe)
 (hs:∀x,foldedSetIterable iter X.env x=pure x:=by intro _;rfl) (hsw:swapsWith (.ListComp elt [⟨tg,iter,ifs,0⟩] scope cp) (some (.Name x pos')) pos.line X.env=pure true:=by rfl)
 (hf:X.fn x=true\/X.env.scope.names.lookup x=some .local:=by first | exact .inl rfl | exact .inr rfl | assumption) :
 VS X (.Assign [.Name x pos'] (.ListComp elt [⟨tg,iter,ifs,0⟩] scope cp) pos) (gSet i (eL (zeL fr fi g ft fe)))/\VS X (.Assign [.Name x pos'] (.ListComp elt [⟨tg,iter,ifs,0⟩] scope cp) pos) (gOwn i (zeL fr fi g ft fe)):=by
 obtain⟨wi,pi,gi⟩:=hi;obtain⟨_,_,hon,_⟩:=hg [] 0 X.s₀ X.Hz [] [];have p:=zfS N st (i:=i) (pos:=pos) (pos':=pos') (cp:=cp) fr hND hix hx hRR hcalm pi hcells hfk hN hsc hfree' hcell hkind hnames hfr' hlen (fun cl C s0 H0 ex pn=>show PG (cxC X scope cl NC C s0 H0 ex pn) tg (TGof X.K g) from(hg cl C s0 H0 ex pn).of) (fun cl C s0 H0 ex pn=>show PTs (cxC X scope cl NC C s0 H0 ex pn) ifs (TTof X.K ft) from ht cl C s0 H0 ex pn) (fun cl C s0 H0 ex pn r=>show PE (cxC X scope cl NC C s0 H0 ex pn) elt (TEof X.K fe) from(he cl C s0 H0 ex pn r).of) hs hsw hf
 exact⟨⟨_,p,zjY (zjV (zfs gi hon hap))⟩,⟨_,p,zjZ (zfs gi hon hap)⟩⟩
theorem zhr (N:List Str)(st:Stmt){X:Cx}{i:Nat}{x:Str}{elt iter tg:Expr}{ifs:List Expr}{scope:Scope}{pos pos' cp:Pos}{NC:List Str}(fr:List (Option Nat)){fi:FA}{g:FG}{is:List Nat}{ft:FT}{fe:FE}(hND:X.N.Nodup)(hix:X.N[i]?=some x)(hx:Loc X.env.scope x)(hcalm:X.calm=true)(hi:VI X tg iter fi)
 (hcells:∀x,X.env.scope.names.lookup x=some .cell->∃c,X.env.cells.lookup x=some c) (hfk:X.env.scope.kind=.function) (hN:X.N=N) (hsc:X.env.scope.names=(zab st).names)
 (hfree':∀y∈scope.names,y.2=.free->(zab st).names.lookup y.1=some .cell) (hcell:∀y∈scope.names,y.2≠.cell) (hkind:scope.kind=.function) (hnames:∀y∈scope.names,y.2=.local->scope.names.lookup y.1=some .local)
 (hfr':zcg N (zab st).names scope.names NC fr=true) (hlen:fr.length=NC.length) (hap:apart is fr=true)
 (hg:∀cl C s0 H0 ex pn,VG (cxC X scope cl NC C s0 H0 ex pn) tg is g) (ht:∀cl C s0 H0 ex pn,VTs (cxC X scope cl NC C s0 H0 ex pn) ifs ft) (he:∀cl C s0 H0 ex pn,VE (cxC X scope cl NC C s0 H0 ex pn) elt fe)
 (hs:∀x,foldedSetIterable iter X.env x=pure x:=by intro _;rfl) (hsw:swapsWith (.ListComp elt [⟨tg,iter,ifs,0⟩] scope cp) (some (.Name x pos')) pos.line X.env=pure true:=by rfl)
 (hf:X.fn x=true\/X.env.scope.names.lookup x=some .local:=by first | exact .inl rfl | exact .inr rfl | assumption) :
 VS X (.Assign [.Name x pos'] (.ListComp elt [⟨tg,iter,ifs,0⟩] scope cp) pos) (gSet i (eL (zeL fr fi g ft fe)))/\VS X (.Assign [.Name x pos'] (.ListComp elt [⟨tg,iter,ifs,0⟩] scope cp) pos) (gOwn i (zeL fr fi g ft fe)):=
 ziI (RR:=fun _=>True) N st fr hND hix hx (fun _ _ _ _ _=>trivial) hcalm hi hcells hfk hN hsc hfree' hcell hkind hnames hfr' hlen hap hg ht (fun cl C s0 H0 ex pn _=>he cl C s0 H0 ex pn) hs hsw hf
section
variable {P:Program}{w:World}{K:W.Frag}{mg:Str->Option Value}{base:Heap}
theorem ST.out {Hz H:Hp}{Jz J:Addr->Prop}{ρ:En}{σ:L2.St}(s:ST K Hz Jz Pr.no ρ σ H J):Up Hz Jz H J:=⟨fun b o=>s.same b o (fun⟨_,h⟩ =>by simp[Pr.no] at h),s.j0,s.jn,s.ja⟩
theorem zd0 {N:List Str}{H:Hp}{J:Addr->Prop}{vs:List V}{ds:List D}(ja:∀a,J a->H a≠none)(r:RpL K H J vs ds):ST K H J Pr.no (ds.map SV.val++List.replicate (N.length - ds.length) .un) (start N vs) H J where
 same:=fun _ _ _ h=>h
 j0:=fun _ h=>h
 jn:=fun _ h=>.inl h
 ja:=ja
 al:=fun _ h=>h
 ps:=fun q hq=>absurd hq (by simp[Pr.no])
 len:=by simp[L2.start,r.length]
 vl:=fun i x h=>by
  rw[List.getElem?_append] at h;by_cases hi:i<(ds.map SV.val).length
  ·rw[if_pos hi,waw] at h;cases q:ds[i]? with
   | none=>rw[q] at h;cases h
   | some d=>
     rw[q] at h;cases h;obtain⟨v,hv,rv⟩:=r.get q;refine⟨v,?_,rv⟩;unfold L2.start;rw[wbn (by simp at hi⊢;rw[r.length];exact hi),waw,hv];rfl
  ·rw[if_neg hi] at h;have:=waJ h
   cases List.eq_of_mem_replicate this
 ow:=⟨fun _=>[],fun i=>zhq (by
  cases h:(List.map SV.val ds++List.replicate (N.length - ds.length) SV.un)[i]? with
  | none=>rfl
  | some x=>
    rcases way.mp (waJ h) with h | h
    ·obtain⟨d',_,h⟩:=waT.mp h;subst h;rfl
    ·cases List.eq_of_mem_replicate h;rfl),fun _=>wba,fun _ b hb=>absurd hb (by simp),fun _ _ _ b hb=>absurd hb (by simp)⟩
end
theorem zhs {P:Program}{w:World}{K:W.Frag}{mg:Str->Option Value}{base:Heap}{f:Addr}{fd:FuncData}{ps:List Str}{x:Str}{b:(List D->Option D)->List D->Option D}{m:Nat->List D->Option D}(h0:∀ds,m 0 ds=none)(hs:∀n,m (n+1)=b (m n))
 (bd:Binds K fd ps []) (kp:W.keepIn K (.ref f)=true) (mx:mg x=some (.ref f)) {k:Nat}(hlen:∀n ds d,m n ds=some d->ds.length=ps.length)
 (step:∀{n:Nat}{self:List D->Option D},Cal P w K mg base (k+n) x ps (spF K self)->FnOk P w K mg base CX0 (k+n+1) f fd ps (spF K (b self))):∀n,FnOk P w K mg base CX0 (k+n) f fd ps (spF K (m n))
 | 0=>by
   refine⟨fun vs H Q E h=>?_,fun A outer s H args us vs Q E _ _ _ _ h=>?_⟩
   ·obtain⟨J,ds,d,_,_,e,_⟩:=h;rw[h0] at e;cases e
   ·obtain⟨J,ds,d,_,_,e,_⟩:=h;rw[h0] at e;cases e
 | n+1=>by
   rw[hs];exact step ⟨f,fd,zhs h0 hs bd kp mx hlen step n,bd,kp,mx⟩
section
variable {K:W.Frag}{mg:Str->Option Value}
theorem zd1 {x:Str}{n:Int}{t:Tok}(h:mg x=some (.int n t)):GlobD K mg x (.int n):=⟨_,.int n,h,⟨t,rfl⟩,fun _ _=>.int n⟩
end
def tyD:D->String
 | .non=>"NoneType"
 | .bl _=>"bool"
 | .int _=>"int"
 | .str _=>"str"
 | .tup _=>"tuple"
 | .lst _=>"list"
 | .dct _ _=>"dict"
 | .scr _=>"list"
 | .exc _ _ _=>"?"
def isK (k T:String):Bool:=k == T||(k == "bool"&&T == "int")
structure Kit (K:W.Frag)(T:String):Prop where
 non:PySem.W.kitOne K (.type "NoneType") (.type T)=some (isK "NoneType" T)
 bl:PySem.W.kitOne K (.type "bool") (.type T)=some (isK "bool" T)
 int:PySem.W.kitOne K (.type "int") (.type T)=some (isK "int" T)
 str:PySem.W.kitOne K (.type "str") (.type T)=some (isK "str" T)
 tup:PySem.W.kitOne K (.type "tuple") (.type T)=some (isK "tuple" T)
 lst:PySem.W.kitOne K (.type "list") (.type T)=some (isK "list" T)
 dct:PySem.W.kitOne K (.type "dict") (.type T)=some (isK "dict" T)
def zj1 (K:W.Frag):List V->Hp->VK->Prop:=fun xs H Q=>zmq K xs H Q\/∃a vs n k,xs = [.ref a,.ty n]/\SqT K H a vs/\PySem.W.kitOne K (.type "tuple") (.type n)=some k/\Q (.bl k) H
theorem zgw {X:Cx}:zcc X (.builtin "isinstance") (zj1 X.K):=by
 intro pins s σ H xs us Q I r h;rcases h with h | ⟨a,vs,n,k,rfl,hs,e,q⟩
 ·exact zkH pins s σ H xs us Q I r h
 ·obtain⟨u,w',rfl,r1,r2⟩:=zit r;obtain rfl:w'=Value.type n:=r2;obtain rfl:u=Value.ref a:=r1;obtain⟨its,_,p,_⟩:=I.tuple hs;obtain⟨o,h1,h2,_⟩:=p;exact waH PySem.W.kitx_tuple I.kIn ⟨o,h1,h2⟩ e (fun z=>nomatch z) fun tk=>⟨.bl k,H,I.tok _,rfl,q⟩
def isD (T:String):D->Option D
 | .scr _=>none
 | .exc _ _ _=>none
 | d=>some (.bl (isK (tyD d) T))
def zob (T:String)(f:FE):FE:=fun ρ=>(f ρ).bind (isD T)
theorem zht {T:String}{Ts:Str}{X:Cx}{a:Expr}{fa:FE}{p q pos:Pos}(KT:Kit X.K T)(B:Blt X.mg)(hv:bootBuiltins Ts=some (.type T))(ha:VW X a fa)(hBT:Ts∈za8:=by decide +kernel)(hgT:Gl X Ts:=by rfl)(hnT:Ts≠"__name__":=by decide)(hdT:(Ts == ("__debug__" : Str))=false:=by decide)(hg:Gl X "isinstance":=by rfl)
 (h1:starEach [a,.Name Ts q] X.env=(false,eval a X.env)::starEach [.Name Ts q] X.env:=by rfl) (h2:starEach [.Name Ts q] X.env=(false,eval (.Name Ts q) X.env)::starEach [] X.env:=by rfl)
 (hpl:(backTo pos (starEach [.Name Ts q] X.env)).any (·.1)=false:=by rfl):VE X (.Call (.Name "isinstance" p) [a,.Name Ts q] [] pos) (zob T fa):=by
 obtain⟨t,pa,g⟩:=ha;refine⟨_,pb zgw B boot_isinstance (zaV pa (zaV (ptn (v:=.ty T) (u:=.type T) B hv rfl hBT hgT hnT hdT) zcd h2) h1) (by decide +kernel) hg (by decide) (by decide) h1 hpl,?_⟩;intro Hz Jz O ρ σ H J d Q s e w;obtain⟨x,e1,e⟩:=bind_some e;refine g Hz Jz O ρ σ H J x _ s e1 fun v H1 J1 u1 r1=>?_
 show zj1 X.K [v,.ty T] H1 Q
 cases x with
 | scr p=>cases e
 | exc _ _ _=>cases e
 | non=>cases e;rw[r1.non];exact .inl ⟨_,_,_,_,rfl,.non,KT.non,w _ H1 J1 u1 (.bl _)⟩
 | bl b=>cases e;rw[r1.bl];exact .inl ⟨_,_,_,_,rfl,.bl b,KT.bl,w _ H1 J1 u1 (.bl _)⟩
 | int b=>cases e;rw[r1.int];exact .inl ⟨_,_,_,_,rfl,.int b,KT.int,w _ H1 J1 u1 (.bl _)⟩
 | str b=>cases e;rw[r1.str];exact .inl ⟨_,_,_,_,rfl,.str b,KT.str,w _ H1 J1 u1 (.bl _)⟩
 | tup ds=>cases e;obtain⟨a,vs,rfl,h1,_⟩:=r1.tup;exact .inr ⟨a,vs,T,_,rfl,h1,KT.tup,w _ H1 J1 u1 (.bl _)⟩
 | lst ds=>cases e;obtain⟨a,vs,rfl,h1,_⟩:=r1.lst;exact .inl ⟨_,_,_,_,rfl,.lst h1,KT.lst,w _ H1 J1 u1 (.bl _)⟩
 | dct ks ds=>cases e;obtain⟨a,kvs,vs,rfl,h1,_⟩:=r1.dct;exact .inl ⟨_,_,_,_,rfl,.dK h1,KT.dct,w _ H1 J1 u1 (.bl _)⟩
section
variable {K:W.Frag}{H H':Hp}{J J':Addr->Prop}
end
abbrev FX:=En->Option (D×En)
abbrev FR:=En->Option (RV×En)
abbrev FAX:=En->Option (List D×En)
section
variable (K:W.Frag)
def GoX (t:TE)(f:FX):Prop:=∀Hz Jz O ρ σ H J d ρ' Q,ST K Hz Jz O ρ σ H J->f ρ=some (d,ρ')->(∀v H' J',ST K Hz Jz O ρ' σ H' J'->Keep K H J H' J'->Rp K H' J' v d->Q v H')->t σ H Q
def GoR (t:TE)(f:FR):Prop:=∀Hz Jz O ρ σ H J r ρ' Q,ST K Hz Jz O ρ σ H J->f ρ=some (r,ρ')->(∀v H' J',ST K Hz Jz O ρ' σ H' J'->Keep K H J H' J'->RtAt K Hz O ρ' σ H' J' v r->Q v H')->t σ H Q
def GoAX (t:TA)(f:FAX):Prop:=∀Hz Jz O ρ σ H J ds ρ' Q,ST K Hz Jz O ρ σ H J->f ρ=some (ds,ρ')->(∀vs H' J',ST K Hz Jz O ρ' σ H' J'->Keep K H J H' J'->RpL K H' J' vs ds->Q vs H')->t σ H Q
end
def VX (X:Cx)(e:Expr)(f:FX):Prop:=∃t,PE X e t/\GoX X.K t f
def VR (X:Cx)(e:Expr)(f:FR):Prop:=∃t,PE X e t/\GoR X.K t f
def VAX (X:Cx)(es:List Expr)(f:FAX):Prop:=∃t,PA X es t/\GoAX X.K t f
section
variable {X:Cx}{K:W.Frag}{a b c e:Expr}{es rest:List Expr}{fa fb fc:FX}{fe:FE}{ft fu:FTX}{fl:FAX}{fr:FR}{pos p p2:Pos}
def xE (f:FE):FX:=fun ρ=>(f ρ).bind fun d=>some (d,ρ)
theorem VE.x (h:VE X e fe):VX X e (xE fe):=by
 obtain⟨t,p,g⟩:=h;refine⟨t,p,fun Hz Jz O ρ σ H J d _ Q s e w=>?_⟩;obtain⟨d',e1,e⟩:=bind_some e;cases e;exact g Hz Jz O ρ σ H J d Q s e1 fun v H' J' u r=>w v H' J' (s.up u) u.keep r
def xA (f:FA):FAX:=fun ρ=>(f ρ).bind fun d=>some (d,ρ)
theorem VA.x {f:FA}(h:VA X es f):VAX X es (xA f):=by
 obtain⟨t,p,g⟩:=h;refine⟨t,p,fun Hz Jz O ρ σ H J d _ Q s e w=>?_⟩;obtain⟨d',e1,e⟩:=bind_some e;cases e;exact g Hz Jz O ρ σ H J d Q s e1 fun v H' J' u r=>w v H' J' (s.up u) u.keep r
theorem ziJ {Hz H H':Hp}{Jz J J':Addr->Prop}{O:Pr}{ρ:En}{σ:L2.St}{p:Addr}{vs:List V}{ds:List D}(s:ST K Hz Jz O ρ σ H J)(u:Up H J H' J')(hp:H p=none)(nj:¬J' p)(h':H' p=some (.lst vs))(r:RpL K H' J' vs ds):RtAt K Hz O ρ σ H' J' (.ref p) (.new 1 (.lst ds)):=by
 obtain⟨fp0,ow0⟩:=s.ow;refine⟨[p],fp0,⟨fun i=>(ow0.at' i).keep u.keep fun b _=>u.same b,ow0.nd,fun i b hb jb=>?_,ow0.dj⟩,.lst h' (RpUL.of r),by simp,fun b hb=>?_,fun i b hb hb2=>?_⟩
 ·rcases u.jn b jb with jb | jb
  ·exact ow0.nj i b hb jb
  ·obtain⟨o,e,_⟩:=(ow0.at' i).ru b hb;rw[e] at jb;cases jb
 ·rw[wak.mp hb];refine⟨nj,?_⟩;cases e:Hz p with
  | none=>rfl
  | some o=>exact absurd hp (s.al p (by rw[e];simp))
 ·rw[wak.mp hb] at hb2;obtain⟨o,e,_⟩:=(ow0.at' i).ru p hb2;rw[hp] at e;cases e
def RV.d:RV->D
 | .told d=>d
 | .new _ d=>d
def xR (f:FR):FX:=fun ρ=>(f ρ).bind fun q=>some (q.1.d,q.2)
theorem ST.tell {Hz H:Hp}{Jz J:Addr->Prop}{O:Pr}{ρ:En}{σ:L2.St}{v:V}{r:RV}(s:ST K Hz Jz O ρ σ H J)(q:RtAt K Hz O ρ σ H J v r):∃J',ST K Hz Jz O ρ σ H J'/\Keep K H J H J'/\Rp K H J' v r.d:=by
 cases r with
 | told d=>exact⟨J,s,Keep.refl,q⟩
 | new n d=>
   obtain⟨A,fp,ow,r,nd,hA,dj⟩:=q;have kp:Keep K H J H (fun b=>J b\/b∈A):=⟨fun _ h=>.inl h,fun _ _ _ h=>h,fun _ _ h=>h⟩
   refine⟨fun b=>J b\/b∈A,⟨s.same,fun b h=>.inl (s.j0 b h),fun b h=>?_,fun b h=>?_,s.len,fun j e h=>?_,⟨fp,fun i=>(ow.at' i).keep kp fun _ _ _ h=>h,ow.nd,fun i b hb jb=>?_,ow.dj⟩,s.ps,s.al⟩,kp,r.rp (fun _ h=>.inl h) (fun b hb=>.inr hb)⟩
   ·rcases h with h | h
    ·exact s.jn b h
    ·exact .inr (hA b h).2
   ·rcases h with h | h
    ·exact s.ja b h
    ·obtain⟨o,e,_⟩:=r.some b h;rw[e];simp
   ·obtain⟨v,e1,r1⟩:=s.vl j e h;exact⟨v,e1,r1.keep kp⟩
   ·rcases jb with jb | jb
    ·exact ow.nj i b hb jb
    ·exact dj i b jb hb
theorem VR.x (h:VR X e fr):VX X e (xR fr):=by
 obtain⟨t,p,g⟩:=h;refine⟨t,p,fun Hz Jz O ρ σ H J d _ Q s e w=>?_⟩;obtain⟨⟨r,ρ1⟩,e1,e⟩:=bind_some e;cases e;refine g Hz Jz O ρ σ H J r _ Q s e1 fun v H' J' s' k q=>?_
 obtain⟨J2,s2,k2,r2⟩:=s'.tell q;exact w v H' J2 s2 (k.trans k2) r2
def x2 (F:D->D->Option D)(f g:FX):FX:=fun ρ=>(f ρ).bind fun q=>(g q.2).bind fun r=>(F q.1 r.1).bind fun d=>some (d,r.2)
theorem zj2 {r:R2}{F:D->D->Option D}{ta tb:TE}(im:Im2 K r F)(ga:GoX K ta fa)(gb:GoX K tb fb):GoX K (tOp r ta tb) (x2 F fa fb):=by
 intro Hz Jz O ρ σ H J d ρ' Q s e w;obtain⟨⟨x,ρ1⟩,ex,e⟩:=bind_some e;obtain⟨⟨y,ρ2⟩,ey,e⟩:=bind_some e;obtain⟨z,ez,e⟩:=bind_some e;cases e;refine ga Hz Jz O ρ σ H J x _ _ s ex fun v1 H1 J1 s1 k1 r1=>?_
 refine gb Hz Jz O ρ1 σ H1 J1 y _ _ s1 ey fun v2 H2 J2 s2 k2 r2=>?_
 exact im H2 J2 v1 v2 x y d Q s2.ja (.inl (r1.keep k2)) (.inl r2) ez fun v3 H3 J3 u3 r3=>w v3 H3 J3 (s2.up u3) ((k1.trans k2).trans u3.keep) r3
theorem zmO {op:Operator}{r:R2}{F:D->D->Option D}(ho:OpR X (binaryOp op) r)(im:Im2 X.K r F)(ha:VX X a fa)(hb:VX X b fb):VX X (.BinOp a op b pos) (x2 F fa fb):=by
 obtain⟨ta,pa,ga⟩:=ha;obtain⟨tb,pb,gb⟩:=hb;exact⟨_,zl8 ho pa pb,zj2 im ga gb⟩
def axNil:FAX:=fun ρ=>some ([],ρ)
def axCons (f:FX)(g:FAX):FAX:=fun ρ=>(f ρ).bind fun q=>(g q.2).bind fun r=>some (q.1::r.1,r.2)
theorem zft:VAX X [] axNil:=⟨_,zcd,fun Hz Jz O ρ σ H J ds ρ' Q s e w=>by cases e;exact w [] H J s Keep.refl .nil⟩
theorem zbQ (ha:VX X e fa)(hr:VAX X es fl)(hs:starEach (e::es) X.env=(false,eval e X.env)::starEach es X.env:=by rfl):VAX X (e::es) (axCons fa fl):=by
 obtain⟨t,p,g⟩:=ha;obtain⟨t2,p2,g2⟩:=hr;refine⟨_,zaV p p2 hs,?_⟩;intro Hz Jz O ρ σ H J ds ρ' Q s e w;obtain⟨⟨x,ρ1⟩,ex,e⟩:=bind_some e;obtain⟨⟨xs,ρ2⟩,exs,e⟩:=bind_some e;cases e;refine g Hz Jz O ρ σ H J x _ _ s ex fun v1 H1 J1 s1 k1 r1=>?_
 refine g2 Hz Jz O ρ1 σ H1 J1 xs _ _ s1 exs fun vs H2 J2 s2 k2 r2=>?_
 exact w _ H2 J2 s2 (k1.trans k2) (.cons (r1.keep k2) r2)
def xTup (f:FAX):FX:=fun ρ=>(f ρ).bind fun q=>(mkT q.1).bind fun d=>some (d,q.2)
theorem zmP {x1}(h:VAX X es fl):VX X (.Tuple es x1 pos) (xTup fl):=by
 obtain⟨t,p,g⟩:=h;refine⟨_,zjO p,?_⟩;intro Hz Jz O ρ σ H J d ρ' Q s e w;obtain⟨⟨xs,ρ1⟩,exs,e⟩:=bind_some e;obtain⟨d',ed,e⟩:=bind_some e;cases e;obtain⟨hl,rfl⟩:=zdX ed;refine g Hz Jz O ρ σ H J xs _ _ s exs fun vs H1 J1 s1 k1 r1=>⟨by rw[r1.length];exact zbk hl,fun p hp=>?_⟩
 have un:=Up.new s1.ja hp (.tup vs)
 exact w _ _ _ (s1.up un) (k1.trans un.keep) (.tup (SqT.of zaf) (r1.keep un.keep))
def xLst (f:FAX):FR:=fun ρ=>(f ρ).bind fun q=>if q.1.length<=lim then some (.new 1 (.lst q.1),q.2) else none
theorem zj3 (h:VAX X es fl):VR X (.List es pos) (xLst fl):=by
 obtain⟨t,p,g⟩:=h;refine⟨_,zgZ p,?_⟩;intro Hz Jz O ρ σ H J d ρ' Q s e w;obtain⟨⟨xs,ρ1⟩,exs,e⟩:=bind_some e;by_cases hl:xs.length<=lim
 ·have e:(if xs.length<=lim then some (RV.new 1 (.lst xs),ρ1) else none)=some (d,ρ'):=e
  rw[if_pos hl] at e;cases e;refine g Hz Jz O ρ σ H J xs _ _ s exs fun vs H1 J1 s1 k1 r1=>⟨by rw[r1.length];exact zbk hl,fun p hp=>?_⟩
  have un:=Up.new s1.ja hp (.lst vs)
  exact w _ _ _ (s1.up un) (k1.trans un.keep) (ziJ s1 un hp (fun j=>s1.ja p j hp) zaf (r1.keep un.keep))
 ·have e:(if xs.length<=lim then some (RV.new 1 (.lst xs),ρ1) else none)=some (d,ρ'):=e
  rw[if_neg hl] at e;cases e
theorem ziK (ha:VX X a fa)(hb:VX X b fb)(hs:zb3 b:=by exact fun _ _=>rfl):VX X (.Subscript a b pos) (x2 dIx fa fb):=by
 obtain⟨ta,pa,ga⟩:=ha;obtain⟨tb,pb,gb⟩:=hb;exact⟨_,zgt zfM pa pb hs,zj2 zmG ga gb⟩
def x1 (F:D->Option D)(f:FX):FX:=fun ρ=>(f ρ).bind fun q=>(F q.1).bind fun d=>some (d,q.2)
abbrev FOX:=En->Option (Option Int×En)
def GoOX (K:W.Frag)(t:TO)(f:FOX):Prop:=∀Hz Jz O ρ σ H J o ρ' Q,ST K Hz Jz O ρ σ H J->f ρ=some (o,ρ')->(∀H' J',ST K Hz Jz O ρ' σ H' J'->Keep K H J H' J'->Q o H')->t σ H Q
def VOX (X:Cx)(e:Option Expr)(f:FOX):Prop:=∃t,PO X e t/\GoOX X.K t f
def oxN:FOX:=fun ρ=>some (none,ρ)
def oxS (f:FX):FOX:=fun ρ=>(f ρ).bind fun q=>(dInt q.1).bind fun i=>some (some i,q.2)
theorem ziL:VOX X none oxN:=⟨_,zg3,fun Hz Jz O ρ σ H J o ρ' Q s e w=>by cases e;exact w H J s Keep.refl⟩
theorem ziM (h:VX X a fa):VOX X (some a) (oxS fa):=by
 obtain⟨t,p,g⟩:=h;refine⟨_,zg4 p,?_⟩;intro Hz Jz O ρ σ H J o ρ' Q s e w;obtain⟨⟨d,ρ1⟩,e1,e⟩:=bind_some e;obtain⟨i,e2,e⟩:=bind_some e;cases e;refine g Hz Jz O ρ σ H J d _ _ s e1 fun v H1 J1 s1 k1 r1=>?_
 cases d with
 | int k=>cases e2;cases r1;exact⟨_,rfl,w H1 J1 s1 k1⟩
 | _=>cases e2
def xSl (f:FX)(lo hi:FOX):FX:=fun ρ=>(f ρ).bind fun x=>(lo x.2).bind fun l=>(hi l.2).bind fun h=>(dSl x.1 l.1 h.1).bind fun d=>some (d,h.2)
theorem ziN {lo hi:Option Expr}{fl fh:FOX}(ha:VX X a fa)(hl:VOX X lo fl)(hh:VOX X hi fh):VX X (.Subscript a (.Slice lo hi none p2) pos) (xSl fa fl fh):=by
 obtain⟨t,p,g⟩:=ha;obtain⟨tl,pl,gl⟩:=hl;obtain⟨th,ph,gh⟩:=hh;refine⟨_,zfL (r:=rSlD X.K) (sl_list.or (sl_tup.or zjQ)) p pl ph,?_⟩;intro Hz Jz O ρ σ H J d ρ' Q s e w;obtain⟨⟨x,ρ1⟩,e1,e⟩:=bind_some e;obtain⟨⟨l,ρ2⟩,e2,e⟩:=bind_some e;obtain⟨⟨h,ρ3⟩,e3,e⟩:=bind_some e;obtain⟨d',hF,e4⟩:=bind_some e;cases e4;refine g Hz Jz O ρ σ H J x _ _ s e1 fun v H1 J1 s1 k1 r1=>?_
 refine gl Hz Jz O ρ1 σ H1 J1 l _ _ s1 e2 fun H2 J2 s2 k2=>?_
 refine gh Hz Jz O ρ2 σ H2 J2 h _ _ s2 e3 fun H3 J3 s3 k3=>?_
 have r3:RpW X.K H3 J3 v x:=.inl ((r1.keep k2).keep k3)
 have k:=(k1.trans k2).trans k3
 match x,hF with
 | .lst ds,hF=>
   cases hF;obtain⟨p,vs,rfl,h1,rl⟩:=r3.lst;refine .inl ⟨p,vs,rfl,SqL.of h1,fun c hc=>?_⟩;have un:=Up.newJ s3.ja hc (.lst (cutV vs l h))
   exact w _ _ _ (s3.up un) (k.trans un.keep) (.lst zaf (.inr rfl) ((rl.cut l h).keep un.keep))
 | .tup ds,hF=>
   have hF:(if HT.sIx ds.length 0 l=0/\HT.sIx ds.length ds.length h=ds.length then none else some (D.tup (cut ds l h)))=some d:=hF
   by_cases hc:HT.sIx ds.length 0 l=0/\HT.sIx ds.length ds.length h=ds.length
   ·rw[if_pos hc] at hF;cases hF
   ·rw[if_neg hc] at hF;cases hF;obtain⟨p,vs,rfl,h1,rl⟩:=r3.tup;refine .inr (.inl ⟨p,vs,rfl,h1,by rw[rl.length];exact hc,fun c hc=>?_⟩);have un:=Up.new s3.ja hc (.tup (cutV vs l h))
    exact w _ _ _ (s3.up un) (k.trans un.keep) (.tup (SqT.of zaf) ((rl.cut l h).keep un.keep))
 | .str z,hF=>
   have hF:(if z.length<=lim then some (D.str (Txt.slice z l h)) else none)=some d:=hF
   by_cases hc:z.length<=lim
   ·rw[if_pos hc] at hF;cases hF;rw[r3.str];exact .inr (.inr ⟨z,rfl,zbk hc,w _ _ _ s3 k (.str _)⟩)
   ·rw[if_neg hc] at hF;cases hF
end
section
variable {X:Cx}{K:W.Frag}{H H' H1 H2 Hz:Hp}{J J' J1 J2 Jz:Addr->Prop}{ρ ρ':En}{σ:L2.St}{O:Pr}
theorem ST.chgsG {fp fp':Nat->List Addr}{is:Nat->Bool}(s:ST K Hz Jz O ρ σ H J)(w:Ow K Hz O ρ σ H J fp)(hl:ρ'.length=ρ.length)(h1:∀j,is j=false->ρ'[j]?=ρ[j]?/\fp' j=fp j)
 (h2:∀i,is i=true->∃n d d' v,ownD (ρ[i]?)=some (n,d)/\ρ'[i]?=some (putD (ρ[i]?) d')/\σ[i]?=some (some v)/\RpU K H' J' n v d' (fp' i)/\∀b∈fp' i,b∈fp i\/(Hz b=none/\∀j,b∉fp j))
 (nd:∀i,is i=true->(fp' i).Nodup) (nj:∀i,is i=true->∀b∈fp' i,¬J' b) (dj:∀i j,is i=true->is j=true->i≠j->∀b∈fp' i,b∉fp' j)
 (hs:∀b o,(∀i,is i=true->b∉fp i)->H b=some o->H' b=some o) (ha:∀b,H b≠none->H' b≠none) (jj:∀a,J a->J' a) (jn:∀a,J' a->J a\/H a=none) (ja:∀a,J' a->H' a≠none) :
 ST K Hz Jz O ρ' σ H' J'/\Ow K Hz O ρ' σ H' J' fp'/\Keep K H J H' J':=by
 have free:∀b,H b=none->Hz b=none:=fun b hb=>by
  cases e:Hz b with
  | none=>rfl
  | some o=>exact absurd hb (s.al b (by rw[e];simp))
 have kp:Keep K H J H' J':=⟨jj,fun p o j h=>hs p o (fun i _ hp=>w.nj i p hp j) h,fun p vs h=>by
  have ne:∀o,H p=some o->¬MutO o->∀i,is i=true->p∉fp i:=fun o ho nm i _ hp=>by
   obtain⟨o',e,m⟩:=(w.at' i).ru p hp;rw[ho] at e;cases e;exact nm m
  rcases h with(h | ⟨u,h⟩) | h
  ·exact .inl (.inl (hs p _ (ne _ h (fun z=>z)) h))
  ·exact .inl (.inr ⟨u,hs p _ (ne _ h (fun z=>z)) h⟩)
  ·exact .inr h⟩
 have slot:∀i,is i=true->∀b∈fp i,Hz b=none\/b∈O.fpo i:=fun i hi b hb=>by
  obtain⟨n,d,d',v,e1,_⟩:=h2 i hi;have q:=w.at' i
  match z:ρ[i]?,e1,q with
  | some (.own m e),_,q=>exact .inl (q.2 b hb)
  | some (.par m e),_,q=>exact q.2 b hb
 have ow':Ow K Hz O ρ' σ H' J' fp':=by
  refine⟨fun i=>?_,fun i=>?_,fun i b hb=>?_,fun i j ne b hb hb2=>?_⟩
  ·cases hi:is i with
   | false=>
     rw[(h1 i hi).1,(h1 i hi).2];exact(w.at' i).keep kp fun b hb o ho=>hs b o (fun j hj hb2=>w.dj i j (fun z=>by subst z;rw[hi] at hj;cases hj) b hb hb2) ho
   | true=>
     obtain⟨n,d,d',v,e1,e2,e3,e4,e5⟩:=h2 i hi;rw[e2];have q:=w.at' i
     match z:ρ[i]?,e1,q with
     | some (.own m e),e1,q=>
       cases e1;refine⟨⟨v,e3,e4⟩,fun b hb=>?_⟩;rcases e5 b hb with hb | hb
       ·exact q.2 b hb
       ·exact hb.1
     | some (.par m e),e1,q=>
       cases e1;refine⟨⟨v,e3,e4⟩,fun b hb=>?_⟩;rcases e5 b hb with hb | hb
       ·exact q.2 b hb
       ·exact .inl hb.1
  ·cases hi:is i with
   | false=>rw[(h1 i hi).2];exact w.nd i
   | true=>exact nd i hi
  ·cases hi:is i with
   | false=>
     rw[(h1 i hi).2] at hb;intro jb;rcases jn b jb with jb | jb
     ·exact w.nj i b hb jb
     ·obtain⟨o,e,_⟩:=(w.at' i).ru b hb;rw[e] at jb;cases jb
   | true=>exact nj i hi b hb
  ·have cross:∀i j,i≠j->is i=true->is j=false->b∈fp' i->b∈fp' j->False:=fun i j ne hi hj hb hb2=>by
    rw[(h1 j hj).2] at hb2;obtain⟨_,_,_,_,_,_,_,_,e5⟩:=h2 i hi;rcases e5 b hb with h | h
    ·exact w.dj i j ne b h hb2
    ·exact h.2 j hb2
   cases hi:is i with
   | true=>
     cases hj:is j with
     | true=>exact dj i j hi hj ne b hb hb2
     | false=>exact cross i j ne hi hj hb hb2
   | false=>
     cases hj:is j with
     | true=>exact cross j i (Ne.symm ne) hj hi hb2 hb
     | false=>
       rw[(h1 i hi).2] at hb;rw[(h1 j hj).2] at hb2;exact w.dj i j ne b hb hb2
 refine⟨⟨fun b o hb h=>hs b o (fun i hi hb2=>?_) (s.same b o hb h),fun a h=>jj a (s.j0 a h),fun a h=>?_,ja,by rw[hl];exact s.len,fun j e h=>?_,⟨fp',ow'⟩,fun q hq=>?_,fun b h=>ha b (s.al b h)⟩,ow',kp⟩
 ·rcases slot i hi b hb2 with h2 | h2
  ·rw[h2] at h;cases h
  ·exact hb ⟨i,h2⟩
 ·rcases jn a h with h | h
  ·exact s.jn a h
  ·exact .inr (free a h)
 ·cases hj:is j with
  | false=>
    rw[(h1 j hj).1] at h;obtain⟨v,e1,r1⟩:=s.vl j e h;exact⟨v,e1,r1.keep kp⟩
  | true=>
    obtain⟨n,d,d',v,e1,e2,_⟩:=h2 j hj;rw[e2] at h;match z:ρ[j]?,e1 with
    | some (.own m e),_=>rw[z] at h;cases h
    | some (.par m e),_=>rw[z] at h;cases h
 ·obtain⟨e1,d,h⟩:=s.ps q hq;refine⟨e1,?_⟩;cases hj:is q.1 with
  | false=>rw[(h1 _ hj).1];exact⟨d,h⟩
  | true=>
    obtain⟨n,d0,d',v,_,e2,_⟩:=h2 _ hj;rw[e2,h];exact⟨d',rfl⟩
theorem ST.chgs {fp fp':Nat->List Addr}{is:Nat->Bool}(s:ST K Hz Jz O ρ σ H J)(w:Ow K Hz O ρ σ H J fp)(hl:ρ'.length=ρ.length)(h1:∀j,is j=false->ρ'[j]?=ρ[j]?/\fp' j=fp j)
 (h2:∀i,is i=true->∃n d d' v,ownD (ρ[i]?)=some (n,d)/\ρ'[i]?=some (putD (ρ[i]?) d')/\σ[i]?=some (some v)/\RpU K H' J' n v d' (fp' i)/\∀b∈fp' i,b∈fp i\/H b=none)
 (nd:∀i,is i=true->(fp' i).Nodup) (nj:∀i,is i=true->∀b∈fp' i,¬J' b) (dj:∀i j,is i=true->is j=true->i≠j->∀b∈fp' i,b∉fp' j)
 (hs:∀b o,(∀i,is i=true->b∉fp i)->H b=some o->H' b=some o) (ha:∀b,H b≠none->H' b≠none) (jj:∀a,J a->J' a) (jn:∀a,J' a->J a\/H a=none) (ja:∀a,J' a->H' a≠none) :
 ST K Hz Jz O ρ' σ H' J'/\Ow K Hz O ρ' σ H' J' fp'/\Keep K H J H' J':=by
 refine s.chgsG w hl h1 (fun i hi=>?_) nd nj dj hs ha jj jn ja;obtain⟨n,d,d',v,e1,e2,e3,e4,e5⟩:=h2 i hi;refine⟨n,d,d',v,e1,e2,e3,e4,fun b hb=>?_⟩;rcases e5 b hb with h | h
 ·exact .inl h
 ·right
  refine⟨?_,fun j hj=>?_⟩
  ·cases e:Hz b with
   | none=>rfl
   | some o=>exact absurd h (s.al b (by rw[e];simp))
  ·obtain⟨o,e,_⟩:=(w.at' j).ru b hj;rw[h] at e;cases e
def zoc (K:W.Frag)(H:Hp)(J:Addr->Prop)(k:Option (Option Nat))(v:Option V)(d:Option D)(A:List Addr):Prop:=match k with
 | some none=>∃u e,v=some u/\d=some e/\Rp K H J u e/\A = []
 | some (some n)=>∃a e,v=some (.ref a)/\d=some e/\RpU K H J n (.ref a) e A
 | none=>A = []
structure ArgsG (K:W.Frag)(H:Hp)(J:Addr->Prop)(ks:List (Option Nat))(vs:List V)(ds:List D)(fp:Nat->List Addr):Prop where
 l1:vs.length=ks.length
 l2:ds.length=ks.length
 at':∀i,zoc K H J (ks[i]?) (vs[i]?) (ds[i]?) (fp i)
 nd:∀i,(fp i).Nodup
 nj:∀i,∀b∈fp i,¬J b
 dj:∀i j,i≠j->∀b∈fp i,b∉fp j
def ResG (K:W.Frag)(H:Hp)(H':Hp)(J':Addr->Prop)(fp':Nat->List Addr)(v:V):RV->Prop
 | .told d=>Rp K H' J' v d
 | .new n d=>∃A,RpU K H' J' n v d A/\A.Nodup/\(∀b∈A,¬J' b/\H b=none)/\∀i:Nat,∀b∈A,b∉fp' i
structure PostG (K:W.Frag)(H:Hp)(J:Addr->Prop)(ks:List (Option Nat))(vs:List V)(fp:Nat->List Addr)(r:RV)(es:List D)(v:V)(H':Hp)(J':Addr->Prop)(fp':Nat->List Addr):Prop where
 hs:∀b o,(∀i,b∉fp i)->H b=some o->H' b=some o
 al:∀b,H b≠none->H' b≠none
 jj:∀a,J a->J' a
 jn:∀a,J' a->J a\/H a=none
 ja:∀a,J' a->H' a≠none
 own:∀i n,ks[i]?=some (some n)->∃a e,vs[i]?=some (.ref a)/\es[i]?=some e/\RpU K H' J' n (.ref a) e (fp' i)/\∀b∈fp' i,b∈fp i\/H b=none
 nd:∀i,(fp' i).Nodup
 nj:∀i,∀b∈fp' i,¬J' b
 dj:∀i j,i≠j->∀b∈fp' i,b∉fp' j
 res:ResG K H H' J' fp' v r
def spG (K:W.Frag)(ks:List (Option Nat))(F:List D->Option (RV×List D)):Sp:=fun vs H Q _=>∃J ds r es fp,(∀a,J a->H a≠none)/\ArgsG K H J ks vs ds fp/\F ds=some (r,es)/\∀v H' J' fp',PostG K H J ks vs fp r es v H' J' fp'->Q v H'
def inSl:List (Option Nat)->List D->En
 | none::ks,d::ds=>.val d::inSl ks ds
 | some n::ks,d::ds=>.par n d::inSl ks ds
 | _,_=>[]
def slOf:Option (Option Nat)->Option D->Option SV
 | some none,some d=>some (.val d)
 | some (some n),some d=>some (.par n d)
 | _,_=>none
theorem zd2:∀(ks:List (Option Nat)) (ds:List D) (i:Nat),ks.length=ds.length->(inSl ks ds)[i]?=slOf (ks[i]?) (ds[i]?)
 | [],[],i,_=>by simp[inSl,slOf]
 | none::ks,d::ds,0,_=>by simp[inSl,slOf]
 | some n::ks,d::ds,0,_=>by simp[inSl,slOf]
 | none::ks,d::ds,i+1,h=>by simpa[inSl] using zd2 ks ds i (by simpa using h)
 | some n::ks,d::ds,i+1,h=>by simpa[inSl] using zd2 ks ds i (by simpa using h)
 | [],_::_,_,h=>by simp at h
 | _::_,[],_,h=>by simp at h
theorem zci:∀(ks:List (Option Nat)) (ds:List D),ks.length=ds.length->(inSl ks ds).length=ks.length
 | [],[],_=>rfl
 | none::ks,d::ds,h=>by simp[inSl,zci ks ds (by simpa using h)]
 | some n::ks,d::ds,h=>by simp[inSl,zci ks ds (by simpa using h)]
 | [],_::_,h=>by simp at h
 | _::_,[],h=>by simp at h
def outSl:List (Option Nat)->En->Option (List D)
 | [],_=>some []
 | none::ks,_::ρ=>(outSl ks ρ).bind fun es=>some (.non::es)
 | some _::ks,.par _ d::ρ=>(outSl ks ρ).bind fun es=>some (d::es)
 | _,_=>none
theorem zdb:∀{ks:List (Option Nat)}{ρ:En}{es:List D}{i n:Nat}{m:Nat}{d:D},outSl ks ρ=some es->ks[i]?=some (some n)->ρ[i]?=some (.par m d)->es[i]?=some d
 | [],_,_,_,_,_,_,_,h,_=>by simp at h
 | none::ks,x::ρ,es,i,n,m,d,e,h1,h2=>by
   obtain⟨es',e1,e⟩:=bind_some (show((outSl ks ρ).bind fun es=>some (D.non::es))=some es from e);cases e;match i,h1,h2 with
   | 0,h1,_=>simp at h1
   | i+1,h1,h2=>simpa using zdb (n:=n) (m:=m) e1 (by simpa using h1) (by simpa using h2)
 | some k::ks,.par m' d'::ρ,es,i,n,m,d,e,h1,h2=>by
   obtain⟨es',e1,e⟩:=bind_some (show((outSl ks ρ).bind fun es=>some (d'::es))=some es from e);cases e;match i,h1,h2 with
   | 0,h1,h2=>simp at h2;simp[h2.2]
   | i+1,h1,h2=>simpa using zdb (n:=n) (m:=m) e1 (by simpa using h1) (by simpa using h2)
def psAt (i:Nat):Option (Option Nat)->Option V->Option (Nat×Addr×Nat)
 | some (some n),some (.ref a)=>some (i,a,n)
 | _,_=>none
def psOf (ks:List (Option Nat))(vs:List V):List (Nat×Addr×Nat):=(List.range ks.length).filterMap fun i=>psAt i (ks[i]?) (vs[i]?)
theorem mem_psOf {ks:List (Option Nat)}{vs:List V}{q:Nat×Addr×Nat}:q∈psOf ks vs↔ks[q.1]?=some (some q.2.2)/\vs[q.1]?=some (.ref q.2.1):=by
 unfold psOf;rw[List.mem_filterMap];constructor
 ·rintro⟨i,_,h⟩;unfold psAt at h;split at h
  ·rename_i n a h1 h2;cases h;exact⟨h1,h2⟩
  ·cases h
 ·rintro⟨h1,h2⟩;refine⟨q.1,wbm.mpr (wal.mp h1).1,?_⟩;rw[h1,h2];rfl
theorem zeM {N:List Str}{ks:List (Option Nat)}{vs:List V}{ds:List D}{fp:Nat->List Addr}(ja:∀a,J a->H a≠none)(r:ArgsG K H J ks vs ds fp) :
 ST K H J ⟨psOf ks vs,fp⟩ (inSl ks ds++List.replicate (N.length - ks.length) .un) (start N vs) H J:=by
 have get:∀i:Nat,(inSl ks ds++List.replicate (N.length - ks.length) SV.un)[i]?=slOf (ks[i]?) (ds[i]?)\/(ks[i]?=none/\((inSl ks ds++List.replicate (N.length - ks.length) SV.un)[i]?=some SV.un\/(inSl ks ds++List.replicate (N.length - ks.length) SV.un)[i]?=none)):=fun i=>by
  by_cases hi:i<ks.length
  ·left
   rw[wbn (by rw[zci ks ds r.l2.symm];exact hi),zd2 ks ds i r.l2.symm]
  ·right
   refine⟨waL (by omega),?_⟩;rw[List.getElem?_append_right (by rw[zci ks ds r.l2.symm];omega),List.getElem?_replicate];split
   ·exact .inl rfl
   ·exact .inr rfl
 have sg:∀(i:Nat) (v:V),vs[i]?=some v->(start N vs)[i]?=some (some v):=fun i v h=>by
  unfold L2.start;rw[wbn (by simp;exact(wal.mp h).1),waw,h];rfl
 refine⟨fun _ _ _ h=>h,fun _ h=>h,fun _ h=>.inl h,ja,by simp[L2.start,r.l1,zci ks ds r.l2.symm],fun i d h=>?_,⟨fp,fun i=>?_,r.nd,r.nj,r.dj⟩,fun q hq=>?_,fun _ h=>h⟩
 ·have q:=r.at' i
  rcases get i with e | ⟨_,e | e⟩
  ·rw[e] at h;match z:ks[i]?,y:ds[i]?,h,q with
   | some none,some e',h,q=>
     cases h;obtain⟨u,e,h1,h2,h3,_⟩:=q;cases h2;exact⟨u,sg i u h1,h3⟩
  ·rw[e] at h;cases h
  ·rw[e] at h;cases h
 ·have q:=r.at' i
  rcases get i with e | ⟨e0,e | e⟩
  ·rw[e];match z:ks[i]?,y:ds[i]?,q with
   | some none,some e',q=>obtain⟨_,_,_,_,_,h⟩:=q;exact h
   | some (some n),some e',q=>
     obtain⟨a,e,h1,h2,h3⟩:=q;cases h2;exact⟨⟨_,sg i _ h1,h3⟩,fun b hb=>.inr hb⟩
   | none,_,q=>exact q
   | some none,none,q=>obtain⟨_,_,_,h,_⟩:=q;cases h
   | some (some n),none,q=>obtain⟨_,_,_,h,_⟩:=q;cases h
  ·rw[e];rw[e0] at q;exact q
  ·rw[e];rw[e0] at q;exact q
 ·obtain⟨h1,h2⟩:=mem_psOf.mp hq;refine⟨sg _ _ h2,?_⟩;have q':=r.at' q.1
  rw[h1] at q';obtain⟨a,e,_,h3,_⟩:=q';rcases get q.1 with g | ⟨g,_⟩
  ·rw[g,h1,h3];exact⟨e,rfl⟩
  ·rw[h1] at g;cases g
end
section
variable {P:Program}{w:World}{K:W.Frag}{mg:Str->Option Value}{base:Heap}
theorem ziO {ks:List (Option Nat)}{vs:List V}{ds:List D}{es:List D}{fp:Nat->List Addr}{r:RV}{H H':Hp}{J J':Addr->Prop}{ρ:En}{σ:L2.St}{v:V}(A:ArgsG K H J ks vs ds fp)(s:ST K H J ⟨psOf ks vs,fp⟩ ρ σ H' J')
 (q:RtAt K H ⟨psOf ks vs,fp⟩ ρ σ H' J' v r) (e:outSl ks ρ=some es):∃fp',PostG K H J ks vs fp r es v H' J' fp':=by
 have main:∀fp',Ow K H ⟨psOf ks vs,fp⟩ ρ σ H' J' fp'->ResG K H H' J' fp' v r->PostG K H J ks vs fp r es v H' J' fp':=fun fp' w hr=>
  ⟨fun b o hb h=>s.same b o (fun⟨i,hi⟩ =>hb i hi) h,s.al,s.j0,s.jn,s.ja,fun i n hk=>by
   have qa:=A.at' i
   rw[hk] at qa;obtain⟨a,e0,h1,_,_⟩:=qa;obtain⟨h2,d,h3⟩:=s.ps (i,a,n) (mem_psOf.mpr ⟨hk,h1⟩);have h2:σ[i]?=some (some (.ref a)):=h2
   have h3:ρ[i]?=some (.par n d):=h3
   have o:=w.at' i
   rw[h3] at o;obtain⟨⟨v',e1,ru⟩,hb⟩:=o;rw[h2] at e1;cases e1;exact⟨a,d,h1,zdb e hk h3,ru,fun b hb'=>(hb b hb').symm⟩,w.nd,w.nj,w.dj,hr⟩
 cases r with
 | told d=>
   obtain⟨fp',w⟩:=s.ow;exact⟨fp',main fp' w q⟩
 | new n d=>
   obtain⟨B,fp',w,ru,nd,hb,dj⟩:=q;exact⟨fp',main fp' w ⟨B,ru,nd,hb,dj⟩⟩
end
theorem RpU.isRef {K:W.Frag}{H:Hp}{J:Addr->Prop}{n:Nat}{v:V}{d:D}{A:List Addr}(h:RpU K H J (n+1) v d A):∃a,v=.ref a:=by
 cases h <;> exact⟨_,rfl⟩
abbrev FAG:=En->Option (List (Option D)×En)
def ArgV (K:W.Frag)(H:Hp)(J:Addr->Prop)(u:Option (Option V)):List V->List (Option D)->Prop
 | [],[]=>True
 | v::vs,none::as=>u=some (some v)/\ArgV K H J u vs as
 | v::vs,some d::as=>Rp K H J v d/\ArgV K H J u vs as
 | _,_=>False
def GoAG (K:W.Frag)(i:Nat)(t:TA)(f:FAG):Prop:=∀Hz Jz O ρ σ H J as ρ' Q,ST K Hz Jz O ρ σ H J->f ρ=some (as,ρ')->(∀vs H' J',ST K Hz Jz O ρ' σ H' J'->Keep K H J H' J'->ArgV K H' J' (σ[i]?) vs as->Q vs H')->t σ H Q
def VAG (X:Cx)(i:Nat)(es:List Expr)(f:FAG):Prop:=∃t,PA X es t/\GoAG X.K i t f
theorem ArgV.keep {K:W.Frag}{H H':Hp}{J J':Addr->Prop}{u:Option (Option V)}(k:Keep K H J H' J'):∀{vs:List V}{as:List (Option D)},ArgV K H J u vs as->ArgV K H' J' u vs as
 | [],[],_=>trivial
 | v::vs,none::as,h=>⟨h.1,ArgV.keep k h.2⟩
 | v::vs,some d::as,h=>⟨h.1.keep k,ArgV.keep k h.2⟩
 | [],_::_,h=>h.elim
 | _::_,[],h=>h.elim
theorem ArgV.length {K:W.Frag}{H:Hp}{J:Addr->Prop}{u:Option (Option V)}:∀{vs:List V}{as:List (Option D)},ArgV K H J u vs as->vs.length=as.length
 | [],[],_=>rfl
 | v::vs,none::as,h=>by simp[ArgV.length h.2]
 | v::vs,some d::as,h=>by simp[ArgV.length h.2]
 | [],_::_,h=>h.elim
 | _::_,[],h=>h.elim
theorem ArgV.get {K:W.Frag}{H:Hp}{J:Addr->Prop}{u:Option (Option V)}:∀{vs:List V}{as:List (Option D)}{j:Nat}{o:Option D},ArgV K H J u vs as->as[j]?=some o->∃v,vs[j]?=some v/\match o with | none=>u=some (some v) | some d=>Rp K H J v d
 | [],[],_,_,_,e=>by simp at e
 | v::vs,none::as,0,o,h,e=>by simp at e;subst e;exact⟨v,rfl,h.1⟩
 | v::vs,some d::as,0,o,h,e=>by simp at e;subst e;exact⟨v,rfl,h.1⟩
 | v::vs,none::as,j+1,o,h,e=>by simpa using ArgV.get (j:=j) (o:=o) h.2 (by simpa using e)
 | v::vs,some d::as,j+1,o,h,e=>by simpa using ArgV.get (j:=j) (o:=o) h.2 (by simpa using e)
 | [],_::_,_,_,h,_=>h.elim
 | _::_,[],_,_,h,_=>h.elim
section
variable {X:Cx}{K:W.Frag}{e:Expr}{es:List Expr}{fa:FX}{fl:FAG}{pos p:Pos}{i:Nat}
def agNil:FAG:=fun ρ=>some ([],ρ)
def agOwn (i:Nat)(f:FAG):FAG:=fun ρ=>if(ownD (ρ[i]?)).isSome=true then(f ρ).bind fun q=>some (none::q.1,q.2) else none
def agX (g:FX)(f:FAG):FAG:=fun ρ=>(g ρ).bind fun q=>(f q.2).bind fun r=>some (some q.1::r.1,r.2)
theorem zbH:VAG X i [] agNil:=⟨_,zcd,fun Hz Jz O ρ σ H J ds ρ' Q s e w=>by cases e;exact w [] H J s Keep.refl trivial⟩
theorem zeN (ha:VX X e fa)(hr:VAG X i es fl)(hs:starEach (e::es) X.env=(false,eval e X.env)::starEach es X.env:=by rfl):VAG X i (e::es) (agX fa fl):=by
 obtain⟨t,p,g⟩:=ha;obtain⟨t2,p2,g2⟩:=hr;refine⟨_,zaV p p2 hs,?_⟩;intro Hz Jz O ρ σ H J ds ρ' Q s e w;obtain⟨⟨x,ρ1⟩,ex,e⟩:=bind_some e;obtain⟨⟨xs,ρ2⟩,exs,e⟩:=bind_some e;cases e;refine g Hz Jz O ρ σ H J x _ _ s ex fun v1 H1 J1 s1 k1 r1=>?_
 refine g2 Hz Jz O ρ1 σ H1 J1 xs _ _ s1 exs fun vs H2 J2 s2 k2 r2=>?_
 exact w _ H2 J2 s2 (k1.trans k2) ⟨r1.keep k2,r2⟩
theorem zbI {x:Str}(hr:VAG X i es fl)(hN:X.N[i]?=some x:=by rfl)(hv:Vis X.env.scope x:=by first | exact Or.inl rfl | exact Or.inr (Or.inl rfl) | exact Or.inr (Or.inr rfl))(hd:(x == ("__debug__" : Str))=false:=by decide)(hcd:(x == ("__classdict__" : Str))=false:=by decide)
 (hs:starEach (.Name x p::es) X.env=(false,eval (.Name x p) X.env)::starEach es X.env:=by rfl):VAG X i (.Name x p::es) (agOwn i fl):=by
 obtain⟨t2,p2,g2⟩:=hr;refine⟨_,zaV (zcb hN hv hd hcd) p2 hs,?_⟩;intro Hz Jz O ρ σ H J ds ρ' Q s e w;unfold agOwn at e;by_cases ho:(ownD (ρ[i]?)).isSome=true
 ·rw[if_pos ho] at e;obtain⟨⟨xs,ρ2⟩,exs,e⟩:=bind_some e;cases e;obtain⟨⟨n,d⟩,hq⟩:=Option.isSome_iff_exists.mp ho;obtain⟨v,A,hv,_⟩:=s.rd hq;refine⟨v,hv,?_⟩;refine g2 Hz Jz O ρ σ H J xs _ _ s exs fun vs H2 J2 s2 k2 r2=>?_
  exact w _ H2 J2 s2 k2 ⟨hv,r2⟩
 ·rw[if_neg ho] at e;cases e
def agK (n:Nat):Option D->Option Nat
 | none=>some n
 | some _=>none
def xCallG (ks:List (Option Nat))(p i n:Nat)(F:List D->Option (RV×List D))(f:FAG):FR:=fun ρ=>(f ρ).bind fun q=>
 if q.1.map (agK n)=ks then match ownD (q.2[i]?) with
  | some (m,d)=>if m=n then(F (q.1.map fun o=>o.getD d)).bind fun r=>(r.2[p]?).bind fun e=>some (r.1,setO q.2 i e) else none
  | none=>none
 else none
theorem zfu {ρ:En}{i j:Nat}{d:D}(h:j≠i):(setO ρ i d)[j]?=ρ[j]?:=by
 unfold setO;exact wad (Ne.symm h)
theorem ziP {ks:List (Option Nat)}{q n:Nat}{F:List D->Option (RV×List D)}{t:TA}(hp:ks[q]?=some (some n))(h1:∀(j m:Nat),ks[j]?=some (some m)->j=q)(hn:n≠0)(g:GoAG K i t fl)(E:XK):GoR K (zgq (spG K ks F) [] E t) (xCallG ks q i n F fl):=by
 intro Hz Jz O ρ σ H J r ρ' Q s e w;obtain⟨⟨as,ρ1⟩,e1,e⟩:=bind_some e;have eA:(if as.map (agK n)=ks then match ownD (ρ1[i]?) with
  | some (m,d)=>if m=n then(F (as.map fun o=>o.getD d)).bind fun r=>(r.2[q]?).bind fun e=>some (r.1,setO ρ1 i e) else none
  | none=>none
 else none)=some (r,ρ'):=e
 by_cases hk:as.map (agK n)=ks
 ·rw[if_pos hk] at eA;cases ho:ownD (ρ1[i]?) with
  | none=>rw[ho] at eA;cases eA
  | some md=>
    obtain⟨m,d⟩:=md;rw[ho] at eA;have eB:(if m=n then(F (as.map fun o=>o.getD d)).bind fun r=>(r.2[q]?).bind fun e=>some (r.1,setO ρ1 i e) else none)=some (r,ρ'):=eA
    by_cases hm:m=n
    ·rw[if_pos hm] at eB;subst hm;obtain⟨⟨r',es⟩,e2,eC⟩:=bind_some eB;obtain⟨d',e3,eD⟩:=bind_some eC;cases eD;refine g Hz Jz O ρ σ H J as ρ1 _ s e1 fun vs H1 J1 s1 k1 r1=>?_
     obtain⟨fp,ow⟩:=s1.ow;have hi:i<ρ1.length:=by
      by_cases hi:i<ρ1.length
      ·exact hi
      ·rw[waL (by omega)] at ho;cases ho
     have hat:∃v,σ[i]?=some (some v)/\RpU K H1 J1 m v d (fp i):=by
      have o:=ow.at' i
      match z:ρ1[i]?,ho,o with
      | some (.own _ _),ho,o=>cases ho;exact o.1
      | some (.par _ _),ho,o=>cases ho;exact o.1
     obtain⟨v,hv,ru⟩:=hat
     have asq:as[q]?=some none:=by
      have:=hp
      rw[<-hk,waw] at this;cases z:as[q]? with
      | none=>rw[z] at this;cases this
      | some o=>rw[z] at this;cases o with
        | none=>rfl
        | some _=>simp[agK] at this
     have mpos:∃a,v=.ref a:=by
      cases m with
      | zero=>exact absurd rfl hn
      | succ m=>exact ru.isRef
     obtain⟨a,rfl⟩:=mpos;have vq:vs[q]?=some (.ref a):=by
      obtain⟨u,h1,h2⟩:=r1.get asq;have h2:σ[i]?=some (some u):=h2
      rw[hv] at h2;cases h2;exact h1
     have args:ArgsG K H1 J1 ks vs (as.map fun o=>o.getD d) (fun j=>if j=q then fp i else[]):=by
      refine⟨by rw[r1.length,<-hk,wao],by rw[wao,<-hk,wao],fun j=>?_,fun j=>?_,fun j b hb=>?_,fun j l ne b hb=>?_⟩
      ·rw[<-hk,waw,waw];cases z:as[j]? with
       | none=>
         have:j≠q:=fun h=>by rw[h,asq] at z;cases z
         show(if j=q then fp i else[]) = []
         rw[if_neg this]
       | some o=>
         cases o with
         | none=>
           have:j=q:=h1 j m (by rw[<-hk,waw,z];rfl)
           subst this;exact⟨a,d,vq,rfl,by rw[if_pos rfl];exact ru⟩
         | some x=>
           have:j≠q:=fun h=>by rw[h,asq] at z;cases z
           obtain⟨u,h1,h2⟩:=r1.get z;exact⟨u,x,h1,rfl,h2,by rw[if_neg this]⟩
      ·split
       ·exact ow.nd i
       ·exact wba
      ·split at hb
       ·exact ow.nj i b hb
       ·cases hb
      ·split at hb
       ·rename_i z
        rw[if_neg (fun h=>ne (z.trans h.symm))];simp
       ·cases hb
     refine⟨J1,_,r',es,_,s1.ja,by rw[waF];exact args,e2,fun v' H' J' fp' pg=>?_⟩;rw[waF] at pg;obtain⟨a2,d2,h2,h3,ru2,hb2⟩:=pg.own q m hp;rw[vq] at h2;cases h2;rw[e3] at h3;cases h3;have hA:∀b:Addr,(∀j,b∉(if j=q then fp i else[]))↔b∉fp i:=fun b=>by
      constructor
      ·intro h;have:=h q;rwa [if_pos rfl] at this
      ·intro h j;split
       ·exact h
       ·simp
     have key:=s1.chgs (ρ':=setO ρ1 i d') (fp':=zhj fp i (fp' q)) (is:=fun j=>j == i) (H':=H') (J':=J') ow (by simp[setO]) (fun j hj=>?_) (fun j hj=>?_) (fun j hj=>?_) (fun j hj=>?_) (fun j l hj hl ne=>?_) (fun b o hb h=>pg.hs b o ((hA b).mpr (hb i (by simp))) h) pg.al pg.jj pg.jn pg.ja
     ·obtain⟨s2,ow2,k2⟩:=key;refine w v' H' J' s2 (k1.trans k2) ?_;have res:=pg.res
      cases r' with
      | told d0=>exact res
      | new n0 d0=>
        obtain⟨B,ruB,ndB,hB,djB⟩:=res;refine⟨B,zhj fp i (fp' q),ow2,ruB,ndB,fun b hb=>⟨(hB b hb).1,?_⟩,fun j b hb=>?_⟩
        ·cases z:Hz b with
         | none=>rfl
         | some o=>exact absurd (hB b hb).2 (s1.al b (by rw[z];simp))
        ·by_cases hj:j=i
         ·subst hj;rw[zaO];exact djB q b hb
         ·rw[za9 hj];intro hb2;obtain⟨o,ho',_⟩:=(ow.at' j).ru b hb2;rw[(hB b hb).2] at ho';cases ho'
     ·have hj':j≠i:=by simpa using hj
      exact⟨zfu hj',za9 hj'⟩
     ·have hj':j=i:=by simpa using hj
      subst hj';refine⟨m,d,d',.ref a,ho,waq hi,hv,by rw[zaO];exact ru2,fun b hb=>?_⟩;rw[zaO] at hb;have:=hb2 b hb
      rwa [if_pos rfl] at this
     ·have hj':j=i:=by simpa using hj
      subst hj';rw[zaO];exact pg.nd q
     ·have hj':j=i:=by simpa using hj
      subst hj';rw[zaO];exact pg.nj q
     ·have hj':j=i:=by simpa using hj
      have hl':l=i:=by simpa using hl
      exact absurd (hj'.trans hl'.symm) ne
    ·rw[if_neg hm] at eB;cases eB
 ·rw[if_neg hk] at eA;cases eA
def zj4 (ks:List (Option Nat))(q:Nat):Bool:=(List.range ks.length).all fun j=>match ks[j]? with
 | some (some _)=>j == q
 | _=>true
theorem zhu {ks:List (Option Nat)}{q:Nat}(h:zj4 ks q=true)(j m:Nat)(hj:ks[j]?=some (some m)):j=q:=by
 have:=waC.mp h j (wbm.mpr (wal.mp hj).1)
 rw[hj] at this;simpa using this
theorem zbJ (q i n:Nat){k k':Nat}{x:Str}{ps:List Str}{ks:List (Option Nat)}{F:List D->Option (RV×List D)}(C:Cal X.prog X.w X.K X.mg X.base k x ps (spG X.K ks F))(hr:Room k' X.A)(ha:VAG X i (e::es) fl)(hp:ks[q]?=some (some n):=by rfl)(ho:zj4 ks q=true:=by decide)(hn:n≠0:=by decide)(hk:k<=k':=by decide)(hg:Gl X x:=by rfl)(hdb:(x == ("__debug__" : Str))=false:=by decide)
 (he:starEach (e::es) X.env=(false,eval e X.env)::starEach es X.env:=by rfl) (hpl:(backTo pos (starEach es X.env)).any (·.1)=false:=by rfl):VR X (.Call (.Name x p) (e::es) [] pos) (xCallG ks q i n F fl):=by
 obtain⟨t,p,g⟩:=ha;exact⟨_,pc C hr p hk hg hdb he hpl,ziP hp (zhu ho) hn g _⟩
def xCallN (ks:List (Option Nat))(F:List D->Option (RV×List D))(f:FAX):FR:=fun ρ=>(f ρ).bind fun q=>(F q.1).bind fun r=>if q.1.length=ks.length then some (r.1,q.2) else none
theorem ArgsG.plain {H:Hp}{J:Addr->Prop}{vs:List V}{ds:List D}{ks:List (Option Nat)}(r:RpL K H J vs ds)(hk:ds.length=ks.length)(hn:ks.all (·.isNone)=true):ArgsG K H J ks vs ds (fun _=>[]):=by
 refine⟨by rw[r.length,hk],hk,fun j=>?_,fun _=>wba,fun _ b hb=>absurd hb (by simp),fun _ _ _ b hb=>absurd hb (by simp)⟩;cases z:ks[j]? with
 | none=>rfl
 | some o=>
   have:=waC.mp hn o (waJ z)
   cases o with
   | some _=>cases this
   | none=>
     have hj:j<ds.length:=by rw[hk];exact(wal.mp z).1
     obtain⟨v,hv,rv⟩:=r.get (wap hj);exact⟨v,ds[j],hv,wap hj,rv,rfl⟩
theorem zf0 {fl:FAX}{ks:List (Option Nat)}{F:List D->Option (RV×List D)}{t:TA}(hn:ks.all (·.isNone)=true)(g:GoAX K t fl)(E:XK):GoR K (zgq (spG K ks F) [] E t) (xCallN ks F fl):=by
 intro Hz Jz O ρ σ H J r ρ' Q s e w;obtain⟨⟨ds,ρ1⟩,e1,eA⟩:=bind_some e;obtain⟨⟨r',es⟩,e2,eB⟩:=bind_some eA;have eB:(if ds.length=ks.length then some (r',ρ1) else none)=some (r,ρ'):=eB
 by_cases hl:ds.length=ks.length
 ·rw[if_pos hl] at eB;cases eB;refine g Hz Jz O ρ σ H J ds _ _ s e1 fun vs H1 J1 s1 k1 r1=>?_
  refine⟨J1,ds,_,es,_,s1.ja,by rw[waF];exact ArgsG.plain r1 hl hn,e2,fun v H2 J2 fp' pg=>?_⟩;have u:Up H1 J1 H2 J2:=⟨fun b o h=>pg.hs b o (fun _=>by simp) h,pg.jj,pg.jn,pg.ja⟩
  refine w v H2 J2 (s1.up u) (k1.trans u.keep) ?_;have res:=pg.res
  cases r with
  | told d0=>exact res
  | new n0 d0=>
    obtain⟨B,ruB,ndB,hB,_⟩:=res;obtain⟨fp,ow⟩:=s1.ow;refine⟨B,fp,⟨fun i=>(ow.at' i).keep u.keep fun b _=>u.same b,ow.nd,fun i b hb jb=>?_,ow.dj⟩,ruB,ndB,fun b hb=>⟨(hB b hb).1,?_⟩,fun j b hb hb2=>?_⟩
    ·rcases u.jn b jb with jb | jb
     ·exact ow.nj i b hb jb
     ·obtain⟨o,e,_⟩:=(ow.at' i).ru b hb;rw[e] at jb;cases jb
    ·cases z:Hz b with
     | none=>rfl
     | some o=>exact absurd (hB b hb).2 (s1.al b (by rw[z];simp))
    ·obtain⟨o,ho,_⟩:=(ow.at' j).ru b hb2;rw[(hB b hb).2] at ho;cases ho
 ·rw[if_neg hl] at eB;cases eB
theorem ziQ {fl:FAX}{k k':Nat}{x:Str}{ps:List Str}{ks:List (Option Nat)}{F:List D->Option (RV×List D)}(C:Cal X.prog X.w X.K X.mg X.base k x ps (spG X.K ks F))(hr:Room k' X.A)(ha:VAX X (e::es) fl)(hn:ks.all (·.isNone)=true:=by rfl)(hk:k<=k':=by decide)(hg:Gl X x:=by rfl)(hdb:(x == ("__debug__" : Str))=false:=by decide)
 (he:starEach (e::es) X.env=(false,eval e X.env)::starEach es X.env:=by rfl) (hpl:(backTo pos (starEach es X.env)).any (·.1)=false:=by rfl):VR X (.Call (.Name x p) (e::es) [] pos) (xCallN ks F fl):=by
 obtain⟨t,p,g⟩:=ha;exact⟨_,pc C hr p hk hg hdb he hpl,zf0 hn g _⟩
end
section
variable {X:Cx}{K:W.Frag}{a b c e:Expr}{es:List Expr}{fa fb:FX}{fe:FE}{ft:FTX}{fl:FAX}{fr:FR}{g g2:FS}{pos p:Pos}
def gSetX (i:Nat)(f:FX):FS:=fun ρ=>(f ρ).bind fun q=>if i<q.2.length/\isPar (q.2[i]?)=false then some (.nx (q.2.set i (.val q.1))) else none
theorem zcE {i:Nat}{x:Str}{pos':Pos}(hN:X.N.Nodup)(hi:X.N[i]?=some x)(hx:Loc X.env.scope x)(h:VX X e fa)(hs:swapsWith e (some (.Name x pos')) pos.line X.env=pure false:=by rfl)(hf:X.fn x=true\/X.env.scope.names.lookup x=some .local:=by first | exact .inl rfl | exact .inr rfl | assumption) :
 VS X (.Assign [.Name x pos'] e pos) (gSetX i fa):=by
 obtain⟨t,p,q⟩:=h;refine⟨_,zeu hN hi hx p hs hf,?_⟩;intro Hz Jz O ρ σ H J o E s e w;obtain⟨⟨d,ρ1⟩,e1,eA⟩:=bind_some e;have eA:(if i<ρ1.length/\isPar (ρ1[i]?)=false then some (Out.nx (ρ1.set i (.val d))) else none)=some o:=eA
 by_cases hi:i<ρ1.length/\isPar (ρ1[i]?)=false
 ·rw[if_pos hi] at eA;cases eA;exact q Hz Jz O ρ σ H J d ρ1 _ s e1 fun v H' J' s' k r=>w _ H' J' (s'.set r hi.1 (zaP hi.2)) k
 ·rw[if_neg hi] at eA;cases eA
theorem ST.take {Hz H:Hp}{Jz J:Addr->Prop}{O:Pr}{ρ:En}{σ:L2.St}{i n:Nat}{v:V}{d:D}(s:ST K Hz Jz O ρ σ H J)(q:RtAt K Hz O ρ σ H J v (.new n d))(hi:i<ρ.length)(hp:∀n d,ρ[i]?≠some (.par n d)):ST K Hz Jz O (ρ.set i (.own n d)) (σ.set i (some v)) H J:=by
 obtain⟨A,fp,w,r,nd,hA,dj⟩:=q;refine⟨s.same,s.j0,s.jn,s.ja,by simp[s.len],fun j e h=>?_,?_,fun q hq=>?_,s.al⟩
 ·rcases zb5 h with⟨rfl,he⟩ | ⟨ne,h⟩
  ·cases he
  ·rw[wad (Ne.symm ne)];exact s.vl j e h
 ·refine⟨_,w.put (i:=i) (A:=A) Keep.refl (fun _ _ _ _ _ h=>h) (fun j _=>w.nj j) (fun j e=>wad (Ne.symm e)) (fun j e=>wad (Ne.symm e)) ?_ nd (fun b hb=>(hA b hb).1) (fun j _ b hb=>dj j b hb)⟩;rw[waq hi,waq (by rw[s.len];exact hi)];exact⟨⟨v,rfl,r⟩,fun b hb=>(hA b hb).2⟩
 ·have e:=s.psNe hp q hq
  rw[wad (Ne.symm e),wad (Ne.symm e)];exact s.ps q hq
def gOwnR (i:Nat)(f:FR):FS:=fun ρ=>(f ρ).bind fun q=>match q.1 with
 | .new n d=>if i<q.2.length/\isPar (q.2[i]?)=false then some (.nx (q.2.set i (.own n d))) else none
 | .told _=>none
theorem zfv {i:Nat}{x:Str}{pos':Pos}(hN:X.N.Nodup)(hi:X.N[i]?=some x)(hx:Loc X.env.scope x)(h:VR X e fr)(hs:swapsWith e (some (.Name x pos')) pos.line X.env=pure false:=by rfl)(hf:X.fn x=true\/X.env.scope.names.lookup x=some .local:=by first | exact .inl rfl | exact .inr rfl | assumption) :
 VS X (.Assign [.Name x pos'] e pos) (gOwnR i fr):=by
 obtain⟨t,p,q⟩:=h;refine⟨_,zeu hN hi hx p hs hf,?_⟩;intro Hz Jz O ρ σ H J o E s e w;obtain⟨⟨r,ρ1⟩,e1,eA⟩:=bind_some e;cases r with
 | told d=>cases eA
 | new n d=>
   have eA:(if i<ρ1.length/\isPar (ρ1[i]?)=false then some (Out.nx (ρ1.set i (.own n d))) else none)=some o:=eA
   by_cases hi:i<ρ1.length/\isPar (ρ1[i]?)=false
   ·rw[if_pos hi] at eA;cases eA;exact q Hz Jz O ρ σ H J _ ρ1 _ s e1 fun v H' J' s' k r=>w _ H' J' (s'.take r hi.1 (zaP hi.2)) k
   ·rw[if_neg hi] at eA;cases eA
def isL1:Option (Nat×D)->Bool
 | some (1,.lst _)=>true
 | _=>false
def gPutL (i:Nat)(fk:FE)(f:FX):FS:=fun ρ=>(f ρ).bind fun q=>(fk q.2).bind fun k=>(dInt k).bind fun k=>match ownD (q.2[i]?) with
 | some (1,.lst ds)=>(ixN ds.length k).bind fun j=>some (.nx (setO q.2 i (.lst (ds.set j q.1))))
 | _=>none
theorem zhv (i:Nat){x:Str}{xp sp:Pos}{fk:FE}(h:VX X e fa)(hk:VE X a fk)(hN:X.N[i]?=some x:=by rfl)(hv:Vis X.env.scope x:=by first | exact Or.inl rfl | exact Or.inr (Or.inl rfl) | exact Or.inr (Or.inr rfl))(hd:(x == ("__debug__" : Str))=false:=by decide)(hcd:(x == ("__classdict__" : Str))=false:=by decide)
 (ha:∀v,assign (.Subscript (.Name x xp) a sp) X.env v=(do
  let ov <-holding [v] (eval (.Name x xp) X.env)
  let iv <-holding [v,ov] (eval a X.env)
  standAt sp
  holding [v,ov,iv] (setItem ov iv v)
  release [v,ov,iv] []):=by intro _;rfl)
 (hs:swapsWithSole [.Subscript (.Name x xp) a sp] e pos.line X.env=pure false:=by rfl) (hw:swappedStores [.Subscript (.Name x xp) a sp] e X.env=pure none:=by rfl) (h1:(assignEach [.Subscript (.Name x xp) a sp] X.env).map (·.2) = [assign (.Subscript (.Name x xp) a sp) X.env]:=by rfl) :
 VS X (.Assign [.Subscript (.Name x xp) a sp] e pos) (gPutL i fk fa):=by
 obtain⟨t,p,q⟩:=h;obtain⟨tk,pk,qk⟩:=hk;refine⟨_,zjM p (zjL (zcb hN hv hd hcd) pk zfN ha) hs hw h1,fun Hz Jz O ρ σ H J o E s e w=>?_⟩;obtain⟨⟨d,ρ1⟩,e1,eA⟩:=bind_some e;obtain⟨k,e2,eB⟩:=bind_some eA;obtain⟨kk,e3,eC⟩:=bind_some eB;refine q Hz Jz O ρ σ H J d ρ1 _ s e1 fun v H1 J1 s1 k1 r1=>?_
 split at eC
 ·rename_i ds z
  obtain⟨j,e4,eD⟩:=bind_some eC;cases eD;obtain⟨a0,vs0,ha0,_,_,_⟩:=s1.top (H':=H) (es:=[]) z;refine⟨.ref a0,ha0,?_⟩;refine qk Hz Jz O ρ1 σ H1 J1 k _ s1 e2 fun vk H2 J2 u2 rk=>?_
  have s2:=s1.up u2
  obtain⟨a1,vs1,ha1,hv1,rl,go⟩:=s2.top (H':=H) (es:=[]) z;rw[ha0] at ha1;cases ha1;cases k with
  | int k0=>
    cases e3;cases rk;refine⟨a0,vs1,kk,j,rfl,rfl,hv1,by rw[rl.length];exact e4,?_⟩;obtain⟨s3,k3⟩:=go (vs1.set j v) (ds.set j d) (rl.set j (r1.keep u2.keep));exact w σ _ J2 s3 ((k1.trans u2.keep).trans k3)
  | _=>cases e3
 ·cases eC
end
section
variable {X:Cx}{K:W.Frag}{fi fl:FAX}{fa:FX}{g:FS}{pos p:Pos}{ft:FT}{tg a b:Expr}
def keyD:D->Option Key
 | .int i=>some (.inl i)
 | .str x=>some (.inr x)
 | _=>none
theorem zmQ {H:Hp}{J:Addr->Prop}{v:V}{d:D}{k:Key}(r:RpW K H J v d)(h:keyD d=some k):v=kV k:=by
 cases d with
 | int i=>cases h;exact r.int
 | str x=>cases h;exact r.str
 | _=>cases h
end
section
variable {X:Cx}{K:W.Frag}{a b c e:Expr}{es:List Expr}{fa fb:FX}{fe fk fv:FE}{fl:FA}{pos p p2:Pos}
theorem ST.top2 {Hz H:Hp}{Jz J:Addr->Prop}{O:Pr}{ρ:En}{σ:L2.St}{i j:Nat}{ds es:List D}(s:ST K Hz Jz O ρ σ H J)(h0:ownD (ρ[i]?)=some (2,.lst ds))(hj:ds[j]?=some (.lst es)):∃a vs b us,σ[i]?=some (some (.ref a))/\H a=some (.lst vs)/\vs.length=ds.length/\vs[j]?=some (.ref b)/\H b=some (.lst us)/\RpL K H J us es/\
 (∀(us':List V) (es':List D),RpL K H J us' es'->ST K Hz Jz O (setO ρ i (.lst (ds.set j (.lst es')))) σ (upd H b (.lst us')) J/\Keep K H J (upd H b (.lst us')) J)/\
 (∀(H':Hp) (J':Addr->Prop) (q:Addr) (us':List V) (es':List D),Up H J H' J'->H q=none->¬J' q->H' q=some (.lst us')->RpL K H' J' us' es'->ST K Hz Jz O (setO ρ i (.lst (ds.set j (.lst es')))) σ (upd H' a (.lst (vs.set j (.ref q)))) J'/\Keep K H J (upd H' a (.lst (vs.set j (.ref q)))) J'):=by
 obtain⟨v,A,hv,r,nd,nj,go⟩:=s.chg h0;cases r with
 | lst ha rl=>
   rename_i a vs A
   obtain⟨w,A1,A2,A3,hw,rfl,rw',up⟩:=rl.split j hj;obtain⟨b,us,rfl,rfl,hb,ru⟩:=rw'.one;have hab:a≠b:=by
    rintro rfl;have:=(waI.mp nd).1
    exact this (by simp)
   have ndA:=(waI.mp nd).2
   have naA:=(waI.mp nd).1
   have hb13:∀x∈A1++A3,x≠b:=by
    intro x hx z;subst z;rw[wbI] at ndA;obtain⟨n1,n2,n3⟩:=ndA;rw[wcg,waI] at n2;rcases way.mp hx with h | h
    ·exact n3 x h x (by simp) rfl
    ·exact n2.1 h
   refine⟨a,vs,b,us,hv,ha,rl.length,hw,hb,ru,fun us' es' re=>?_,fun H' J' q us' es' u hq njq hq' re=>?_⟩
   ·have nja:¬J b:=nj b (by simp)
    have kp:Keep K H J (upd H b (.lst us')) J:=zb7 hb nja
    refine go (upd H b (.lst us')) J (.lst (ds.set j (.lst es'))) (a::(A1++([b]++A3))) (fun c o hc h=>?_) (fun c h=>?_) (fun _ h=>h) (fun _ h=>.inl h) (fun c h=>?_) ?_ nd nj (fun c hc=>.inl hc)
    ·rw[zae (fun z=>hc (by simp[z]))];exact h
    ·by_cases z:c=b
     ·subst z;rw[zaf];simp
     ·rw[zae z];exact h
    ·by_cases z:c=b
     ·subst z;rw[zaf];simp
     ·rw[zae z];exact s.ja c h
    ·have vset:vs.set j (V.ref b)=vs:=by
      apply List.ext_getElem?;intro k;by_cases hk:k=j
      ·subst hk;rw[hw,waq (wal.mp hw).1]
      ·rw[wad (Ne.symm hk)]
     have:=up (upd H b (.lst us')) J (.ref b) (.lst es') [b] kp (fun c hc o ho=>by rw[zae (hb13 c hc)];exact ho) (.lst zaf (RpUL.of (re.keep kp)))
     rw[vset] at this;exact .lst (by rw[zae hab];exact ha) this
   ·have haH':=u.same _ _ ha
    have hqa:q≠a:=by rintro rfl;rw[ha] at hq;cases hq
    have nja:¬J' a:=fun z=>by
     rcases u.jn a z with z | z
     ·exact nj a (by simp) z
     ·rw[ha] at z;cases z
    have kp:Keep K H' J' (upd H' a (.lst (vs.set j (.ref q)))) J':=zb7 haH' nja
    have qfree:∀c∈a::(A1++([b]++A3)),c≠q:=by
     intro c hc z;subst z;rcases wai.mp hc with rfl | hc
     ·rw[ha] at hq;cases hq
     ·obtain⟨o,e,_⟩:=rl.some c hc;rw[hq] at e;cases e
    refine(go (upd H' a (.lst (vs.set j (.ref q)))) J' (.lst (ds.set j (.lst es'))) (a::(A1++([q]++A3))) (fun c o hc h=>?_) (fun c h=>?_) u.jj u.jn (fun c h=>?_) ?_ ?_ (fun c hc=>?_) (fun c hc=>?_))
    ·rw[zae (fun z=>hc (by simp[z]))];exact u.same _ _ h
    ·by_cases z:c=a
     ·subst z;rw[zaf];simp
     ·rw[zae z];cases e:H c with
      | none=>exact absurd e h
      | some o=>rw[u.same _ _ e];simp
    ·by_cases z:c=a
     ·subst z;rw[zaf];simp
     ·rw[zae z];exact u.ja c h
    ·have:=up (upd H' a (.lst (vs.set j (.ref q)))) J' (.ref q) (.lst es') [q] (u.keep.trans kp) (fun c hc o ho=>by
      rw[zae (fun z=>naA (by rw[<-z];simp at hc⊢;rcases hc with hc | hc <;> simp[hc]))];exact u.same _ _ ho) (.lst (by rw[zae hqa];exact hq') (RpUL.of (re.keep kp)))
     exact .lst zaf this
    ·have h1:q∉a::(A1++([b]++A3)):=fun z=>qfree q z rfl
     rw[wbI] at ndA;obtain⟨n1,n2,n3⟩:=ndA;rw[wcg,waI] at n2;simp only[wai,way,not_or,wak] at h1;refine waI.mpr ⟨?_,wbI.mpr ⟨n1,?_,?_⟩⟩
     ·simp only[way,wak,not_or] at naA⊢;exact⟨naA.1,fun z=>h1.1 z.symm,naA.2.2⟩
     ·rw[wcg];exact waI.mpr ⟨h1.2.2.2,n2.2⟩
     ·intro x hx y hy z;subst z;rcases way.mp hy with hy | hy
      ·rw[wak.mp hy] at hx;exact h1.2.1 hx
      ·exact n3 x hx x (by simp[hy]) rfl
    ·simp only[wai,way,wbk,or_false] at hc;have old:c∈a::(A1++([b]++A3))->¬J' c:=fun h z=>by
      rcases u.jn c z with z | z
      ·exact nj c h z
      ·rcases wai.mp h with rfl | h
       ·rw[ha] at z;cases z
       ·obtain⟨o,e,_⟩:=rl.some c h;rw[z] at e;cases e
     rcases hc with rfl | hc | rfl | hc
     ·exact nja
     ·exact old (by simp[hc])
     ·exact njq
     ·exact old (by simp[hc])
    ·simp only[wai,way,wbk,or_false] at hc;rcases hc with rfl | hc | rfl | hc
     ·exact .inl (by simp)
     ·exact .inl (by simp[hc])
     ·exact .inr hq
     ·exact .inl (by simp[hc])
def eIx2 (i:Nat)(fk:FE):FE:=fun ρ=>(fk ρ).bind fun k=>(dInt k).bind fun k=>match ownD (ρ[i]?) with
 | some (2,.lst ds)=>(atI ds k).bind fun d=>match d with | .lst es=>some (.lst es) | _=>none
 | _=>none
theorem zj5 (i:Nat){x:Str}{xp:Pos}(hk:VE X a fk)(hN:X.N[i]?=some x:=by rfl)(hv:Vis X.env.scope x:=by first | exact Or.inl rfl | exact Or.inr (Or.inl rfl) | exact Or.inr (Or.inr rfl))(hd:(x == ("__debug__" : Str))=false:=by decide)(hcd:(x == ("__classdict__" : Str))=false:=by decide)(hs:zb3 a:=by exact fun _ _=>rfl) :
 VW X (.Subscript (.Name x xp) a pos) (eIx2 i fk):=by
 obtain⟨t,p,g⟩:=hk;refine⟨_,zgt zfM (zcb hN hv hd hcd) p hs,?_⟩;intro Hz Jz O ρ σ H J d Q s e w;obtain⟨k,e1,eA⟩:=bind_some e;obtain⟨kk,e2,eB⟩:=bind_some eA;split at eB
 ·rename_i ds z
  obtain⟨d1,e3,eC⟩:=bind_some eB;split at eC
  ·rename_i es
   cases eC;obtain⟨v,A,hv,r⟩:=s.rd z;refine⟨v,hv,?_⟩;refine g Hz Jz O ρ σ H J k _ s e1 fun vk H1 J1 u1 rk=>?_
   cases k with
   | int k0=>
     cases e2;cases rk;have r1:=r.keep u1.keep fun b _ o=>u1.same b o
     cases r1 with
     | lst ha rl=>
       unfold atI at e3;cases q:ixN ds.length kk with
       | none=>rw[q] at e3;cases e3
       | some j=>
         rw[q] at e3;obtain⟨u,A1,A2,A3,hu,_,ru,_⟩:=rl.split j e3;refine .inl ⟨_,_,kk,u,rfl,rfl,SqL.of ha,?_,w u H1 J1 u1 (.inr ⟨A2,ru⟩)⟩;unfold atI;rw[rl.length,q];exact hu
   | _=>cases e2
  ·cases eC
 ·cases eB
def zkU (i:Nat)(fk fv:FE):FS:=fun ρ=>(fk ρ).bind fun k=>(dInt k).bind fun k=>(fv ρ).bind fun d=>match ownD (ρ[i]?) with
 | some (2,.lst ds)=>(ixN ds.length k).bind fun j=>match ds[j]? with
   | some (.lst es)=>if es.length<lim then some (.nx (setO ρ i (.lst (ds.set j (.lst (es++[d])))))) else none
   | _=>none
 | _=>none
theorem zkV (i:Nat){x:Str}{xp sp apos cpos:Pos}(hk:VE X a fk)(h:VE X e fv)(hN:X.N[i]?=some x:=by rfl)(hv:Vis X.env.scope x:=by first | exact Or.inl rfl | exact Or.inr (Or.inl rfl) | exact Or.inr (Or.inr rfl))(hd:(x == ("__debug__" : Str))=false:=by decide)
 (hcd:(x == ("__classdict__" : Str))=false:=by decide) (hpi:zb3 a:=by exact fun _ _=>rfl) (h1:starEach [e] X.env=(false,eval e X.env)::starEach [] X.env:=by rfl)
 (hbase:attributeBase (.Subscript (.Name x xp) a sp) "append" X.env (eval (.Subscript (.Name x xp) a sp) X.env)=eval (.Subscript (.Name x xp) a sp) X.env:=by rfl)
 (hfew:((backTo cpos (starEach [e] X.env)).all (fun x=>!x.1)&&(backToKw cpos (keywordEach [] X.env)).all (fun x=>x.1.isSome)
  && decide ([e].length+([]:List Keyword).length+(if([]:List Keyword).isEmpty then 0 else 1)<30))=true:=by rfl)
 (hline:(apos.endLine == cpos.line)=true:=by rfl) (hs:starEach [e] X.env = [(false,eval e X.env)]:=by rfl) (hsw:swapsWith (.Call (.Attribute (.Subscript (.Name x xp) a sp) "append" apos) [e] [] cpos) none pos.line X.env=pure false:=by rfl) :
 VS X (.Expr (.Call (.Attribute (.Subscript (.Name x xp) a sp) "append" apos) [e] [] cpos) pos) (zkU i fk fv):=by
 obtain⟨tk,pk,qk⟩:=hk;obtain⟨t,p,q⟩:=h;refine⟨_,zfi (papp (zgt zfM (zcb hN hv hd hcd) pk hpi) (zaV p zcd h1) hbase hfew hline hs) hsw,?_⟩;intro Hz Jz O ρ σ H J o E s e w;obtain⟨k,e1,eA⟩:=bind_some e;obtain⟨kk,e2,eB⟩:=bind_some eA;obtain⟨d,e3,eC⟩:=bind_some eB;split at eC
 ·rename_i ds z
  obtain⟨j,e4,eD⟩:=bind_some eC;split at eD
  ·rename_i es ze
   by_cases hl:es.length<lim
   ·rw[if_pos hl] at eD;cases eD;obtain⟨v0,A0,hv0,r0⟩:=s.rd z;refine⟨v0,hv0,?_⟩;refine qk Hz Jz O ρ σ H J k _ s e1 fun vk H1 J1 u1 rk=>?_
    cases k with
    | int k0=>
      cases e2;cases rk;have s1:=s.up u1
      obtain⟨a1,vs1,b1,us1,ha1,hA1,hl1,hj1,hb1,ru1,_,_⟩:=s1.top2 z ze;rw[hv0] at ha1;cases ha1;refine .inl ⟨a1,vs1,kk,.ref b1,rfl,rfl,SqL.of hA1,by unfold atI;rw[hl1,e4];exact hj1,?_⟩;refine⟨.inl ⟨rfl,us1,SqL.of hb1⟩,?_⟩;refine q Hz Jz O ρ σ H1 J1 d _ s1 e3 fun v H2 J2 u2 r2=>?_
      have s2:=s1.up u2
      obtain⟨a2,vs2,b2,us2,ha2,hA2,hl2,hj2,hb2,ru2,go,_⟩:=s2.top2 z ze;rw[hv0] at ha2;cases ha2;have hA12:=u2.same _ _ hA1
      rw[hA2] at hA12;cases hA12;rw[hj2] at hj1;cases hj1;refine⟨b1,us2,v,rfl,rfl,hb2,by rw[ru2.length];exact wah hl (wbg zeG),?_⟩;obtain⟨s3,k3⟩:=go (us2++[v]) (es++[d]) (ru2.append (.cons r2 .nil));exact w σ _ J2 s3 ((u1.trans u2).keep.trans k3)
    | _=>cases e2
   ·rw[if_neg hl] at eD;cases eD
  ·cases eD
 ·cases eC
def zkW (i:Nat)(fk:FE)(f:FA):FS:=fun ρ=>(f ρ).bind fun es=>(fk ρ).bind fun k=>(dInt k).bind fun k=>match ownD (ρ[i]?) with
 | some (2,.lst ds)=>(ixN ds.length k).bind fun j=>match ds[j]? with
   | some (.lst _)=>some (.nx (setO ρ i (.lst (ds.set j (.lst es)))))
   | _=>none
 | _=>none
theorem zkX (i:Nat){x:Str}{xp sp:Pos}(h:VN X e fl)(hk:VE X a fk)(hN:X.N[i]?=some x:=by rfl)(hv:Vis X.env.scope x:=by first | exact Or.inl rfl | exact Or.inr (Or.inl rfl) | exact Or.inr (Or.inr rfl))(hd:(x == ("__debug__" : Str))=false:=by decide)(hcd:(x == ("__classdict__" : Str))=false:=by decide)
 (ha:∀v,assign (.Subscript (.Name x xp) a sp) X.env v=(do
  let ov <-holding [v] (eval (.Name x xp) X.env)
  let iv <-holding [v,ov] (eval a X.env)
  standAt sp
  holding [v,ov,iv] (setItem ov iv v)
  release [v,ov,iv] []):=by intro _;rfl)
 (hs:swapsWithSole [.Subscript (.Name x xp) a sp] e pos.line X.env=pure false:=by rfl) (hw:swappedStores [.Subscript (.Name x xp) a sp] e X.env=pure none:=by rfl) (h1:(assignEach [.Subscript (.Name x xp) a sp] X.env).map (·.2) = [assign (.Subscript (.Name x xp) a sp) X.env]:=by rfl) :
 VS X (.Assign [.Subscript (.Name x xp) a sp] e pos) (zkW i fk fl):=by
 obtain⟨t,p,q⟩:=h;obtain⟨tk,pk,qk⟩:=hk;refine⟨_,zjM p (zjL (zcb hN hv hd hcd) pk zfN ha) hs hw h1,fun Hz Jz O ρ σ H J o E s e w=>?_⟩;obtain⟨es,e1,eA⟩:=bind_some e;obtain⟨k,e2,eB⟩:=bind_some eA;obtain⟨kk,e3,eC⟩:=bind_some eB;split at eC
 ·rename_i ds z
  obtain⟨j,e4,eD⟩:=bind_some eC;split at eD
  ·rename_i es0 ze
   cases eD;refine q Hz Jz O ρ σ H J es _ s e1 fun p1 us H1 J1 u1 hp1 nj1 hq1 r1=>?_
   obtain⟨v0,A0,hv0,r0⟩:=s.rd z;refine⟨v0,hv0,?_⟩;refine qk Hz Jz O ρ σ H1 J1 k _ (s.up u1) e2 fun vk H2 J2 u2 rk=>?_
   cases k with
   | int k0=>
     cases e3;cases rk;obtain⟨a0,vs0,b0,us0,ha0,hA0,hl0,hj0,hb0,ru0,_,go⟩:=s.top2 z ze;rw[hv0] at ha0;cases ha0;have u:=u1.trans u2
     have hq2:=u2.same _ _ hq1
     have nj2:¬J2 p1:=fun z=>by
      rcases u2.jn p1 z with z | z
      ·exact nj1 z
      ·rw[hq1] at z;cases z
     refine⟨a0,vs0,kk,j,rfl,rfl,u.same _ _ hA0,by rw[hl0];exact e4,?_⟩;obtain⟨s3,k3⟩:=go H2 J2 p1 us es u hp1 nj2 hq2 (r1.keep u2.keep);exact w σ _ J2 s3 k3
   | _=>cases e3
  ·cases eD
 ·cases eC
end
section
variable {X:Cx}{K:W.Frag}{elt iter tg:Expr}{ifs:List Expr}{scope:Scope}{pos:Pos}{NC:List Str}
def TNof (K:W.Frag)(f:FA):TE:=fun σ H Q=>∃Hz Jz O ρ J d,ST K Hz Jz O ρ σ H J/\f ρ=some d/\zjT K H J d Q
theorem VN.of {X:Cx}{e:Expr}{f:FA}(h:VN X e f):PE X e (TNof X.K f):=by
 obtain⟨t,p,g⟩:=h;rintro pins s σ H Q I ⟨Hz,Jz,O,ρ,J,d,s1,e1,w⟩;exact p pins s σ H Q I (g Hz Jz O ρ σ H J d Q s1 e1 w)
def zbK (ρ:En)(g:FG)(e:FA)(d:D):Option (Option D):=(g d ρ).bind fun ρ1=>(e ρ1).bind fun x=>some (some (.lst x))
def zj6 (fr:List (Option Nat))(fi:FA)(g:FG)(e:FA):FR:=fun ρ=>(fi ρ).bind fun ds=>(zcR (zbK (zaD ρ fr) g e) ds).bind fun out=>if out.length<=lim then some (.new 2 (.lst out),ρ) else none
theorem ziR {fr:List (Option Nat)}{wi:TI}{fi:FA}{g:FG}{is:List Nat}{fe:FA}(hi:GoI K wi fi)(hon:∀d ρ ρ',g d ρ=some ρ'->Only is ρ ρ')(hap:apart is fr=true) :
 GoR K (zfo fr wi (TGof K g) (TTof K tTrue) (TNof K fe)) (zj6 fr fi g fe):=by
 intro Hz Jz O ρ σ H J rr ρ' Q s e w;obtain⟨ds,e1,eA⟩:=bind_some e;obtain⟨out,e2,eB⟩:=bind_some eA;by_cases hl:out.length<=lim
 ·rw[if_pos hl] at eB;cases eB;refine hi Hz Jz O ρ σ H J ds _ s e1 fun I H1 J1 u1 src=>?_
  intro Da hD;have hD0:Hz Da=none:=s.free (u:=u1) hD
  have nJ1:¬J1 Da:=fun j=>u1.ja Da j hD
  refine⟨fun i m ys σ2 H2=>m=ds.length - i/\i<=ds.length/\∃J2 dn rs A,ST K Hz Jz O.blk (zaD ρ fr) σ2 H2 J2/\Up H1 J1 H2 J2/\¬J2 Da/\RpUL K H2 J2 1 ys dn A/\A.Nodup/\(∀b∈A,¬J2 b/\H1 b=none/\b≠Da)/\out=dn++rs/\zcR (zbK (zaD ρ fr) g fe) (ds.drop i)=some rs,⟨ds.length,by simp,wbo _,?_⟩,?_⟩
  ·have un:=Up.new u1.ja hD (.lst [])
   exact⟨J1,[],out,[],((s.up u1).up un).pick fr,un,nJ1,.nil,wba,by simp,rfl,by simpa using e2⟩
  ·rintro i m ys σ2 H2 ⟨rfl,hil,J2,dn,rs,A,s2,u2,nj2,r2,nd2,hA2,eo,ec⟩ hys;obtain⟨stop,turn⟩:=src H2 J2 u2.keep s2.ja;by_cases hlt:i<ds.length
   ·right
    have hd:ds[i]?=some ds[i]:=wap hlt
    generalize hdd:ds[i]=d at hd;obtain⟨go,yl⟩:=turn i d hd;have edrop:ds.drop i=d::ds.drop (i+1):=by rw[<-hdd];exact(wby hlt).symm
    rw[edrop] at ec;obtain⟨o,eo1,ec1⟩:=bind_some (show((zbK (zaD ρ fr) g fe d).bind fun o=>(zcR (zbK (zaD ρ fr) g fe) (ds.drop (i+1))).bind fun xs=>some (match o with | some x=>x::xs | none=>xs))=some rs from ec);obtain⟨rs',er,ec2⟩:=bind_some ec1;obtain⟨ρ1,eg,eo2⟩:=bind_some eo1;obtain⟨x,ex,eo3⟩:=bind_some eo2;cases eo3;cases ec2;refine⟨go,fun zs σ' H'=>∃J2 dn rs A,ST K Hz Jz O.blk (zaD ρ fr) σ' H' J2/\Up H1 J1 H' J2/\¬J2 Da/\RpUL K H' J2 1 zs dn A/\A.Nodup/\(∀b∈A,¬J2 b/\H1 b=none/\b≠Da)/\out=dn++rs/\zcR (zbK (zaD ρ fr) g fe) (ds.drop (i+1))=some rs,fun zs σ' H' h=>⟨ds.length - (i+1),by omega,rfl,hlt,h⟩,fun xv H3 y=>?_⟩;obtain⟨J3,u3,r3⟩:=yl xv H3 y;have wk:Weak (zaD ρ fr) ρ1:=zfr (hon _ _ _ eg) hap
    refine⟨Hz,Jz,O.blk,zaD ρ fr,J3,d,ρ1,s2.up u3,r3,eg,fun σ4 s4=>?_⟩;refine⟨Hz,Jz,O.blk,ρ1,J3,true,s4,rfl,fun H5 J5 u5=>?_⟩;have s5:=s4.up u5
    refine⟨fun _=>?_,fun z=>by cases z⟩;refine⟨Hz,Jz,O.blk,ρ1,J5,x,s5,ex,fun q vs H6 J6 u6 hq nq hq6 r6=>?_⟩;have u26:=(u3.trans u5).trans u6
    have old:∀{b:Addr}{o:HO},H2 b=some o->¬J2 b->¬J6 b:=fun {b o} hb nb jb=>by
     rcases u26.jn b jb with jb | jb
     ·exact nb jb
     ·rw[hb] at jb;cases jb
    have nj6:¬J6 Da:=old hys nj2
    have hy6:H6 Da=some (.lst ys):=u26.same _ _ hys
    have kA:Keep K H6 J6 (upd H6 Da (.lst (ys++[.ref q]))) J6:=zb7 hy6 nj6
    have hqD:q≠Da:=fun z=>by
     subst z;have:=(u3.trans u5).same _ _ hys
     rw[this] at hq;cases hq
    have hqA:q∉A:=fun z=>by
     obtain⟨o,eo,_⟩:=r2.some q z;rw[(u3.trans u5).same _ _ eo] at hq;cases hq
    refine⟨hy6,?_,J6,dn++[.lst x],rs',A++[q],?_,(u2.trans u26).at (ys:=ys) hD,nj6,?_,?_,fun b hb=>?_,by rw[eo];simp,er⟩
    ·have:(dn++.lst x::rs').length<=lim:=by rw[<-eo];exact hl
     rw[wat,waV] at this;rw[r2.length];exact wah (by omega:dn.length<lim) (wbg zeG)
    ·exact((s5.up u6).weak wk rfl).at (zb6 ρ fr) hy6 nj6 hD0
    ·have ra:RpUL K H6 J6 1 ys dn A:=r2.keep u26.keep fun b _ o=>u26.same b o
     have rb:RpUL K H6 J6 1 [.ref q] [.lst x] [q]:=by
      have:=RpUL.cons (n:=1) (RpU.lst hq6 (RpUL.of r6)) (RpUL.nil (K:=K) (H:=H6) (J:=J6))
      simpa using this
     refine(ra.append rb).keep kA fun b hb o ho=>?_
     rw[zae];exact ho;rcases way.mp hb with hb | hb
     ·exact(hA2 b hb).2.2
     ·rw[wak.mp hb];exact hqD
    ·refine wbI.mpr ⟨nd2,by simp,fun a ha b hb z=>?_⟩;rw[wak.mp hb] at z;exact hqA (z▸ha)
    ·rcases way.mp hb with hb | hb
     ·obtain⟨o,eo,_⟩:=r2.some b hb;exact⟨old eo (hA2 b hb).1,(hA2 b hb).2⟩
     ·rw[wak.mp hb];exact⟨nq,(u2.trans (u3.trans u5)).same.free hq,hqD⟩
   ·left
    have hi':i=ds.length:=by omega
    subst hi';rw[wck] at ec;cases ec;refine⟨stop,?_⟩;rw[waF] at eo;subst eo;have u:=u1.trans u2
    obtain⟨fp,ow⟩:=s.ow;refine w (.ref Da) H2 J2 (s.up u) u.keep ⟨Da::A,fp,⟨fun i=>(ow.at' i).keep u.keep fun b _=>u.same b,ow.nd,fun i b hb jb=>?_,ow.dj⟩,.lst hys r2,?_,fun b hb=>?_,fun i b hb hb2=>?_⟩
    ·rcases u.jn b jb with jb | jb
     ·exact ow.nj i b hb jb
     ·obtain⟨o,e,_⟩:=(ow.at' i).ru b hb;rw[e] at jb;cases jb
    ·exact waI.mpr ⟨fun z=>(hA2 Da z).2.2 rfl,nd2⟩
    ·rcases wai.mp hb with rfl | hb
     ·exact⟨nj2,hD0⟩
     ·exact⟨(hA2 b hb).1,s.free (u:=u1) (hA2 b hb).2.1⟩
    ·obtain⟨o,e,_⟩:=(ow.at' i).ru b hb2;have e1:=u1.same _ _ e
     rcases wai.mp hb with rfl | hb
     ·rw[hD] at e1;cases e1
     ·rw[(hA2 b hb).2.1] at e1;cases e1
 ·rw[if_neg hl] at eB;cases eB
end
section
variable {X:Cx}{K:W.Frag}{H H' H1 H2 Hz:Hp}{J J' J1 J2 Jz:Addr->Prop}{ρ ρ' ρ2:En}{σ σ2:L2.St}{O:Pr}{fp:Nat->List Addr}
end
section
variable {X:Cx}{K:W.Frag}
end
def putKD (ks:List Key)(ds:List D)(j:Key)(d:D):List Key×List D:=if ks.any (fun k=>decide (k=j))=true then(ks,(ks.zip ds).map fun p=>if p.1=j then d else p.2) else(ks++[j],ds++[d])
section
variable {X:Cx}{K:W.Frag}{a b c e:Expr}{es:List Expr}{fa fb:FX}{fe fk fv:FE}{fl:FA}{fr:FR}{pos p p2:Pos}
def gPutD (i:Nat)(fk:FE)(f:FX):FS:=fun ρ=>(f ρ).bind fun q=>(fk q.2).bind fun k=>(keyD k).bind fun k=>match ownD (q.2[i]?) with
 | some (1,.dct ks ds)=>if ks.length<lim then some (.nx (setO q.2 i (.dct (putKD ks ds k q.1).1 (putKD ks ds k q.1).2))) else none
 | _=>none
def aRevR (f:FA):FA:=fun ρ=>(f ρ).bind fun l=>(a1Int l).bind fun j=>if 0<=j/\j<=1000000 then some (zaF 0 j.toNat).reverse else none
theorem ziS {H:Hp}{J:Addr->Prop}(n:Nat):Src K (Itd ((n:Int) - 1) n) H J (zaF 0 n).reverse:=by
 intro H2 J2 k ja;have hl:(zaF 0 n).length=n:=by simp[zaF]
 rw[wbh,hl];refine⟨wam _,fun i d hd=>?_⟩;have hi:i<n:=by
  have:=(wal.mp hd).1
  rwa [wbh,hl] at this
 refine⟨hi,fun x H3 y=>?_⟩;obtain⟨rfl,rfl⟩:=y;rw[List.getElem?_reverse (by rw[hl];exact hi),hl] at hd;unfold zaF at hd;rw[waw,wcu (by omega)] at hd;cases hd;refine⟨J2,Up.refl ja,?_⟩;have e:(n:Int) - 1 - (i:Int)=0+((n - 1 - i:Nat):Int):=by omega
 rw[e];exact .int _
theorem zod {tg:Expr}{pos2:Pos}(B:Blt X.mg)(ha:VA X [a] fl)(hg:Gl X "range":=by rfl)(hg2:Gl X "reversed":=by rfl)(hs:starEach [a] X.env = [(false,eval a X.env)]:=by rfl)
 (hs2:starEach [.Call (.Name "range" p) [a] [] pos] X.env = [(false,eval (.Call (.Name "range" p) [a] [] pos) X.env)]:=by rfl):VI X tg (.Call (.Name "reversed" p2) [.Call (.Name "range" p) [a] [] pos] [] pos2) (aRevR fl):=by
 obtain⟨t,p,g⟩:=ha;refine⟨_,zkI hg (B.get "range") hg2 (B.get "reversed") p hs hs2,?_⟩;intro Hz Jz O ρ σ H J ds R s e w;obtain⟨l,e1,eA⟩:=bind_some e;obtain⟨j,e2,eB⟩:=bind_some eA;by_cases hj:0<=j/\j<=1000000
 ·rw[if_pos hj] at eB;cases eB;refine g Hz Jz O ρ σ H J _ _ s e1 fun vs H1 J1 u1 r1=>?_
  match l,e2,r1 with
  | [.int i],e2,r1=>
    cases e2;cases r1 with
    | cons h t=>
      cases t;cases h;have ej:j - 1=((j.toNat:Nat):Int) - 1:=by omega
      refine⟨j,rfl,by omega,by omega,?_⟩;rw[ej];exact w _ H1 J1 u1 (ziS _)
 ·rw[if_neg hj] at eB;cases eB
def Itv (K:W.Frag)(a:Addr)(n:Nat):It:=
 ⟨fun i H=>i<n/\∃xs x,SqL K H a xs/\xs.length=n/\xs[n - 1 - i]?=some x,fun i H x H'=>H'=H/\∀xs,SqL K H a xs->xs[n - 1 - i]?=some x,fun i _=>n<=i⟩
theorem ziT {P:Program}{w:World}{K:W.Frag}{tg:Expr}(a it:Addr)(n:Nat):Turn P w K tg (Itv K a n) [it] it (fun i h=>i<=n/\h.IsRevIter it a ((n:Int) - 1 - (i:Int))) where
 mem:=by simp
 obj:=fun i h st b hb=>by
  have e:b=it:=by simpa using hb
  subst e;obtain⟨_,o,e,c,d⟩:=st;exact⟨o,e,fun v z=>by rw[d] at z;cases z⟩
 keep:=fun i h h' st k=>⟨st.1,st.2.at fun o e=>k it (by simp) o e⟩
 item:=by
  intro X hP hw hK hc i pins s σ H E I hf st hg;subst hP hw hK;obtain⟨hlt,xs,x,hq,hn,hx⟩:=hg;obtain⟨its,rv,p,hz⟩:=I.list hq;obtain⟨u,hu,ru⟩:=rv.get hx;obtain⟨f0,f1,f2,f3,f4,f5⟩:=hf it (by simp);have e1:(n:Int) - 1 - (i:Int)=((n - 1 - i:Nat):Int):=by omega
  have st':=st.2
  rw[e1] at st';refine wpAny_pyNext_rev_item st' p.isList (x:=u) (by simpa using hu) fun h' st2 sb=>?_
  have I1:Inv X pins σ H {s with heap:=h'}:=I.turned (t':=s.toks) (fun b o hb e=>(sb.2 b hb).trans e) f0 f1 f3 f4 f5
  obtain⟨o,e,c,d⟩:=id st2;have e2:((n - 1 - i:Nat):Int) - 1=(n:Int) - 1 - ((i+1:Nat):Int):=by omega
  rw[e2] at st2;exact⟨u,rfl,zgR (s:={s with heap:=h'}) e c d (by decide) ⟨x,H,I1,ru,⟨rfl,fun ys hy=>by rw[I.list_inj hy hq];exact hx⟩,⟨hlt,st2⟩,fun b hb=>(hf b hb).1⟩⟩
 done:=by
  intro X hP hw hK hc i pins s σ H E I hf st hg;subst hP hw hK;obtain⟨f0,f1,f2,f3,f4,f5⟩:=hf it (by simp);have hi:n<=i:=hg
  have e1:(n:Int) - 1 - (i:Int) = -1:=by have:=st.1;omega
  have st':=st.2
  rw[e1] at st';exact wpAny_pyNext_rev_end (I.ok.hd hc) st' fun h' eb=>⟨rfl,I.turned (t':=s.toks) (fun b o hb e=>eb b o hb e) f0 f1 f3 f4 f5⟩
 self:=fun _ _ _ _ _ st h=>wpAny_pyIter_revIter st.2 h
def zoe (K:W.Frag)(ta:TA):TI:=fun σ H R=>ta σ H fun vs H1=>∃a xs,vs = [.ref a]/\SqL K H1 a xs/\R (Itv K a xs.length) H1
theorem zkY {tg:Expr}{ta:TA}(hg:Gl X "reversed")(hm:X.mg "reversed"=none)(ha:PA X [a] ta)(hs:starEach [a] X.env = [(false,eval a X.env)]:=by rfl):PI X tg (.Call (.Name "reversed" p) [a] [] pos) (zoe X.K ta):=by
 intro pins s σ H R I h;refine waG (zb0 I hg hm boot_reversed ?_ (by decide) (by decide));refine waK (thn (ha pos pins s σ H _ I h) fun us s1 ⟨vs,H1,I1,r1,q1⟩ =>?_) hs rfl;obtain⟨a,xs,rfl,hq,q⟩:=q1;cases r1 with
 | cons r rr=>
   cases rr;cases r;obtain⟨its,rv,pl,hz⟩:=I1.list hq;refine call_reversed_list pl.isList ?_;have e0:((its.toArray.size:Nat):Int) - 1=(xs.length:Int) - 1 - ((0:Nat):Int):=by simp[rv.length]
   rw[e0];have st:(s1.heap.push (revObj a ((xs.length:Int) - 1 - ((0:Nat):Int)))).IsRevIter s1.heap.objs.size a ((xs.length:Int) - 1 - ((0:Nat):Int)):=⟨_,war _ rfl,rfl,rfl⟩
   refine wpAny_pyIter_revIter st ?_;refine⟨s1.heap.objs.size,[s1.heap.objs.size],_,_,H1,rfl,I1.kept (t':=s1.toks) fun b o e=>wab _ e,ziT a _ xs.length,⟨wbo _,st⟩,fun b hb=>?_,q⟩;have e:b=s1.heap.objs.size:=by simpa using hb
   subst e;exact I1.fpOk (wam _) (I1.hok.fresh (wam _))
def zmR:List D->Option (List D)
 | [.lst ds]=>some ds
 | _=>none
def zof (f:FA):FA:=fun ρ=>(f ρ).bind fun l=>(zmR l).bind fun ds=>some ds.reverse
theorem zkZ {tg:Expr}(B:Blt X.mg)(ha:VA X [a] fl)(hg:Gl X "reversed":=by rfl)(hs:starEach [a] X.env = [(false,eval a X.env)]:=by rfl):VI X tg (.Call (.Name "reversed" p) [a] [] pos) (zof fl):=by
 obtain⟨t,p,g⟩:=ha;refine⟨_,zkY hg (B.get "reversed") p hs,?_⟩;intro Hz Jz O ρ σ H J ds R s e w;obtain⟨l,e1,eA⟩:=bind_some e;obtain⟨xs,e2,eB⟩:=bind_some eA;cases eB;refine g Hz Jz O ρ σ H J _ _ s e1 fun vs H1 J1 u1 r1=>?_
 match l,e2,r1 with
 | [.lst _],e2,r1=>
   cases e2;cases r1 with
   | cons h t=>
     cases t;cases h with
     | lst h j r=>
       rename_i p vs
       refine⟨p,vs,rfl,SqL.of h,w _ H1 J1 u1 fun H2 J2 k ja=>?_⟩;have h2:=k.jo _ _ j h
       rw[wbh,<-r.length];refine⟨wam _,fun i d hd=>?_⟩;have hi:i<vs.length:=by
        have:=(wal.mp hd).1
        rwa [wbh,<-r.length] at this
       rw[List.getElem?_reverse (by rw[<-r.length];exact hi),<-r.length] at hd;obtain⟨v,hv,rv⟩:=r.get hd;refine⟨⟨hi,vs,v,SqL.of h2,rfl,hv⟩,fun x H3 y=>?_⟩;obtain⟨rfl,y⟩:=y;have e:=y _ (SqL.of h2)
       rw[hv] at e;cases e;exact⟨J2,Up.refl ja,rv.keep k⟩
end
section
variable {X:Cx}{K:W.Frag}{a b c e:Expr}{es:List Expr}{fa fb:FX}{fe fk fv:FE}{fl:FA}{fr:FR}{pos p p2:Pos}
def isL2:Option (Nat×D)->Bool
 | some (2,.lst _)=>true
 | _=>false
def xPop (i:Nat):FX:=fun ρ=>match ownD (ρ[i]?) with
 | some (1,.lst ds)=>(ds[ds.length - 1]?).bind fun d=>some (d,setO ρ i (.lst ds.dropLast))
 | _=>none
def zj7 (i:Nat)(f:FX):FX:=fun ρ=>if isL1 (ownD (ρ[i]?))=true then(f ρ).bind fun q=>(dInt q.1).bind fun k=>match ownD (q.2[i]?) with
 | some (1,.lst ds)=>if -1000000<=k/\k<=1000000 then(seqIndex? k ds.length).bind fun j=>(ds[j]?).bind fun d=>some (d,setO q.2 i (.lst (ds.eraseIdx j))) else none
 | _=>none
 else none
end
section
variable {X:Cx}{K:W.Frag}{fa:FX}{fr:FR}
theorem zk0 {i:Nat}{t:TE}(q:GoR K t fr):GoS K (tAsg t (zdq i)) (gOwnR i fr):=by
 intro Hz Jz O ρ σ H J o E s e w;obtain⟨⟨r,ρ1⟩,e1,eA⟩:=bind_some e;cases r with
 | told d=>cases eA
 | new n d=>
   have eA:(if i<ρ1.length/\isPar (ρ1[i]?)=false then some (Out.nx (ρ1.set i (.own n d))) else none)=some o:=eA
   by_cases hi:i<ρ1.length/\isPar (ρ1[i]?)=false
   ·rw[if_pos hi] at eA;cases eA;exact q Hz Jz O ρ σ H J _ ρ1 _ s e1 fun v H' J' s' k r=>w _ H' J' (s'.take r hi.1 (zaP hi.2)) k
   ·rw[if_neg hi] at eA;cases eA
theorem ziU (N:List Str)(st:Stmt){i:Nat}{x:Str}{elt iter tg:Expr}{scope:Scope}{pos pos' cp:Pos}{NC:List Str}(fr:List (Option Nat)){fi:FA}{g:FG}{is:List Nat}{fe:FA}(hND:X.N.Nodup)(hix:X.N[i]?=some x)(hx:Loc X.env.scope x)(hcalm:X.calm=true)(hi:VI X tg iter fi)
 (hcells:∀x,X.env.scope.names.lookup x=some .cell->∃c,X.env.cells.lookup x=some c) (hfk:X.env.scope.kind=.function) (hN:X.N=N) (hsc:X.env.scope.names=(zab st).names)
 (hfree':∀y∈scope.names,y.2=.free->(zab st).names.lookup y.1=some .cell) (hcell:∀y∈scope.names,y.2≠.cell) (hkind:scope.kind=.function) (hnames:∀y∈scope.names,y.2=.local->scope.names.lookup y.1=some .local)
 (hfr':zcg N (zab st).names scope.names NC fr=true) (hlen:fr.length=NC.length) (hap:apart is fr=true)
 (hg:∀cl C s0 H0 ex pn,VG (cxC X scope cl NC C s0 H0 ex pn) tg is g) (he:∀cl C s0 H0 ex pn,VN (cxC X scope cl NC C s0 H0 ex pn) elt fe)
 (hs:∀x,foldedSetIterable iter X.env x=pure x:=by intro _;rfl) (hsw:swapsWith (.ListComp elt [⟨tg,iter,[],0⟩] scope cp) (some (.Name x pos')) pos.line X.env=pure true:=by rfl)
 (hf:X.fn x=true\/X.env.scope.names.lookup x=some .local:=by first | exact .inl rfl | exact .inr rfl | assumption) :
 VS X (.Assign [.Name x pos'] (.ListComp elt [⟨tg,iter,[],0⟩] scope cp) pos) (gOwnR i (zj6 fr fi g fe)):=by
 obtain⟨wi,pi,gi⟩:=hi;obtain⟨_,_,hon,_⟩:=hg [] 0 X.s₀ X.Hz [] [];have p:=zkJ N st (i:=i) (pos:=pos) (pos':=pos') (cp:=cp) fr hND hix hx hcalm pi hcells hfk hN hsc hfree' hcell hkind hnames hfr' hlen (fun cl C s0 H0 ex pn=>show PG (cxC X scope cl NC C s0 H0 ex pn) tg (TGof X.K g) from(hg cl C s0 H0 ex pn).of) (fun cl C s0 H0 ex pn=>show PTs (cxC X scope cl NC C s0 H0 ex pn) [] (TTof X.K tTrue) from zc9) (fun cl C s0 H0 ex pn=>show PE (cxC X scope cl NC C s0 H0 ex pn) elt (TNof X.K fe) from(he cl C s0 H0 ex pn).of) hs hsw hf
 exact⟨_,p,zk0 (ziR gi hon hap)⟩
end
def zk1 (ρ:En)(i:Nat):En:=if isPar (ρ[i]?)=false then ρ.set i .un else ρ
def dropE (is:List Nat)(ρ:En):En:=is.foldl zk1 ρ
theorem ST.dropE {K:W.Frag}{Hz H:Hp}{Jz J:Addr->Prop}{O:Pr}{σ:L2.St}:∀(is:List Nat) {ρ:En},ST K Hz Jz O ρ σ H J->ST K Hz Jz O (dropE is ρ) σ H J
 | [],_,s=>s
 | i::is,ρ,s=>by
   refine ST.dropE is (ρ:=zk1 ρ i) ?_;unfold zk1;by_cases h:isPar (ρ[i]?)=false
   ·rw[if_pos h];exact s.drop fun n d z=>by rw[z] at h;cases h
   ·rw[if_neg h];exact s
def zk2 (is:List Nat)(g:FS):FS:=fun ρ=>g (dropE is ρ)
section
variable {X:Cx}{sts:List Stmt}{g:FS}
theorem zaA (is:List Nat)(h:VSs X sts g):VSs X sts (zk2 is g):=by
 obtain⟨t,p,q⟩:=h;exact⟨t,p,fun Hz Jz O ρ σ H J o E s e w=>q Hz Jz O _ σ H J o E (s.dropE is) e w⟩
end
def EvS {R A:Type}(k:Out->Option R)(φ:A->Option R)(g:FS)(ρ:En)(a:Option A):Prop:=∀r,a.bind φ=some r->(g ρ).bind k=some r
def Step {α:Type}(g:FS)(ρ:En)(x:Option α)(ρ':α->En):Prop:=∀d,x=some d->g ρ=some (.nx (ρ' d))
def okS (i:Nat)(ρ:En):Bool:=decide (i<ρ.length) && !isPar (ρ[i]?)
theorem zcj {i:Nat}{ρ:En}(h:okS i ρ=true):i<ρ.length/\isPar (ρ[i]?)=false:=by
 unfold okS at h;simpa using h
section
variable {R A α S:Type}{k:Out->Option R}{φ:A->Option R}{g g2 a b:FS}{ρ:En}{x:Option α}{ρ':α->En}{c:FT}{e:FE}{fl:FA}
theorem zaa {β γ:Type}{x:Option β}{f:β->Option γ}{r:γ}(h:x.bind f=some r):∃y,x=some y/\f y=some r:=by
 cases x with
 | none=>cases h
 | some y=>exact⟨y,rfl,h⟩
theorem zai {K:α->Option A}(s:Step g ρ x ρ')(h:∀d,EvS k φ g2 (ρ' d) (K d)):EvS k φ (gSeq g g2) ρ (x.bind K):=fun r e=>by
 obtain⟨y,e,e2⟩:=zaa e;obtain⟨d,e0,e⟩:=zaa e;unfold gSeq;rw[s d e0];exact h d r (by rw[e];exact e2)
theorem zmS {K:α->Option A}(s:Step g ρ x ρ')(h:∀d r,(K d).bind φ=some r->k (.nx (ρ' d))=some r):EvS k φ g ρ (x.bind K):=fun r e=>by
 obtain⟨y,e,e2⟩:=zaa e;obtain⟨d,e0,e⟩:=zaa e;rw[s d e0];exact h d r (by rw[e];exact e2)
theorem zaT {a:Option A}(h:∀r,a.bind φ=some r->k (.nx ρ)=some r):EvS k φ gNx ρ a:=fun r e=>h r e
theorem zd3 {a:Option A}(h:EvS k φ g ρ a):EvS k φ (gSeq gNx g) ρ a:=h
theorem zf1 (i:Nat){a:Option A}(h:EvS k φ g (frzE i ρ) a):EvS k φ (fun ρ=>g (frzE i ρ)) ρ a:=h
theorem zaM (is:List Nat){a:Option A}(h:EvS k φ g (dropE is ρ) a):EvS k φ (zk2 is g) ρ a:=h
theorem zog {a' b':Option A}(h1:EvS k φ a ρ a')(h2:EvS k φ b ρ b'):EvS k φ (gIf c a b) ρ ((c ρ).bind fun t=>if t then a' else b'):=fun r e=>by
 obtain⟨y,e,e2⟩:=zaa e;obtain⟨t,e0,e⟩:=zaa e;unfold gIf;rw[e0,zOB];cases t with
 | true=>exact h1 r (by rw[if_pos rfl] at e;rw[e];exact e2)
 | false=>exact h2 r (by rw[if_neg (by decide)] at e;rw[e];exact e2)
def kx (k:Out->Option R):Out->Option R
 | .nx _=>none
 | o=>k o
theorem zj8 {r:R}(h:(a ρ).bind (kx k)=some r):(gSeq a g ρ).bind k=some r:=by
 unfold gSeq;cases z:a ρ with
 | none=>rw[z] at h;cases h
 | some o=>rw[z] at h;cases o <;> first | cases h | exact h
theorem zck {a' b':Option A}(h1:EvS (kx k) φ a ρ a')(h2:EvS k φ (gSeq b g) ρ b'):EvS k φ (gSeq (gIf c a b) g) ρ ((c ρ).bind fun t=>if t then a' else b'):=fun r e=>by
 obtain⟨y,e,e2⟩:=zaa e;obtain⟨t,e0,e⟩:=zaa e;cases t with
 | true=>
   have:=zj8 (g:=g) (h1 r (by rw[if_pos rfl] at e;rw[e];exact e2))
   unfold gSeq gIf at *;rw[e0];exact this
 | false=>
   have:=h2 r (by rw[if_neg (by decide)] at e;rw[e];exact e2)
   unfold gSeq gIf at *;rw[e0];exact this
theorem zk3 {a':Option A}(h:a'=none):EvS k φ gNo ρ a':=fun r e=>by rw[h] at e;cases e
theorem zat {K:D->Option A}(h:∀d r,(K d).bind φ=some r->k (.ret (.told d) ρ)=some r):EvS k φ (gRet e) ρ ((e ρ).bind K):=fun r z=>by
 obtain⟨y,z,z2⟩:=zaa z;obtain⟨d,e0,z⟩:=zaa z;unfold gRet;rw[e0];exact h d r (by rw[z];exact z2)
theorem zfw {K:List D->Option A}(h:∀ds r,(K ds).bind φ=some r->k (.ret (.new 1 (.lst ds)) ρ)=some r):EvS k φ (gRetN fl) ρ ((fl ρ).bind K):=fun r z=>by
 obtain⟨y,z,z2⟩:=zaa z;obtain⟨d,e0,z⟩:=zaa z;unfold gRetN;rw[e0];exact h d r (by rw[z];exact z2)
theorem zaH {i:Nat}(h:okS i ρ=true):Step (gSet i e) ρ (e ρ) fun d=>ρ.set i (.val d):=fun d z=>by
 unfold gSet;rw[z,zOB,if_pos (zcj h)]
theorem zdB {i:Nat}(h:okS i ρ=true):Step (gOwn i fl) ρ (fl ρ) fun ds=>ρ.set i (.own 1 (.lst ds)):=fun d z=>by
 unfold gOwn;rw[z,zOB,if_pos (zcj h)]
def appL (xs:List D)(d:D):Option (List D):=if xs.length<lim then some (xs++[d]) else none
def extL (xs:List D)(d:D):Option (List D):=match d with | .lst es=>if(xs++es).length<=lim then some (xs++es) else none | _=>none
theorem zdC {i:Nat}{xs:List D}(h:ownD (ρ[i]?)=some (1,.lst xs)):Step (gApp i e) ρ ((e ρ).bind (appL xs)) fun ys=>setO ρ i (.lst ys):=fun d z=>by
 obtain⟨y,e0,z⟩:=zaa z;unfold gApp;rw[e0,zOB,h];unfold appL at z;split at z
 ·rename_i q;cases z;exact if_pos q
 ·cases z
theorem zj9 {i:Nat}{xs:List D}(h:ownD (ρ[i]?)=some (1,.lst xs)):Step (gExt i e) ρ ((e ρ).bind (extL xs)) fun ys=>setO ρ i (.lst ys):=fun d z=>by
 obtain⟨y,e0,z⟩:=zaa z;unfold gExt;rw[e0,zOB,h];unfold extL at z;cases y <;> try cases z
 rename_i es
 have z:(if(xs++es).length<=lim then some (xs++es) else none)=some d:=z
 split at z
 ·rename_i q;cases z;exact if_pos q
 ·cases z
def k0:Out->Option En
 | .nx ρ=>some ρ
 | _=>none
def kL:Out->Option En
 | .nx ρ=>some ρ
 | .ct ρ=>some ρ
 | _=>none
theorem zmT {emb:S->En}{a' b':Option S}(h1:EvS k0 (fun s=>some (emb s)) a ρ a')(h2:EvS k0 (fun s=>some (emb s)) b ρ b'):Step (gIf c a b) ρ ((c ρ).bind fun t=>if t then a' else b') emb:=fun s z=>by
 have:=zog (c:=c) h1 h2 (emb s) (by rw[z];rfl)
 obtain⟨o,e1,e2⟩:=zaa this;rw[e1];cases o <;> cases e2
 rfl
end
def Tg {α:Type}(tg:FG)(d:D)(ρ:En)(x:Option α)(ρ':α->En):Prop:=∀y,x=some y->tg d ρ=some (ρ' y)
section
variable {d:D}{ρ:En}
theorem tg_n {i:Nat}(h:okS i ρ=true):Tg (gN i) d ρ (some d) fun d=>ρ.set i (.val d):=fun y e=>by
 cases e;unfold gN;rw[if_pos (zcj h)]
def un2:D->Option (D×D)
 | .tup [a,b]=>some (a,b)
 | _=>none
theorem ziV {d:D}{y:D×D}(h:un2 d=some y):d=.tup [y.1,y.2]:=by
 unfold un2 at h;split at h
 ·cases h;rfl
 ·cases h
theorem zmU {i:Nat}{d:D}{ρ:En}(h:okS i ρ=true):gN i d ρ=some (ρ.set i (.val d)):=by unfold gN;rw[if_pos (zcj h)]
theorem tg_2 {i j:Nat}(h1:okS i ρ=true)(h2:∀x,okS j (ρ.set i (.val x))=true):Tg (gT 2 (gCons' (gN i) (gCons' (gN j) gNil'))) d ρ (un2 d) fun y=>(ρ.set i (.val y.1)).set j (.val y.2):=fun y e=>by
 rw[ziV e];show((gN i y.1 ρ).bind fun ρ1=>(gN j y.2 ρ1).bind fun ρ2=>gNil' [] ρ2)=_
 rw[zmU h1,zOB,zmU (h2 _)];rfl
end
def zaN {S:Type}(f:S->D->Option S):S->List D->Option S
 | s,[]=>some s
 | s,d::ds=>(f s d).bind fun s=>zaN f s ds
theorem zka {α S:Type}{ρ:En}{fi:FA}{tg:FG}{b:FS}{x:D->Option α}{emb:S->En}{ρ1:S->α->En}{step:S->α->Option S}{s0:S}(h0:emb s0=ρ)(ht:∀s d,Tg tg d (emb s) (x d) (ρ1 s))(hb:∀s y,EvS kL (fun s=>some (emb s)) b (ρ1 s y) (step s y)) :
 Step (gFor fi tg b) ρ ((fi ρ).bind (zaN (fun s d=>(x d).bind (step s)) s0)) emb:=fun s z=>by
 have key:∀(ds:List D) (s0:S),zaN (fun s d=>(x d).bind (step s)) s0 ds=some s->forL tg b ds (emb s0)=some (.nx (emb s)):=by
  intro ds;induction ds with
  | nil=>intro s0 q;cases q;rfl
  | cons d ds ih=>
    intro s0 q;obtain⟨s1,e1,q1⟩:=zaa q;obtain⟨y,e2,e5⟩:=zaa e1;have hb1:=hb s0 y (emb s1) (by rw[e5];rfl)
    obtain⟨o,e3,e4⟩:=zaa hb1;unfold forL;rw[ht s0 d y e2,zOB,e3,zOB];cases o <;> cases e4 <;> exact ih _ q1
 obtain⟨ds,e0,z1⟩:=zaa z;unfold gFor;rw[e0,zOB,<-h0];exact key ds s0 z1
inductive Fl (S A:Type) where
 | nx (s:S) | bk (s:S) | ret (a:A)
def zbg {S A:Type}(f:S->D->Option (Fl S A)):S->List D->Option (Fl S A)
 | s,[]=>some (.nx s)
 | s,d::ds=>(f s d).bind fun o=>match o with
   | .nx s=>zbg f s ds
   | .bk s=>some (.nx s)
   | .ret a=>some (.ret a)
def kR {R:Type}(k:Out->Option R):Out->Option (Fl En R)
 | .nx ρ=>some (.nx ρ)
 | .ct ρ=>some (.nx ρ)
 | .bk ρ=>some (.bk ρ)
 | .ret v ρ=>(k (.ret v ρ)).map .ret
def fR {S A R:Type}(φ:A->Option R)(emb:S->En):Fl S A->Option (Fl En R)
 | .nx s=>some (.nx (emb s))
 | .bk s=>some (.bk (emb s))
 | .ret a=>(φ a).map .ret
theorem zkb {α S A R:Type}{k:Out->Option R}{φ:A->Option R}{ρ:En}{fi:FA}{tg:FG}{b g:FS}{x:D->Option α}{emb:S->En}{ρ1:S->α->En}{step:S->α->Option (Fl S A)}{K:S->Option A}{s0:S}(h0:emb s0=ρ)(ht:∀s d,Tg tg d (emb s) (x d) (ρ1 s))(hb:∀s y,EvS (kR k) (fR φ emb) b (ρ1 s y) (step s y))(hk:∀s,EvS k φ g (emb s) (K s)) :
 EvS k φ (gSeq (gFor fi tg b) g) ρ ((fi ρ).bind fun ds=>(zbg (fun s d=>(x d).bind (step s)) s0 ds).bind fun o=>match o with | .nx s=>K s | .bk s=>K s | .ret a=>some a):=fun r z=>by
 have key:∀(ds:List D) (s0:S) (v:A) (o:Fl S A),zbg (fun s d=>(x d).bind (step s)) s0 ds=some o->(match o with | .nx s=>K s | .bk s=>K s | .ret a=>some a)=some v->φ v=some r->((forL tg b ds (emb s0)).bind fun o=>match o with | .nx ρ'=>g ρ' | .bk ρ'=>some (.bk ρ') | .ct ρ'=>some (.ct ρ') | .ret d ρ'=>some (.ret d ρ')).bind k=some r:=by
  intro ds;induction ds with
  | nil=>
    intro s0 v o q1 q2 q3;cases q1;exact hk s0 r (by rw[show K s0=some v from q2];exact q3)
  | cons d ds ih=>
    intro s0 v o q1 q2 q3;obtain⟨o1,e1,q4⟩:=zaa q1;obtain⟨y,e2,e5⟩:=zaa e1;unfold forL;rw[ht s0 d y e2,zOB];cases o1 with
    | nx s1=>
      have hb1:=hb s0 y (.nx (emb s1)) (by rw[e5];rfl)
      obtain⟨ob,e3,e4⟩:=zaa hb1;rw[e3,zOB];have ih:=ih s1 v o q4 q2 q3
      cases ob with
      | nx ρ2=>cases e4;exact ih
      | ct ρ2=>cases e4;exact ih
      | bk ρ2=>cases e4
      | ret v ρ2=>
        have e4:(k (.ret v ρ2)).map Fl.ret=some (Fl.nx (emb s1)):=e4
        cases h:k (.ret v ρ2) <;> rw[h] at e4 <;> cases e4
    | bk s1=>
      cases q4;have q2:K s1=some v:=q2
      have hb1:=hb s0 y (.bk (emb s1)) (by rw[e5];rfl)
      obtain⟨ob,e3,e4⟩:=zaa hb1;rw[e3,zOB];cases ob with
      | nx ρ2=>cases e4
      | ct ρ2=>cases e4
      | bk ρ2=>cases e4;exact hk s1 r (by rw[q2];exact q3)
      | ret v ρ2=>
        have e4:(k (.ret v ρ2)).map Fl.ret=some (Fl.bk (emb s1)):=e4
        cases h:k (.ret v ρ2) <;> rw[h] at e4 <;> cases e4
    | ret a=>
      cases q4;cases q2;have hb1:=hb s0 y (.ret r) (by rw[e5];show(φ _).map Fl.ret=_;rw[q3];rfl)
      obtain⟨ob,e3,e4⟩:=zaa hb1;rw[e3,zOB];cases ob with
      | nx ρ2=>cases e4
      | ct ρ2=>cases e4
      | bk ρ2=>cases e4
      | ret v ρ2=>
        have e4:(k (.ret v ρ2)).map Fl.ret=some (Fl.ret r):=e4
        cases h:k (.ret v ρ2) with
        | none=>rw[h] at e4;cases e4
        | some r'=>rw[h] at e4;cases e4;exact h
 obtain⟨v,z1,z2⟩:=zaa z;obtain⟨ds,e0,z3⟩:=zaa z1;obtain⟨o,z4,z5⟩:=zaa z3;unfold gSeq gFor;rw[e0,zOB,<-h0];exact key ds s0 v o z4 z5 z2
def aC (x:Option D)(xs:Option (List D)):Option (List D):=x.bind fun d=>xs.bind fun ds=>some (d::ds)
def aN:Option (List D):=some []
def zfx (f:D->Option (Option D))(ds:List D):Option (List D):=(zcR f ds).bind fun out=>if out.length<=lim then some out else none
def zoh (l:List D):Option (List D):=(a1Tup l).bind fun ds=>some (zeJ ds)
def rngA (l:List D):Option (List D):=(a1Int l).bind fun j=>if -1000000<=j/\j<=1000000 then some (zaF 0 j.toNat) else none
def zoi (l:List D):Option (List D):=(zmR l).bind fun ds=>some ds.reverse
def mkLs (ds:List D):Option (List D):=if ds.length<=lim then some ds else none
def flK {S A:Type}(K:S->Option A):Fl S A->Option A
 | .nx s=>K s
 | .bk s=>K s
 | .ret a=>some a
section
variable {α S A R:Type}{k:Out->Option R}{φ:A->Option R}{ρ:En}{fi:FA}{b g:FS}{emb:S->En}{s0:S}
theorem zd4 {i:Nat}{step:S->D->Option S}(h0:emb s0=ρ)(hi:∀s,okS i (emb s)=true)(hb:∀s d,EvS kL (fun s=>some (emb s)) b ((emb s).set i (.val d)) (step s d)) :
 Step (gFor fi (gN i) b) ρ ((fi ρ).bind (zaN step s0)) emb:=
 zka (x:=fun d=>some d) (step:=step) h0 (fun s d=>tg_n (hi s)) hb
theorem zhw {i j:Nat}{step:S->D×D->Option S}(h0:emb s0=ρ)(hi:∀s,okS i (emb s)=true)(hj:∀s x,okS j ((emb s).set i (.val x))=true)(hb:∀s y,EvS kL (fun s=>some (emb s)) b (((emb s).set i (.val y.1)).set j (.val y.2)) (step s y)) :
 Step (gFor fi (gT 2 (gCons' (gN i) (gCons' (gN j) gNil'))) b) ρ ((fi ρ).bind (zaN (fun s d=>(un2 d).bind (step s)) s0)) emb:=
 zka (x:=un2) (step:=step) h0 (fun s d=>tg_2 (hi s) (hj s)) hb
theorem zcF {i:Nat}{step:S->D->Option (Fl S A)}{K:S->Option A}(h0:emb s0=ρ)(hi:∀s,okS i (emb s)=true)(hb:∀s d,EvS (kR k) (fR φ emb) b ((emb s).set i (.val d)) (step s d))(hk:∀s,EvS k φ g (emb s) (K s)) :
 EvS k φ (gSeq (gFor fi (gN i) b) g) ρ ((fi ρ).bind fun ds=>(zbg step s0 ds).bind (flK K)):=fun r z=>
 zkb (x:=fun d=>some d) (step:=step) h0 (fun s d=>tg_n (hi s)) hb hk r (by
  rw[<-z];congr 1)
theorem zk4 {i j:Nat}{step:S->D×D->Option (Fl S A)}{K:S->Option A}(h0:emb s0=ρ)(hi:∀s,okS i (emb s)=true)(hj:∀s x,okS j ((emb s).set i (.val x))=true)(hb:∀s y,EvS (kR k) (fR φ emb) b (((emb s).set i (.val y.1)).set j (.val y.2)) (step s y))(hk:∀s,EvS k φ g (emb s) (K s)) :
 EvS k φ (gSeq (gFor fi (gT 2 (gCons' (gN i) (gCons' (gN j) gNil'))) b) g) ρ ((fi ρ).bind fun ds=>(zbg (fun s d=>(un2 d).bind (step s)) s0 ds).bind (flK K)):=fun r z=>
 zkb (x:=un2) (step:=step) h0 (fun s d=>tg_2 (hi s) (hj s)) hb hk r (by
  rw[<-z];congr 1)
end
def zoj (x k v:D):Option D:=(keyD k).bind fun k=>match x with
 | .dct ks ds=>if ks.length<lim then some (.dct (putKD ks ds k v).1 (putKD ks ds k v).2) else none
 | _=>none
theorem zok {i:Nat}{ρ:En}{fk f:FE}{x:D}(h:ownD (ρ[i]?)=some (1,x)):Step (gPutD i fk (xE f)) ρ ((f ρ).bind fun v=>(fk ρ).bind fun k=>zoj x k v) fun y=>setO ρ i y:=fun d z=>by
 obtain⟨v,e0,z1⟩:=zaa z;obtain⟨kk,e1,z2⟩:=zaa z1;obtain⟨key,e2,z3⟩:=zaa z2;unfold gPutD xE;rw[e0,zOB,zOB];show(fk ρ).bind _=_
 rw[e1,zOB,e2,zOB];show(match ownD (ρ[i]?) with | some (1,.dct ks ds)=>_ | _=>_)=_
 rw[h];cases x <;> try cases z3
 rename_i ks ds
 have z3:(if ks.length<lim then some (D.dct (putKD ks ds key v).1 (putKD ks ds key v).2) else none)=some d:=z3
 split at z3
 ·rename_i q;cases z3;exact if_pos q
 ·cases z3
def zmV (xs:List D)(k v:D):Option (List D):=(dInt k).bind fun k=>(ixN xs.length k).bind fun j=>some (xs.set j v)
theorem zk5 {i:Nat}{ρ:En}{fk f:FE}{xs:List D}(h:ownD (ρ[i]?)=some (1,.lst xs)):Step (gPutL i fk (xE f)) ρ ((f ρ).bind fun v=>(fk ρ).bind fun k=>zmV xs k v) fun ys=>setO ρ i (.lst ys):=fun d z=>by
 obtain⟨v,e0,z1⟩:=zaa z;obtain⟨kk,e1,z2⟩:=zaa z1;obtain⟨key,e2,z3⟩:=zaa z2;obtain⟨j,e3,z4⟩:=zaa z3;cases z4;unfold gPutL xE;rw[e0,zOB,zOB];show(fk ρ).bind _=_
 rw[e1,zOB,e2,zOB];show(match ownD (ρ[i]?) with | some (1,.lst ds)=>_ | _=>_)=_
 rw[h];show(ixN xs.length key).bind _=_
 rw[e3];rfl
theorem zk6 {i n:Nat}{ρ:En}{f:FR}{x:D}(hf:f ρ=some (.new n x,ρ))(h:okS i ρ=true):Step (gOwnR i f) ρ (some ()) fun _=>ρ.set i (.own n x):=fun d z=>by
 unfold gOwnR;rw[hf,zOB];exact if_pos (zcj h)
def kF:Out->Option D
 | .ret (.told d) _=>some d
 | .ret (.new _ d) _=>some d
 | .nx _=>some .non
 | _=>none
section
variable {P:Program}{w:World}{K:W.Frag}{mg:Str->Option Value}{base:Heap}
theorem zb1 {x qual:Str}{st:Stmt}{f:Addr}{fd:FuncData}{N ps:List Str}{k:Nat}{c:List D->Option D}(F:Fun K x qual st f fd)(S:FnScope N ps (zab st))(hlen:∀ds d,c ds=some d->ds.length=ps.length)
 (hbody:∀(cdv:Value) (A:Around) (outer:List Env) (s:Shared) (H:Hp) (E:XK),Room k (A.deeper (envOfC qual (zab st) s.heap.objs.size f cdv))->∃g,VSs (cxOf CX0 P w K mg base N qual (zab st) f cdv A outer s H E).nox (zaB st) g/\∀ds,ds.length=ps.length->EvS kF some g (ds.map SV.val++List.replicate (N.length - ps.length) .un) (c ds)):FnOk P w K mg base CX0 (k+1) f fd ps (spF K c):=by
 refine F.ok S (fun vs H Q E h=>?_) (fun cdv A outer s H vs Q E hr h=>?_)
 ·obtain⟨J,ds,d,ja,r,e,w⟩:=h;rw[r.length];exact hlen ds d e
 ·obtain⟨J,ds,d,ja,r,e,w⟩:=h;have hl:=hlen ds d e
  obtain⟨g,⟨t,p,q⟩,ev⟩:=hbody cdv A outer s H E hr;refine⟨t,p,?_⟩;have e:=ev ds hl d (by rw[e];rfl)
  rw[<-hl] at e;have s0:=zd0 (N:=N) ja r
  cases z:g (ds.map SV.val++List.replicate (N.length - ds.length) .un) with
  | none=>rw[z] at e;cases e
  | some o=>
    rw[z] at e;refine q H J Pr.no _ _ H J o _ s0 z ?_;cases o with
    | nx ρ'=>cases e;exact fun σ' H' J' s' k'=>w .non H' J' s'.out .non
    | ret r ρ'=>
      cases r with
      | told d'=>cases e;exact fun v σ' H' J' s' r'=>w v H' J' s'.out r'
      | new n d'=>
        cases e;rintro v σ' H' J' s' ⟨B,fp,_,ru,_,hb,_⟩;have u:=s'.out
        refine w v H' (fun b=>J' b\/b∈B) ⟨u.same,fun a h=>.inl (u.jj a h),fun a h=>?_,fun a h=>?_⟩ (ru.rp (fun _ h=>.inl h) (fun b hb=>.inr hb))
        ·rcases h with h | h
         ·exact u.jn a h
         ·exact .inr (hb a h).2
        ·rcases h with h | h
         ·exact u.ja a h
         ·obtain⟨o,e,_⟩:=ru.some a h;rw[e];simp
    | bk _=>cases e
    | ct _=>cases e
end
def c0 (b:Option D):List D->Option D | []=>b | _=>none
def c1 (b:D->Option D):List D->Option D | [x]=>b x | _=>none
def c2 (b:D->D->Option D):List D->Option D | [x,y]=>b x y | _=>none
def c3 (b:D->D->D->Option D):List D->Option D | [x,y,z]=>b x y z | _=>none
def c4 (b:D->D->D->D->Option D):List D->Option D | [x,y,z,u]=>b x y z u | _=>none
def c5 (b:D->D->D->D->D->Option D):List D->Option D | [x,y,z,u,v]=>b x y z u v | _=>none
def c6 (b:D->D->D->D->D->D->Option D):List D->Option D | [x,y,z,u,v,t]=>b x y z u v t | _=>none
theorem zdD {b:D->Option D}:∀ds d,c1 b ds=some d->ds.length=1:=fun ds d h=>by unfold c1 at h;split at h;rfl;cases h
theorem c2_len {b:D->D->Option D}:∀ds d,c2 b ds=some d->ds.length=2:=fun ds d h=>by unfold c2 at h;split at h;rfl;cases h
theorem c3_len {b:D->D->D->Option D}:∀ds d,c3 b ds=some d->ds.length=3:=fun ds d h=>by unfold c3 at h;split at h;rfl;cases h
section
variable {R:Type}{k:Out->Option R}{φ:D->Option R}{g:FS}{n:List SV}
theorem zhx {b:D->Option D}(h:∀x,EvS k φ g (.val x::n) (b x)):∀ds:List D,ds.length=1->EvS k φ g (ds.map SV.val++n) (c1 b ds)
 | [x],_=>h x
theorem zcS {b:D->D->Option D}(h:∀x y,EvS k φ g (.val x::.val y::n) (b x y)):∀ds:List D,ds.length=2->EvS k φ g (ds.map SV.val++n) (c2 b ds)
 | [x,y],_=>h x y
theorem zol {b:D->D->D->Option D}(h:∀x y z,EvS k φ g (.val x::.val y::.val z::n) (b x y z)):∀ds:List D,ds.length=3->EvS k φ g (ds.map SV.val++n) (c3 b ds)
 | [x,y,z],_=>h x y z
end
mutual
inductive Rh (h:Heap):Value->D->Prop
 | non:Rh h .none .non
 | bl (b:Bool):Rh h (.bool b) (.bl b)
 | int (i:Int) (t:Tok):Rh h (.int i t) (.int i)
 | str (x:Str) (t:Tok):Rh h (.str x t) (.str x)
 | tup {l:Addr}{us:List Value}{ds:List D}(p:h.IsTuple l us.toArray) (r:RhL h us ds):Rh h (.ref l) (.tup ds)
 | lst {l:Addr}{us:List Value}{ds:List D}(p:h.IsList l us.toArray) (r:RhL h us ds):Rh h (.ref l) (.lst ds)
inductive RhL (h:Heap):List Value->List D->Prop
 | nil:RhL h [] []
 | cons {u:Value}{d:D}{us:List Value}{ds:List D}(a:Rh h u d) (t:RhL h us ds):RhL h (u::us) (d::ds)
end
mutual
def ndD:D->Bool
 | .dct _ _=>false
 | .scr _=>false
 | .exc _ _ _=>false
 | .tup ds=>ndL ds
 | .lst ds=>ndL ds
 | _=>true
def ndL:List D->Bool
 | []=>true
 | d::ds=>ndD d&&ndL ds
end
mutual
def depD:D->Nat
 | .tup ds=>depL ds+1
 | .lst ds=>depL ds+1
 | _=>0
def depL:List D->Nat
 | []=>0
 | d::ds=>max (depD d) (depL ds)
end
mutual
def eqOk:D->D->Bool
 | .non,.non=>true
 | .non,.int _=>true
 | .non,.str _=>true
 | .int _,.non=>true
 | .str _,.non=>true
 | .int _,.int _=>true
 | .str _,.str _=>true
 | .int _,.str _=>true
 | .str _,.int _=>true
 | .bl _,.bl _=>true
 | .tup xs,.tup ys=>zd5 xs ys
 | .lst xs,.lst ys=>zd5 xs ys
 | .non,.tup _=>true
 | .tup _,.non=>true
 | .non,.lst _=>true
 | .lst _,.non=>true
 | _,_=>false
def zd5:List D->List D->Bool
 | x::xs,y::ys=>eqOk x y&&zd5 xs ys
 | _,_=>true
end
section
variable {X:Cx}{pins:List (Addr×Obj)}{σ:L2.St}{H:Hp}{J:Addr->Prop}{s:Shared}
mutual
theorem Rp.rh (I:Inv X pins σ H s){v:V}{d:D}:Rp X.K H J v d->ndD d=true->∀{u:Value},RelV v u->Rh s.heap u d
 | .non,_,_,q=>by cases q;exact .non
 | .bl b,_,_,q=>by cases q;exact .bl b
 | .int i,_,_,q=>by obtain⟨t,rfl⟩:=q;exact .int i t
 | .str x,_,_,q=>by obtain⟨t,rfl⟩:=q;exact .str x t
 | .tup h r,n,_,q=>by
   cases q;obtain⟨its,rv,pt,_⟩:=I.tuple h;exact .tup pt (RpL.rh I r n rv)
 | .lst h j r,n,_,q=>by
   cases q;obtain⟨its,rv,pt,_⟩:=I.list (SqL.of h);exact .lst pt.isList (RpL.rh I r n rv)
 | .dct h j ek ev r,n,_,q=>by cases n
 | .scr p,n,_,q=>by cases n
 | .exc _ _,n,_,q=>by cases n
theorem RpL.rh (I:Inv X pins σ H s){vs:List V}{ds:List D}:RpL X.K H J vs ds->ndL ds=true->∀{us:List Value},Vals vs us->RhL s.heap us ds
 | .nil,_,us,q=>by cases q;exact .nil
 | .cons h t,n,us,q=>by
   have n:(ndD _&&ndL _)=true:=n
   rw[waA] at n;cases q with
   | cons q1 q2=>exact .cons (Rp.rh I h n.1 q1) (RpL.rh I t n.2 q2)
end
theorem RpW.rh (I:Inv X pins σ H s){v:V}{d:D}(r:RpW X.K H J v d)(n:ndD d=true){u:Value}(q:RelV v u):Rh s.heap u d:=by
 rcases r with r | ⟨A,r⟩
 ·exact r.rh I n q
 ·have w:RpW X.K H J v d:=.inr ⟨A,r⟩
  cases r with
  | lst h r=>
    obtain⟨p,vs,e,hp,rl⟩:=w.lst;cases e;cases q;obtain⟨its,rv,pt,_⟩:=I.list (SqL.of hp);exact .lst pt.isList (RpL.rh I rl n rv)
  | dct h ek ev r=>cases n
end
section
variable {h:Heap}
theorem RhL.length:∀{us:List Value}{ds:List D},RhL h us ds->us.length=ds.length
 | _,_,.nil=>rfl
 | _,_,.cons _ t=>by simp[RhL.length t]
theorem RhL.get:∀{us:List Value}{ds:List D},RhL h us ds->∀(i:Nat) (hi:i<us.length) (hj:i<ds.length),Rh h us[i] ds[i]
 | _,_,.cons a _,0,_,_=>a
 | _,_,.cons _ t,i+1,hi,hj=>RhL.get t i (by simpa using hi) (by simpa using hj)
theorem zdc {l:Addr}{us ws:List Value}(p:h.IsTuple l us.toArray)(q:h.IsTuple l ws.toArray):us=ws:=by
 obtain⟨o,e,_,_,d⟩:=p;obtain⟨o',e',_,_,d'⟩:=q;rw[e] at e';cases e';rw[d] at d';injection d' with d1 _
 simpa using waZ Array.toList d1
theorem zdE {l:Addr}{us ws:List Value}(p:h.IsList l us.toArray)(q:h.IsList l ws.toArray):us=ws:=by
 obtain⟨o,e,_,_,d⟩:=p;obtain⟨o',e',_,_,d'⟩:=q;rw[e] at e';cases e';rw[d] at d';injection d' with d1 _
 simpa using waZ Array.toList d1
theorem zb2 {l:Addr}{us ws:Array Value}(p:h.IsTuple l us)(q:h.IsList l ws):False:=by
 obtain⟨o,e,c,_⟩:=p;obtain⟨o',e',c',_⟩:=q;rw[e] at e';cases e';rw[c] at c';simp at c'
mutual
theorem Rh.inj:∀{d e:D}{u:Value},Rh h u d->Rh h u e->d=e
 | _,_,_,.non,q=>by cases q;rfl
 | _,_,_,.bl b,q=>by cases q;rfl
 | _,_,_,.int i t,q=>by cases q;rfl
 | _,_,_,.str x t,q=>by cases q;rfl
 | _,_,_,.tup p r,q=>by
   cases q with
   | tup p' r'=>cases zdc p p';rw[RhL.inj r r']
   | lst p' r'=>exact(zb2 p p').elim
 | _,_,_,.lst p r,q=>by
   cases q with
   | lst p' r'=>cases zdE p p';rw[RhL.inj r r']
   | tup p' r'=>exact(zb2 p' p).elim
theorem RhL.inj:∀{ds es:List D}{us:List Value},RhL h us ds->RhL h us es->ds=es
 | _,_,_,.nil,q=>by cases q;rfl
 | _,_,_,.cons a t,q=>by
   cases q with
   | cons a' t'=>rw[Rh.inj a a',RhL.inj t t']
end
end
theorem zdd:∀{xs ys:List D},zd5 xs ys=true->∀(i:Nat) (hi:i<xs.length) (hj:i<ys.length),eqOk xs[i] ys[i]=true
 | x::xs,y::ys,h,i,hi,hj=>by
   have h:(eqOk x y&&zd5 xs ys)=true:=h
   rw[waA] at h;cases i with
   | zero=>exact h.1
   | succ i=>exact zdd h.2 i (by simpa using hi) (by simpa using hj)
theorem zd6:∀{xs:List D}(i:Nat) (hi:i<xs.length),depD xs[i]<=depL xs
 | x::xs,i,hi=>by
   cases i with
   | zero=>exact Nat.le_max_left _ _
   | succ i=>exact wan (zd6 i (by simpa using hi)) (Nat.le_max_right _ _)
theorem zbb (xs ys:List D):((List.range (min xs.length ys.length)).all (fun j=>decide (xs[j]?=ys[j]?))&&xs.length == ys.length)=decide (xs=ys):=by
 rw[wbb];simp only[waA,waC,wbm,decide_eq_true_eq,beq_iff_eq];constructor
 ·rintro⟨a,b⟩;refine List.ext_getElem? fun j=>?_
  by_cases hj:j<min xs.length ys.length
  ·exact a j hj
  ·rw[waL (by omega),waL (by omega)]
 ·rintro rfl;exact⟨fun _ _=>rfl,rfl⟩
theorem zbm {p:Prop}[Decidable p](h:¬p):false=decide p:=(wau h).symm
theorem zhy {xs ys:List D}(j:Nat)(h1:j<xs.length)(h2:j<ys.length):decide (xs[j]=ys[j])=decide (xs[j]?=ys[j]?):=by
 rw[wap h1,wap h2];exact zam ⟨fun z=>by rw[z],fun z=>wav z⟩
theorem zdQ (i j:Int):decide (D.int i=D.int j)=(i == j):=by rw[wch];exact zam ⟨fun z=>by cases z;rfl,fun z=>by rw[z]⟩
theorem zdR (i j:Str):decide (D.str i=D.str j)=(i == j):=by rw[wch];exact zam ⟨fun z=>by cases z;rfl,fun z=>by rw[z]⟩
theorem zfI (i j:Bool):decide (D.bl i=D.bl j)=(i == j):=by rw[wch];exact zam ⟨fun z=>by cases z;rfl,fun z=>by rw[z]⟩
section
variable {A:Around}{s:Shared}
theorem zf2 {v:Value}{e:D}(hu:A.units<cLine)(rv:Rh s.heap v e)(ho:eqOk .non e=true):SeqAt.EqAt A s .none v (decide (D.non=e)):=by
 cases rv with
 | non=>exact SeqAt.EqAt.same _
 | bl b=>cases ho
 | int i t=>rw[<-zbm (fun z=>by cases z)];exact SeqAt.EqAt.none_int _ _
 | str x t=>rw[<-zbm (fun z=>by cases z)];exact SeqAt.EqAt.none_str _ _
 | tup p r=>rw[<-zbm (fun z=>by cases z)];exact SeqAt.EqAt.none_tuple p hu
 | lst p r=>rw[<-zbm (fun z=>by cases z)];exact SeqAt.EqAt.none_list p hu
theorem zhz {v:Value}{e:D}{b:Bool}(rv:Rh s.heap v e)(ho:eqOk (.bl b) e=true):SeqAt.EqAt A s (.bool b) v (decide (D.bl b=e)):=by
 cases rv with
 | bl c=>rw[zfI];exact SeqAt.EqAt.bool_bool _ _
 | non=>cases ho
 | int i t=>cases ho
 | str x t=>cases ho
 | tup p r=>cases ho
 | lst p r=>cases ho
theorem zdS {v:Value}{e:D}{b:Int}{u:Tok}(rv:Rh s.heap v e)(ho:eqOk (.int b) e=true):SeqAt.EqAt A s (.int b u) v (decide (D.int b=e)):=by
 cases rv with
 | int i t=>rw[zdQ];exact SeqAt.EqAt.int_int _ _ _ _
 | non=>rw[<-zbm (fun z=>by cases z)];exact SeqAt.EqAt.int_none _ _
 | bl c=>cases ho
 | str x t=>rw[<-zbm (fun z=>by cases z)];exact SeqAt.EqAt.int_str _ _ _ _
 | tup p r=>cases ho
 | lst p r=>cases ho
theorem zf3 {v:Value}{e:D}{b:Str}{u:Tok}(rv:Rh s.heap v e)(ho:eqOk (.str b) e=true):SeqAt.EqAt A s (.str b u) v (decide (D.str b=e)):=by
 cases rv with
 | str i t=>rw[zdR];exact SeqAt.EqAt.str_str _ _ _ _
 | non=>rw[<-zbm (fun z=>by cases z)];exact SeqAt.EqAt.str_none _ _
 | bl c=>cases ho
 | int x t=>rw[<-zbm (fun z=>by cases z)];exact SeqAt.EqAt.str_int _ _ _ _
 | tup p r=>cases ho
 | lst p r=>cases ho
theorem zmW {l l':Addr}{us us':List Value}{ds ds':List D}(hu:A.units<cLine)(p:s.heap.IsTuple l us.toArray)(p':s.heap.IsTuple l' us'.toArray)(r:RhL s.heap us ds)(r':RhL s.heap us' ds')
 (he:∀j (h1:j<us.toArray.size) (h2:j<us'.toArray.size),SeqAt.EqAt A.in1 s us.toArray[j] us'.toArray[j] (decide (ds[j]?=ds'[j]?))):SeqAt.RcAt A s (.ref l) (.ref l') (decide (D.tup ds=D.tup ds')):=by
 have q:=SeqAt.RcAt.tuples p p' hu he
 rw[wac,wac,r.length,r'.length,zbb] at q;rw[zam (show D.tup ds=D.tup ds'↔ds=ds' from⟨fun z=>by cases z;rfl,fun z=>by rw[z]⟩)];exact q
theorem zmX {l l':Addr}{us us':List Value}{ds ds':List D}(hu:A.units<cLine)(p:s.heap.IsList l us.toArray)(p':s.heap.IsList l' us'.toArray)(r:RhL s.heap us ds)(r':RhL s.heap us' ds')
 (he:∀j (h1:j<us.toArray.size) (h2:j<us'.toArray.size),SeqAt.EqAt A.in1 s us.toArray[j] us'.toArray[j] (decide (ds[j]?=ds'[j]?))):SeqAt.RcAt A s (.ref l) (.ref l') (decide (D.lst ds=D.lst ds')):=by
 rw[zam (show D.lst ds=D.lst ds'↔ds=ds' from⟨fun z=>by cases z;rfl,fun z=>by rw[z]⟩)];by_cases hz:ds.length=ds'.length
 ·have hsz:us.toArray.size=us'.toArray.size:=by simp only[wac];rw[r.length,r'.length,hz]
  have q:=SeqAt.RcAt.lists p p' hsz hu he
  have e1:=zbb ds ds'
  rw[hz,Nat.min_self,beq_self_eq_true,Bool.and_true,<-hz] at e1;rw[wac,r.length,e1] at q;exact q
 ·have q:=SeqAt.RcAt.lists_lengths p p' (by simp only[wac,r.length,r'.length];simpa using hz) hu
  rw[wau (fun z=>hz (by rw[z]))];exact q
end
theorem zkc:∀(n:Nat) {A:Around}{s:Shared}{u v:Value}{d e:D},depD d<=n->A.units+n<cLine->Rh s.heap u d->Rh s.heap v e->eqOk d e=true->SeqAt.EqAt A s u v (decide (d=e)):=by
 intro n;induction n with
 | zero=>
   intro A s u v d e hn hu ru rv ho;cases ru with
   | non=>exact zf2 (by omega) rv ho
   | bl b=>exact zhz rv ho
   | int i t=>exact zdS rv ho
   | str x t=>exact zf3 rv ho
   | tup p r=>exact absurd hn (Nat.not_succ_le_zero _)
   | lst p r=>exact absurd hn (Nat.not_succ_le_zero _)
 | succ n ih=>
   intro A s u v d e hn hu ru rv ho;have hu0:A.units<cLine:=by omega
   have he:∀{us us':List Value}{ds ds':List D}(r:RhL s.heap us ds) (r':RhL s.heap us' ds') (hd:depL ds<=n) (ho:zd5 ds ds'=true),∀j (h1:j<us.toArray.size) (h2:j<us'.toArray.size),SeqAt.EqAt A.in1 s us.toArray[j] us'.toArray[j] (decide (ds[j]?=ds'[j]?)):=fun {us us' ds ds'} r r' hd ho j h1 h2=>by
    simp only[wac] at h1 h2;have g1:j<ds.length:=by rw[<-r.length];exact h1
    have g2:j<ds'.length:=by rw[<-r'.length];exact h2
    have q:=ih (A:=A.in1) (wan (zd6 j g1) hd) (show A.units+1+n<cLine by omega) (r.get j h1 g1) (r'.get j h2 g2) (zdd ho j g1 g2)
    rw[zhy j g1 g2] at q;exact q
   cases ru with
   | non=>exact zf2 hu0 rv ho
   | bl b=>exact zhz rv ho
   | int i t=>exact zdS rv ho
   | str x t=>exact zf3 rv ho
   | tup p r=>
     rename_i l us ds
     have hd:depL ds<=n:=waX hn
     cases rv with
     | tup p' r'=>
       rename_i l' us' ds'
       by_cases hl:l=l'
       ·subst hl;cases zdc p p';rw[r.inj r',waB rfl];exact SeqAt.EqAt.same _
       ·exact SeqAt.EqAt.of_refs hl (zmW hu0 p p' r r' (he r r' hd ho))
     | non=>rw[<-zbm (fun z=>by cases z)];exact SeqAt.EqAt.tuple_none p hu0
     | bl c=>cases ho
     | int i t=>cases ho
     | str x t=>cases ho
     | lst p' r'=>cases ho
   | lst p r=>
     rename_i l us ds
     have hd:depL ds<=n:=waX hn
     cases rv with
     | lst p' r'=>
       rename_i l' us' ds'
       by_cases hl:l=l'
       ·subst hl;cases zdE p p';rw[r.inj r',waB rfl];exact SeqAt.EqAt.same _
       ·exact SeqAt.EqAt.of_refs hl (zmX hu0 p p' r r' (he r r' hd ho))
     | non=>rw[<-zbm (fun z=>by cases z)];exact SeqAt.EqAt.list_none p hu0
     | bl c=>cases ho
     | int i t=>cases ho
     | str x t=>cases ho
     | tup p' r'=>cases ho
end VD
namespace VD
open PySem PySem.Spec PyProof PyProof.Rows L2
section
variable {A:Around}{s:Shared}{u v:Value}{d e:D}
theorem ziW {n:Nat}(hu:A.units+1+n<cLine){us us':List Value}{ds ds':List D}(r:RhL s.heap us ds)(r':RhL s.heap us' ds')(hd:depL ds<=n)(ho:zd5 ds ds'=true):∀j (h1:j<us.toArray.size) (h2:j<us'.toArray.size),SeqAt.EqAt A.in1 s us.toArray[j] us'.toArray[j] (decide (ds[j]?=ds'[j]?)):=fun j h1 h2=>by
 simp only[wac] at h1 h2;have g1:j<ds.length:=by rw[<-r.length];exact h1
 have g2:j<ds'.length:=by rw[<-r'.length];exact h2
 have q:=zkc n (A:=A.in1) (wan (zd6 j g1) hd) hu (r.get j h1 g1) (r'.get j h2 g2) (zdd ho j g1 g2)
 rw[zhy j g1 g2] at q;exact q
theorem zmY {n:Nat}(hu:A.units+1+n<cLine)(hn:depD d<=n+1)(ru:Rh s.heap u d)(rv:Rh s.heap v e)(ho:eqOk d e=true):SeqAt.RcAt A s u v (decide (d=e)):=by
 have hu0:A.units<cLine:=by omega
 cases ru with
 | non=>
   cases rv with
   | non=>exact SeqAt.RcAt.none_none
   | bl b=>cases ho
   | int i t=>rw[<-zbm (fun z=>by cases z)];exact SeqAt.RcAt.none_int _ _
   | str x t=>rw[<-zbm (fun z=>by cases z)];exact SeqAt.RcAt.none_str _ _
   | tup p r=>rw[<-zbm (fun z=>by cases z)];exact SeqAt.RcAt.none_tuple p hu0
   | lst p r=>rw[<-zbm (fun z=>by cases z)];exact SeqAt.RcAt.none_list p hu0
 | bl b=>
   cases rv with
   | bl c=>rw[zfI];exact SeqAt.RcAt.bool_bool _ _
   | non=>cases ho
   | int i t=>cases ho
   | str x t=>cases ho
   | tup p r=>cases ho
   | lst p r=>cases ho
 | int i t=>
   cases rv with
   | int i t=>rw[zdQ];exact SeqAt.RcAt.int_int _ _ _ _
   | non=>rw[<-zbm (fun z=>by cases z)];exact SeqAt.RcAt.int_none _ _
   | str x t=>rw[<-zbm (fun z=>by cases z)];exact SeqAt.RcAt.int_str _ _ _ _
   | bl b=>cases ho
   | tup p r=>cases ho
   | lst p r=>cases ho
 | str x t=>
   cases rv with
   | str i t=>rw[zdR];exact SeqAt.RcAt.str_str _ _ _ _
   | non=>rw[<-zbm (fun z=>by cases z)];exact SeqAt.RcAt.str_none _ _
   | int x t=>rw[<-zbm (fun z=>by cases z)];exact SeqAt.RcAt.str_int _ _ _ _
   | bl b=>cases ho
   | tup p r=>cases ho
   | lst p r=>cases ho
 | tup p r=>
   cases rv with
   | tup p' r'=>exact zmW hu0 p p' r r' (ziW hu r r' (waX hn) ho)
   | non=>rw[<-zbm (fun z=>by cases z)];exact SeqAt.RcAt.tuple_none p hu0
   | int i t=>cases ho
   | bl b=>cases ho
   | str x t=>cases ho
   | lst p r=>cases ho
 | lst p r=>
   cases rv with
   | lst p' r'=>exact zmX hu0 p p' r r' (ziW hu r r' (waX hn) ho)
   | non=>rw[<-zbm (fun z=>by cases z)];exact SeqAt.RcAt.list_none p hu0
   | int i t=>cases ho
   | bl b=>cases ho
   | str x t=>cases ho
   | tup p r=>cases ho
theorem zdt {p:Prop}[Decidable p](h:¬p):true = !decide p:=by rw[wau h];rfl
theorem ziX {n:Nat}(hu:A.units+1+n<cLine)(hn:depD d<=n+1)(ru:Rh s.heap u d)(rv:Rh s.heap v e)(ho:eqOk d e=true):SeqAt.RcNeAt A s u v (!decide (d=e)):=by
 have hu0:A.units<cLine:=by omega
 cases ru with
 | non=>
   cases rv with
   | non=>rw[waB rfl];exact SeqAt.RcNeAt.none_none
   | bl b=>cases ho
   | int i t=>rw[<-zdt (fun z=>by cases z)];exact SeqAt.RcNeAt.none_int _ _
   | str x t=>rw[<-zdt (fun z=>by cases z)];exact SeqAt.RcNeAt.none_str _ _
   | tup p r=>rw[<-zdt (fun z=>by cases z)];exact SeqAt.RcNeAt.none_tuple p hu0
   | lst p r=>rw[<-zdt (fun z=>by cases z)];exact SeqAt.RcNeAt.none_list p hu0
 | bl b=>
   cases rv with
   | bl c=>rw[zfI];exact SeqAt.RcNeAt.bool_bool _ _
   | non=>cases ho
   | int i t=>cases ho
   | str x t=>cases ho
   | tup p r=>cases ho
   | lst p r=>cases ho
 | int i t=>
   cases rv with
   | int i t=>rw[zdQ];exact SeqAt.RcNeAt.int_int _ _ _ _
   | non=>rw[<-zdt (fun z=>by cases z)];exact SeqAt.RcNeAt.int_none _ _
   | str x t=>rw[<-zdt (fun z=>by cases z)];exact SeqAt.RcNeAt.int_str _ _ _ _
   | bl b=>cases ho
   | tup p r=>cases ho
   | lst p r=>cases ho
 | str x t=>
   cases rv with
   | str i t=>rw[zdR];exact SeqAt.RcNeAt.str_str _ _ _ _
   | non=>rw[<-zdt (fun z=>by cases z)];exact SeqAt.RcNeAt.str_none _ _
   | int x t=>rw[<-zdt (fun z=>by cases z)];exact SeqAt.RcNeAt.str_int _ _ _ _
   | bl b=>cases ho
   | tup p r=>cases ho
   | lst p r=>cases ho
 | tup p r=>
   cases rv with
   | tup p' r'=>
     rename_i us ds l' us' ds'
     have q:=SeqAt.RcNeAt.tuples p p' hu0 (ziW hu r r' (waX hn) ho)
     rw[wac,wac,r.length,r'.length,zbb] at q;rw[zam (show D.tup ds=D.tup ds'↔ds=ds' from⟨fun z=>by cases z;rfl,fun z=>by rw[z]⟩)];exact q
   | non=>rw[<-zdt (fun z=>by cases z)];exact SeqAt.RcNeAt.tuple_none p hu0
   | int i t=>cases ho
   | bl b=>cases ho
   | str x t=>cases ho
   | lst p r=>cases ho
 | lst p r=>
   cases rv with
   | lst p' r'=>
     rename_i us ds l' us' ds'
     rw[zam (show D.lst ds=D.lst ds'↔ds=ds' from⟨fun z=>by cases z;rfl,fun z=>by rw[z]⟩)];by_cases hz:ds.length=ds'.length
     ·have hsz:us.toArray.size=us'.toArray.size:=by simp only[wac];rw[r.length,r'.length,hz]
      have q:=SeqAt.RcNeAt.lists p p' hsz hu0 (ziW hu r r' (waX hn) ho)
      have e1:=zbb ds ds'
      rw[hz,Nat.min_self,beq_self_eq_true,Bool.and_true,<-hz] at e1;rw[wac,r.length,e1] at q;exact q
     ·have q:=SeqAt.RcNeAt.lists_lengths p p' (by simp only[wac,r.length,r'.length];simpa using hz) hu0
      rw[wau (fun z=>hz (by rw[z]))];exact q
   | non=>rw[<-zdt (fun z=>by cases z)];exact SeqAt.RcNeAt.list_none p hu0
   | int i t=>cases ho
   | bl b=>cases ho
   | str x t=>cases ho
   | tup p r=>cases ho
end
def eqC (d e:D):Bool:=eqOk d e&&ndD d&&ndD e&&decide (depD d<=40)
def dEqG (neg:Bool)(d e:D):Option D:=if eqC d e=true then some (.bl (if neg then !decide (d=e) else decide (d=e))) else none
def rEqG (K:W.Frag)(neg:Bool):R2:=fun x y H Q=>∃J d e,RpW K H J x d/\RpW K H J y e/\eqC d e=true/\Q (.bl (if neg then !decide (d=e) else decide (d=e))) H
theorem zf4 {d e:D}(h:eqC d e=true):eqOk d e=true/\ndD d=true/\ndD e=true/\depD d<=40:=by
 unfold eqC at h;simp only[waA,decide_eq_true_eq] at h;exact⟨h.1.1.1,h.1.1.2,h.1.2,h.2⟩
section
variable {X:Cx}{K:W.Frag}{k:Nat}
theorem zfy (hr:Room k X.A):OpR X (compareOp .Eq) (rEqG X.K false):=by
 intro pins s σ H x y v u Q I rx ry ⟨J,d,e,r1,r2,hc,q⟩;obtain⟨ho,n1,n2,hd⟩:=zf4 hc;have:=hr.units
 exact zmY (n:=40) (by omega) (by omega) (r1.rh I n1 rx) (r2.rh I n2 ry) ho _ _ _ _ ⟨.bl _,H,I,rfl,q⟩
theorem zmZ (hr:Room k X.A):OpR X (compareOp .NotEq) (rEqG X.K true):=by
 intro pins s σ H x y v u Q I rx ry ⟨J,d,e,r1,r2,hc,q⟩;obtain⟨ho,n1,n2,hd⟩:=zf4 hc;have:=hr.units
 exact ziX (n:=40) (by omega) (by omega) (r1.rh I n1 rx) (r2.rh I n2 ry) ho _ _ _ _ ⟨.bl _,H,I,rfl,q⟩
theorem zcl (neg:Bool):Im2 K (rEqG K neg) (dEqG neg):=by
 intro H J x y d e d' Q ja hx hy hF w;unfold dEqG at hF;by_cases hc:eqC d e=true
 ·rw[if_pos hc] at hF;cases hF;exact⟨J,d,e,hx,hy,hc,w _ H J (Up.refl ja) (.bl _)⟩
 ·rw[if_neg hc] at hF;cases hF
end
def inC (x:D)(ds:List D):Bool:=ndD x&&ds.all fun y=>eqC y x
def hasK (ks:List Key)(j:Key):Bool:=ks.any fun k=>decide (k=j)
def dInG (neg:Bool):D->D->Option D
 | x,.lst ds=>if inC x ds=true then some (.bl (if neg then !decide (x∈ds) else decide (x∈ds))) else none
 | x,.tup ds=>if inC x ds=true then some (.bl (if neg then !decide (x∈ds) else decide (x∈ds))) else none
 | x,.dct ks _=>(keyD x).bind fun j=>some (.bl (if neg then !hasK ks j else hasK ks j))
 | _,_=>none
def zk7 (K:W.Frag)(neg:Bool):R2:=fun x y H Q=>∃J d ds p vs,RpW K H J x d/\y=.ref p/\(SqL K H p vs\/SqT K H p vs)/\RpL K H J vs ds/\inC d ds=true/\Q (.bl (if neg then !decide (d∈ds) else decide (d∈ds))) H
open Classical in
noncomputable def zeO (h:Heap)(u:Value):D:=if q:∃d,Rh h u d then q.choose else .non
theorem zeP {h:Heap}{u:Value}{d:D}(r:Rh h u d):zeO h u=d:=by
 unfold zeO;have q:∃d,Rh h u d:=⟨d,r⟩
 rw[dif_pos q];exact q.choose_spec.inj r
theorem RhL.mem {h:Heap}:∀{us:List Value}{ds:List D},RhL h us ds->∀u∈us,∃d∈ds,Rh h u d
 | _,_,.cons a t,u,hu=>by
   rcases wai.mp hu with rfl | hu
   ·exact⟨_,waj,a⟩
   ·obtain⟨d,hd,r⟩:=RhL.mem t u hu;exact⟨d,waf _ hd,r⟩
theorem RhL.map {h:Heap}:∀{us:List Value}{ds:List D},RhL h us ds->us.map (zeO h)=ds
 | _,_,.nil=>rfl
 | _,_,.cons a t=>by rw[wbf,zeP a,RhL.map t]
theorem zhA:∀{ds:List D},(∀d∈ds,ndD d=true)->ndL ds=true
 | [],_=>rfl
 | d::ds,h=>by
   show(ndD d&&ndL ds)=true
   rw[h d waj,zhA fun e he=>h e (waf _ he)];rfl
theorem zcY {h:Heap}{us:List Value}{ds:List D}(r:RhL h us ds)(x:D):us.toArray.any (fun y=>decide (zeO h y=x))=decide (x∈ds):=by
 rw[List.any_toArray,<-r.map,wbb];simp only[List.any_eq_true,decide_eq_true_eq,waT]
section
variable {X:Cx}{K:W.Frag}{k:Nat}
theorem zcZ {A:Around}{s:Shared}{us:List Value}{ds:List D}{x:Value}{d:D}(hu:A.units+1+40<cLine)(r:RhL s.heap us ds)(rx:Rh s.heap x d)(hc:∀y∈ds,eqC y d=true):∀y,y∈us.toArray->SeqAt.EqAt A.in1 s y x (decide (zeO s.heap y=d)):=fun y hy=>by
 obtain⟨e,he,re⟩:=r.mem y (by simpa using hy);obtain⟨ho,_,_,hd⟩:=zf4 (hc e he);rw[zeP re];exact zkc 40 (A:=A.in1) hd hu re rx ho
theorem zkd {x:D}{ds:List D}(h:inC x ds=true):ndD x=true/\(∀y∈ds,eqC y x=true)/\ndL ds=true:=by
 unfold inC at h;rw[waA,waC] at h;exact⟨h.1,h.2,zhA fun y hy=>(zf4 (h.2 y hy)).2.1⟩
theorem zow (hr:Room k X.A):OpR X (compareOp .In) (zk7 X.K false):=by
 intro pins s σ H x y v u Q I rx ry ⟨J,d,ds,p,vs,r1,e,hq,rl,hc,q⟩;subst e;cases ry;have hu:=hr.units
 obtain⟨n1,hc,n2⟩:=zkd hc;rcases hq with hq | hq
 ·obtain⟨its,rv,pl,hz⟩:=I.list hq;refine SeqAt.in_listAt _ pl.isList (zcZ (by omega) (rl.rh I n2 rv) (r1.rh I n1 rx) hc) ⟨.bl _,H,I,rfl,?_⟩;rw[zcY (rl.rh I n2 rv)];exact q
 ·obtain⟨its,rv,pl,hz⟩:=I.tuple hq;refine SeqAt.in_tupleAt _ pl (zcZ (by omega) (rl.rh I n2 rv) (r1.rh I n1 rx) hc) ⟨.bl _,H,I,rfl,?_⟩;rw[zcY (rl.rh I n2 rv)];exact q
theorem zhB (hr:Room k X.A):OpR X (compareOp .NotIn) (zk7 X.K true):=by
 intro pins s σ H x y v u Q I rx ry ⟨J,d,ds,p,vs,r1,e,hq,rl,hc,q⟩;subst e;cases ry;have hu:=hr.units
 obtain⟨n1,hc,n2⟩:=zkd hc;rcases hq with hq | hq
 ·obtain⟨its,rv,pl,hz⟩:=I.list hq;refine SeqAt.notIn_listAt _ pl.isList (zcZ (by omega) (rl.rh I n2 rv) (r1.rh I n1 rx) hc) ⟨.bl _,H,I,rfl,?_⟩;rw[zcY (rl.rh I n2 rv)];exact q
 ·obtain⟨its,rv,pl,hz⟩:=I.tuple hq;refine SeqAt.notIn_tupleAt _ pl (zcZ (by omega) (rl.rh I n2 rv) (r1.rh I n1 rx) hc) ⟨.bl _,H,I,rfl,?_⟩;rw[zcY (rl.rh I n2 rv)];exact q
def rInD (neg:Bool):R2:=fun x y H Q=>∃a ov,y=.ref a/\DGet H a x ov/\Q (.bl (if neg then !ov.isSome else ov.isSome)) H
def rInG (K:W.Frag)(neg:Bool):R2:=fun x y H Q=>zk7 K neg x y H Q\/rInD neg x y H Q
theorem ziY (hr:Room k X.A):OpR X (compareOp .NotIn) (rInD true):=by
 intro pins s σ H x y v u Q I rx ry ⟨a,ov,e,g,q⟩;subst e;obtain rfl:u=Value.ref a:=ry;exact zkG (zn0 hr) I g rx fun s3 I3=>⟨.bl (!ov.isSome),H,I3,rfl,q⟩
theorem zc0 (hr:Room k X.A):OpR X (compareOp .NotIn) (rInG X.K true):=(zhB hr).or (ziY hr)
theorem zhC {kvs:List (Key×V)}{j:Key}:(valV kvs j).isSome=hasK (kvs.map (·.1)) j:=by
 unfold valV hasK;rw[Option.isSome_map,List.any_map,wbb,List.find?_isSome,List.any_eq_true];rfl
theorem zf5 (neg:Bool):Im2 K (rInG K neg) (dInG neg):=by
 intro H J x y d e d' Q ja hx hy hF w;cases e with
 | lst ds=>
   have hF:(if inC d ds=true then some (D.bl (if neg then !decide (d∈ds) else decide (d∈ds))) else none)=some d':=hF
   by_cases hc:inC d ds=true
   ·rw[if_pos hc] at hF;cases hF;obtain⟨p,vs,rfl,h1,r1⟩:=hy.lst;exact .inl ⟨J,d,ds,p,vs,hx,rfl,.inl (SqL.of h1),r1,hc,w _ H J (Up.refl ja) (.bl _)⟩
   ·rw[if_neg hc] at hF;cases hF
 | tup ds=>
   have hF:(if inC d ds=true then some (D.bl (if neg then !decide (d∈ds) else decide (d∈ds))) else none)=some d':=hF
   by_cases hc:inC d ds=true
   ·rw[if_pos hc] at hF;cases hF;obtain⟨p,vs,rfl,h1,r1⟩:=hy.tup;exact .inl ⟨J,d,ds,p,vs,hx,rfl,.inr h1,r1,hc,w _ H J (Up.refl ja) (.bl _)⟩
   ·rw[if_neg hc] at hF;cases hF
 | dct ks ds=>
   obtain⟨j,ej,hF⟩:=zaa (show((keyD d).bind fun j=>some (D.bl (if neg then !hasK ks j else hasK ks j)))=some d' from hF);cases hF;obtain⟨p,kvs,vs,rfl,h1,h2,h3,rl⟩:=hy.dct;refine .inr ⟨p,valV kvs j,rfl,?_,?_⟩
   ·rw[zmQ hx ej];exact DGet.k h1
   ·rw[zhC,h2];exact w _ H J (Up.refl ja) (.bl _)
 | _=>cases hF
end
end VD
namespace Mn
open PySem PySem.Spec PyProof PyProof.Rows
open Sem (wp)
section
variable {prog:Program}{w:World}{A:Around}{R:Result->Shared->Prop}{I:Addr}{fp wr:List Addr}{n:Nat}{P:Nat->Value->Prop}{St:Nat->Heap->Prop}
end
section
variable {prog:Program}{w:World}{A:Around}{E:Value->Shared->Prop}{s:Shared}
end
end Mn
namespace VD
open PySem PySem.Spec PyProof PyProof.Rows L2
mutual
def ltD:D->D->Option Bool
 | .int a,.int b=>some (decide (a<b))
 | .tup xs,.tup ys=>ltL xs ys
 | _,_=>none
def ltL:List D->List D->Option Bool
 | [],[]=>some false
 | x::xs,y::ys=>if eqOk x y=true then(if x=y then ltL xs ys else if xs.length=ys.length then ltD x y else none) else none
 | _,_=>none
end
section
variable {X:Cx}{K:W.Frag}{k:Nat}
end
end VD
namespace VD
open PySem PySem.Spec PyProof PyProof.Rows L2
section
variable {X:Cx}{K:W.Frag}{k:Nat}
end
def EvX {S:Type}(f:FX)(ρ:En)(x:Option (D×S))(emb:S->En):Prop:=∀q,x=some q->f ρ=some (q.1,emb q.2)
def EvAX {S:Type}(f:FAX)(ρ:En)(x:Option (List D×S))(emb:S->En):Prop:=∀q,x=some q->f ρ=some (q.1,emb q.2)
def EvR {S:Type}(f:FR)(ρ:En)(x:Option (RV×S))(emb:S->En):Prop:=∀q,x=some q->f ρ=some (q.1,emb q.2)
def EvAG {S:Type}(f:FAG)(ρ:En)(x:Option (List (Option D)×S))(emb:S->En):Prop:=∀q,x=some q->f ρ=some (q.1,emb q.2)
section
variable {S:Type}{emb:S->En}{ρ:En}{s:S}{f g:FX}{x:Option (D×S)}{y:D×S->Option (D×S)}{e:FE}
theorem zd7 (h:emb s=ρ):EvX (xE e) ρ ((e ρ).bind fun d=>some (d,s)) emb:=fun q z=>by
 obtain⟨d,e0,z⟩:=zaa z;cases z;unfold xE;rw[e0,<-h];rfl
theorem zgx {F:D->D->Option D}(h1:EvX f ρ x emb)(h2:∀q,EvX g (emb q.2) (y q) emb):EvX (x2 F f g) ρ (x.bind fun q=>(y q).bind fun r=>(F q.1 r.1).bind fun d=>some (d,r.2)) emb:=fun q z=>by
 obtain⟨a,e0,z⟩:=zaa z;obtain⟨b,e1,z⟩:=zaa z;obtain⟨d,e2,z⟩:=zaa z;cases z;unfold x2;rw[h1 a e0,zOB,h2 a b e1,zOB,e2];rfl
theorem zk8 {fa:FAX}{xa:Option (List D×S)}(h1:EvAX fa ρ xa emb):EvX (xTup fa) ρ (xa.bind fun q=>(mkT q.1).bind fun d=>some (d,q.2)) emb:=fun q z=>by
 obtain⟨a,e0,z⟩:=zaa z;obtain⟨d,e2,z⟩:=zaa z;cases z;unfold xTup;rw[h1 a e0,zOB,e2];rfl
theorem zdu {fr:FR}{xr:Option (RV×S)}(h1:EvR fr ρ xr emb):EvX (xR fr) ρ (xr.bind fun q=>some (q.1.d,q.2)) emb:=fun q z=>by
 obtain⟨a,e0,z⟩:=zaa z;cases z;unfold xR;rw[h1 a e0];rfl
theorem zd8 (h:emb s=ρ):EvAX axNil ρ (some ([],s)) emb:=fun q z=>by cases z;rw[<-h];rfl
theorem zhD {fl:FA}(h:emb s=ρ):EvAX (xA fl) ρ ((fl ρ).bind fun d=>some (d,s)) emb:=fun q z=>by
 obtain⟨d,e0,z⟩:=zaa z;cases z;unfold xA;rw[e0,<-h];rfl
theorem zbn {ga:FAX}{ya:D×S->Option (List D×S)}(h1:EvX f ρ x emb)(h2:∀q,EvAX ga (emb q.2) (ya q) emb):EvAX (axCons f ga) ρ (x.bind fun q=>(ya q).bind fun r=>some (q.1::r.1,r.2)) emb:=fun q z=>by
 obtain⟨a,e0,z⟩:=zaa z;obtain⟨b,e1,z⟩:=zaa z;cases z;unfold axCons;rw[h1 a e0,zOB,h2 a b e1];rfl
theorem ziZ (h:emb s=ρ):EvAG agNil ρ (some ([],s)) emb:=fun q z=>by cases z;rw[<-h];rfl
theorem zi0 {i:Nat}{fg:FAG}{xg:Option (List (Option D)×S)}(ho:(ownD (ρ[i]?)).isSome=true)(h:EvAG fg ρ xg emb):EvAG (agOwn i fg) ρ (xg.bind fun q=>some (none::q.1,q.2)) emb:=fun q z=>by
 obtain⟨a,e0,z⟩:=zaa z;cases z;unfold agOwn;rw[if_pos ho,h a e0];rfl
theorem zm0 {fg:FAG}{yg:D×S->Option (List (Option D)×S)}(h1:EvX f ρ x emb)(h2:∀q,EvAG fg (emb q.2) (yg q) emb):EvAG (agX f fg) ρ (x.bind fun q=>(yg q).bind fun r=>some (some q.1::r.1,r.2)) emb:=fun q z=>by
 obtain⟨a,e0,z⟩:=zaa z;obtain⟨b,e1,z⟩:=zaa z;cases z;unfold agX;rw[h1 a e0,zOB,h2 a b e1];rfl
def zk9 {S:Type}(F:List D->Option (RV×List D))(ks:List (Option Nat))(p n:Nat)(get:S->D)(put:S->D->S)(x:Option (List (Option D)×S)):Option (RV×S):=x.bind fun q=>if q.1.map (agK n)=ks then(F (q.1.map fun o=>o.getD (get q.2))).bind fun r=>(r.2[p]?).bind fun e=>some (r.1,put q.2 e) else none
theorem zi1 {ks:List (Option Nat)}{p i n:Nat}{F:List D->Option (RV×List D)}{fg:FAG}{xg:Option (List (Option D)×S)}{get:S->D}{put:S->D->S}(h:EvAG fg ρ xg emb)(hg:∀s,ownD ((emb s)[i]?)=some (n,get s))(hp:∀s e,setO (emb s) i e=emb (put s e)):EvR (xCallG ks p i n F fg) ρ (zk9 F ks p n get put xg) emb:=fun q z=>by
 obtain⟨a,e0,z⟩:=zaa z;split at z
 ·rename_i hk
  obtain⟨r,e1,z⟩:=zaa z;obtain⟨e,e2,z⟩:=zaa z;cases z;unfold xCallG;rw[h a e0,zOB];show(if a.1.map (agK n)=ks then match ownD ((emb a.2)[i]?) with
   | some (m,d)=>if m=n then(F (a.1.map fun o=>o.getD d)).bind fun r=>(r.2[p]?).bind fun e=>some (r.1,setO (emb a.2) i e) else none
   | none=>none
   else none)=_
  rw[if_pos hk,hg];show(if n=n then(F (a.1.map fun o=>o.getD (get a.2))).bind fun r=>(r.2[p]?).bind fun e=>some (r.1,setO (emb a.2) i e) else none)=_
  rw[if_pos rfl,e1,zOB,e2,zOB,hp]
 ·cases z
def zd9 {S:Type}(F:List D->Option (RV×List D))(put:D->S)(as:List D):Option (RV×S):=(F as).bind fun r=>(r.2[0]?).bind fun e=>some (r.1,put e)
theorem za5 {ks:List (Option Nat)}{i n:Nat}{F:List D->Option (RV×List D)}{fg:FAG}{as:List (Option D)}{d:D}{put:D->S}(h:fg ρ=some (as,ρ))(hk:as.map (agK n)=ks)(hg:ownD (ρ[i]?)=some (n,d))(hp:∀e,setO ρ i e=emb (put e)):EvR (xCallG ks 0 i n F fg) ρ (zd9 F put (as.map fun o=>o.getD d)) emb:=fun q z=>by
 obtain⟨r,e1,z⟩:=zaa z;obtain⟨e,e2,z⟩:=zaa z;cases z;unfold xCallG;rw[h,zOB];show(if as.map (agK n)=ks then match ownD (ρ[i]?) with
  | some (m,d)=>if m=n then(F (as.map fun o=>o.getD d)).bind fun r=>(r.2[0]?).bind fun e=>some (r.1,setO ρ i e) else none
  | none=>none
  else none)=_
 rw[if_pos hk,hg];show(if n=n then(F (as.map fun o=>o.getD d)).bind fun r=>(r.2[0]?).bind fun e=>some (r.1,setO ρ i e) else none)=_
 rw[if_pos rfl,e1,zOB,e2,zOB,hp]
theorem zde {ks:List (Option Nat)}{F:List D->Option (RV×List D)}{fa:FAX}{xa:Option (List D×S)}(h:EvAX fa ρ xa emb):EvR (xCallN ks F fa) ρ (xa.bind fun q=>(F q.1).bind fun r=>if q.1.length=ks.length then some (r.1,q.2) else none) emb:=fun q z=>by
 obtain⟨a,e0,z⟩:=zaa z;obtain⟨r,e1,z⟩:=zaa z;split at z
 ·rename_i hl
  cases z;unfold xCallN;rw[h a e0,zOB];show((F a.1).bind fun r=>if a.1.length=ks.length then some (r.1,emb a.2) else none)=_
  rw[e1,zOB,if_pos hl]
 ·cases z
theorem zhE {fa:FAX}{xa:Option (List D×S)}(h:EvAX fa ρ xa emb):EvR (xLst fa) ρ (xa.bind fun q=>(mkLs q.1).bind fun ds=>some (.new 1 (.lst ds),q.2)) emb:=fun q z=>by
 obtain⟨a,e0,z⟩:=zaa z;obtain⟨ds,e1,z⟩:=zaa z;cases z;unfold mkLs at e1;split at e1
 ·rename_i hl
  cases e1;unfold xLst;rw[h a e0,zOB];exact if_pos hl
 ·cases e1
def zm1 (xs:List D)(k:D):Option (D×List D):=(dInt k).bind fun k=>if -1000000<=k/\k<=1000000 then(seqIndex? k xs.length).bind fun j=>(xs[j]?).bind fun d=>some (d,xs.eraseIdx j) else none
theorem zm2 {i:Nat}{get:S->List D}{put:S->List D->S}(ho:isL1 (ownD (ρ[i]?))=true)(h:EvX f ρ x emb)(hg:∀s,ownD ((emb s)[i]?)=some (1,.lst (get s)))(hp:∀s e,setO (emb s) i (.lst e)=emb (put s e)):EvX (zj7 i f) ρ (x.bind fun q=>(zm1 (get q.2) q.1).bind fun r=>some (r.1,put q.2 r.2)) emb:=fun q z=>by
 obtain⟨a,e0,z⟩:=zaa z;obtain⟨r,e1,z⟩:=zaa z;obtain⟨k,e2,e1⟩:=zaa e1;split at e1
 ·rename_i hk
  obtain⟨j,e3,e1⟩:=zaa e1;obtain⟨d,e4,e1⟩:=zaa e1;cases e1;cases z;unfold zj7;rw[if_pos ho,h a e0,zOB];show((dInt a.1).bind fun k=>match ownD ((emb a.2)[i]?) with
   | some (1,.lst ds)=>if -1000000<=k/\k<=1000000 then(seqIndex? k ds.length).bind fun j=>(ds[j]?).bind fun d=>some (d,setO (emb a.2) i (.lst (ds.eraseIdx j))) else none
   | _=>none)=_
  rw[e2,zOB,hg];show(if -1000000<=k/\k<=1000000 then(seqIndex? k (get a.2).length).bind fun j=>((get a.2)[j]?).bind fun d=>some (d,setO (emb a.2) i (.lst ((get a.2).eraseIdx j))) else none)=_
  rw[if_pos hk,e3,zOB,e4,zOB,hp]
 ·cases e1
theorem zcG {i:Nat}(h:EvX f ρ x emb)(hi:∀s,okS i (emb s)=true):Step (gSetX i f) ρ x fun q=>(emb q.2).set i (.val q.1):=fun q z=>by
 unfold gSetX;rw[h q z,zOB];exact if_pos (zcj (hi q.2))
def newL {S:Type}(q:RV×S):Option (List D×S):=match q.1 with
 | .new 1 (.lst xs)=>some (xs,q.2)
 | _=>none
theorem zla {i:Nat}{fr:FR}{xr:Option (RV×S)}(h:EvR fr ρ xr emb)(hi:∀s,okS i (emb s)=true):Step (gOwnR i fr) ρ (xr.bind newL) fun q=>(emb q.2).set i (.own 1 (.lst q.1)):=fun q z=>by
 obtain⟨⟨r,s1⟩,e0,z⟩:=zaa z;unfold newL at z;split at z
 ·rename_i xs hr
  cases z;have hr:r=.new 1 (.lst xs):=hr
  subst hr;unfold gOwnR;rw[h _ e0,zOB];exact if_pos (zcj (hi s1))
 ·cases z
section
variable {R A:Type}{k:Out->Option R}{φ:A->Option R}{a b g':FS}
end
end
section
variable {S S0 α A R:Type}{emb:S->En}{emb0:S0->En}{ρ:En}{fi:FAX}{b g:FS}{tg:FG}{xa:Option (List D×S0)}{ini:S0->S}
end
def kG (ks:List (Option Nat)):Out->Option (RV×List D)
 | .ret r ρ=>(outSl ks ρ).bind fun es=>some (r,es)
 | .nx ρ=>(outSl ks ρ).bind fun es=>some (.told .non,es)
 | _=>none
section
variable {P:Program}{w:World}{K:W.Frag}{mg:Str->Option Value}{base:Heap}
theorem zhF {x qual:Str}{st:Stmt}{f:Addr}{fd:FuncData}{N ps:List Str}{k:Nat}{c:List D->Option (RV×List D)}(ks:List (Option Nat))(F:Fun K x qual st f fd)(S:FnScope N ps (zab st))(hks:ks.length=ps.length)
 (hbody:∀(cdv:Value) (A:Around) (outer:List Env) (s:Shared) (H:Hp) (E:XK),Room k (A.deeper (envOfC qual (zab st) s.heap.objs.size f cdv))->∃g,VSs (cxOf CX0 P w K mg base N qual (zab st) f cdv A outer s H E).nox (zaB st) g/\∀ds,ds.length=ks.length->EvS (kG ks) some g (inSl ks ds++List.replicate (N.length - ks.length) .un) (c ds)) :
 FnOk P w K mg base CX0 (k+1) f fd ps (spG K ks c):=by
 refine F.ok S (fun vs H Q E h=>?_) (fun cdv A outer s H vs Q E hr h=>?_)
 ·obtain⟨J,ds,r,es,fp,ja,a,e,w⟩:=h;rw[a.l1,hks]
 ·obtain⟨J,ds,r,es,fp,ja,a,e,w⟩:=h;obtain⟨g,⟨t,p,q⟩,ev⟩:=hbody cdv A outer s H E hr;refine⟨t,p,?_⟩;have s0:=zeM (N:=N) ja a
  have e:=ev ds a.l2 (r,es) (by rw[e];rfl)
  cases z:g (inSl ks ds++List.replicate (N.length - ks.length) .un) with
  | none=>rw[z] at e;cases e
  | some o=>
    rw[z] at e;refine q H J _ _ _ H J o _ s0 z ?_;cases o with
    | nx ρ'=>
      obtain⟨es',e1,e⟩:=bind_some (show((outSl ks ρ').bind fun es=>some (RV.told D.non,es))=some (r,es) from e);cases e;intro σ' H' J' s' k';obtain⟨fp',pg⟩:=ziO (v:=.non) (r:=.told .non) a s' .non e1;exact w _ _ _ _ pg
    | ret r' ρ'=>
      obtain⟨es',e1,e⟩:=bind_some (show((outSl ks ρ').bind fun es=>some (r',es))=some (r,es) from e);cases e;intro v σ' H' J' s' q';obtain⟨fp',pg⟩:=ziO a s' q' e1;exact w _ _ _ _ pg
    | bk _=>cases e
    | ct _=>cases e
end
def g1 (b:D->Option (RV×List D)):List D->Option (RV×List D) | [x]=>b x | _=>none
def g2 (b:D->D->Option (RV×List D)):List D->Option (RV×List D) | [x,y]=>b x y | _=>none
def g3 (b:D->D->D->Option (RV×List D)):List D->Option (RV×List D) | [x,y,z]=>b x y z | _=>none
section
variable {R:Type}{k:Out->Option R}{φ:RV×List D->Option R}{g:FS}{n:List SV}{ks:List (Option Nat)}
theorem zom {b:D->Option (RV×List D)}(h:∀x,EvS k φ g (inSl ks [x]++n) (b x)):∀ds:List D,ds.length=1->EvS k φ g (inSl ks ds++n) (g1 b ds)
 | [x],_=>h x
theorem zm3 {b:D->D->Option (RV×List D)}(h:∀x y,EvS k φ g (inSl ks [x,y]++n) (b x y)):∀ds:List D,ds.length=2->EvS k φ g (inSl ks ds++n) (g2 b ds)
 | [x,y],_=>h x y
end
section
variable {X:Cx}{K:W.Frag}{k:Nat}
end
end VD
namespace GM
open PySem PySem.Spec PyProof PyProof.Rows L2 VD
structure Bx where
 x:Int
 y:Int
 wd:Int
 hg:Int
structure Row where
 deep:Nat
 name:Str
 box:Bx
 word:Str
 rank:Int
 head:Option Str
def zhG (ds:Nat->Nat)(cur:Nat):Nat->List Nat
 | 0=>[]
 | n+1=>if ds n<cur then zhG ds (ds n) n++[n] else zhG ds cur n
def dsOf (L:List Row)(k:Nat):Nat:=((L[k]?).map (·.deep)).getD 0
def above (L:List Row)(k:Nat):List Nat:=zhG (dsOf L) (dsOf L k) k
theorem zgy {α:Type}(f:Nat->α)(i:Nat):(List.range i).map f++[f i]=(List.range (i+1)).map f:=by rw[List.range_succ,waU];rfl
abbrev abcS:Str:="abcdefghijklmnopqrstuvwxyz"
theorem zm4 {i:Int}(h0:0<=i)(h1:i<26):atI abcS.cps.toList i=some (97+i.toNat):=by
 have k:∀n:Fin 26,abcS.cps.toList[n.val]?=some (97+n.val):=by decide +kernel
 have hn:i.toNat<26:=by omega
 have e:i=((i.toNat:Nat):Int):=by omega
 rw[e];exact zaL (k ⟨i.toNat,hn⟩)
def sg (c:Nat):Str:=⟨#[c]⟩
theorem zea (c:Nat)(n:Int)(h:1<=n):(Txt.mul (sg c) n).cps.toList=List.replicate n.toNat c:=by
 unfold Txt.mul;rw[if_neg (by omega)];by_cases h1:n=1
 ·subst h1;rfl
 ·have:(n == 1||(sg c).length == 0)=false:=by
   have:(n == 1)=false:=by simpa using h1
   rw[this];rfl
  rw[this,if_neg (by decide)];have key:∀(k:Nat) (acc:Array Nat),((List.replicate k (sg c).cps).foldl (·++·) acc).toList=acc.toList++List.replicate k c:=by
   intro k;induction k with
   | zero=>intro acc;simp
   | succ k ih=>
     intro acc;rw[waQ,List.foldl_cons,ih];show(acc++#[c]).toList++_=_
     rw[Array.toList_append,wbr];rfl
  show((List.replicate n.toNat (sg c).cps).foldl (·++·) #[]).toList=_
  rw[key];rfl
theorem zlb {c d:Nat}{n m:Int}(hn:1<=n)(hm:1<=m)(e:Txt.mul (sg c) n=Txt.mul (sg d) m):n=m/\c=d:=by
 have q:=waZ (fun(s:Str)=>s.cps.toList) e
 simp only[zea c n hn,zea d m hm] at q;have l:=waZ List.length q
 rw[wbE,wbE] at l;refine⟨by omega,?_⟩;have h0:c∈List.replicate m.toNat d:=by rw[<-q];exact wbB.mpr ⟨by omega,rfl⟩
 exact(wbB.mp h0).2
theorem zlc (c:Nat)(n:Int)(h:1<=n):(Txt.mul (sg c) n).length=n.toNat:=by
 have:=waZ List.length (zea c n h)
 rw[wbE] at this;simpa[Str.length] using this
theorem zdf {α:Type}{f:Nat->α}:∀(m:Nat),(∀i j,i<j->j<m->f i≠f j)->((List.range m).map f).Nodup
 | 0,_=>by simp
 | m+1,h=>by
   rw[List.range_succ,waU];refine wbI.mpr ⟨zdf m fun i j hi hj=>h i j hi (by omega),by simp,fun a ha b hb=>?_⟩;obtain⟨i,hi,rfl⟩:=waT.mp ha;have:=wak.mp hb
   subst this;exact h i m (wbm.mp hi) (by omega)
inductive Tr where
 | mk (name:Str) (box:Bx) (word:Str) (rank:Int) (head:Option Str) (parts:List Tr)
namespace Tr
def name:Tr->Str | mk n _ _ _ _ _=>n
def parts:Tr->List Tr | mk _ _ _ _ _ x=>x
end Tr
structure Seg (d:Nat)(M:List Row):Prop where
 few:M.length<=200
 low:∀r∈M,d<=r.deep/\r.deep<=4
 first:∀r,M[0]?=some r->r.deep=d
 step:∀k r r',M[k]?=some r->M[k+1]?=some r'->r'.deep<=r.deep+1
def szL:Nat->List Tr->Nat
 | _,[]=>0
 | 0,_=>0
 | n+1,t::r=>1+szL n t.parts+szL (n+1) r
termination_by n ts=>(n,ts.length)
structure Pos' where
 q:List Int
 as:List Tr
 js:List Nat
 t:Tr
def posL:Nat->List Int->Nat->List Tr->List Nat->Nat->List Tr->List Pos'
 | _,_,_,_,_,_,[]=>[]
 | 0,_,_,_,_,_,_=>[]
 | n+1,o,i,as,js,off,t::r=>⟨o++[(i:Int)],as,js,t⟩ ::(posL n (o++[(i:Int)]) 0 (as++[t]) (js++[off]) (off+1) t.parts++posL (n+1) o (i+1) as js (off+1+szL n t.parts) r)
termination_by n _ _ _ _ _ ts=>(n,ts.length)
def Fits:Nat->List Tr->Prop
 | 0,ts=>ts = []
 | n+1,ts=>∀t∈ts,Fits n t.parts
def psOf (ts:List Tr):List Pos':=posL 5 [] 0 [] [] 0 ts
section
variable {ts:List Tr}{L:List Row}
end
end GM
namespace GM
open PySem PySem.Spec PyProof PyProof.Rows L2 VD
theorem zdF {n:Nat}{i:Nat}{d:D}(h:(zaF 0 n)[i]?=some d):i<n/\d=.int (i:Int):=by
 have hl:(zaF 0 n).length=n:=by simp[zaF]
 have hi:i<n:=by rw[<-hl];exact(wal.mp h).1
 refine⟨hi,?_⟩;unfold zaF at h;rw[waw,wcu hi] at h;simp at h;exact h.symm
theorem zgz (n:Nat):(zaF 0 n).length=n:=by simp[zaF]
theorem zhH {α:Type}{xs:List α}{i:Int}(h0:0<=i)(h1:i<xs.length):∃x,xs[i.toNat]?=some x/\atI xs i=some x:=by
 have hi:i.toNat<xs.length:=by omega
 refine⟨xs[i.toNat],wap hi,?_⟩;have e:i=((i.toNat:Nat):Int):=by omega
 have h:=zaL (xs:=xs) (wap hi)
 rw[<-e] at h;exact h
theorem zi2:abcS.length<=lim:=by decide +kernel
theorem zm5 {i:Int}(h0:0<=i)(h1:i<26):dIx (.str abcS) (.int i)=some (.str (sg (97+i.toNat))):=by
 show(if abcS.length<=lim then(atI abcS.cps.toList i).map fun c=>D.str ⟨#[c]⟩ else none)=_
 rw[if_pos zi2,zm4 h0 h1];rfl
theorem zm6 (c:Nat):(sg c).length=1:=rfl
theorem zm7 (c:Nat){n:Int}(h0:-1000<=n)(h1:n<=1000):dMul (.str (sg c)) (.int n)=some (.str (Txt.mul (sg c) n)):=by
 show(if -1000<=n/\n<=1000/\(sg c).length<=1000 then some (D.str (Txt.mul (sg c) n)) else none)=_
 rw[if_pos ⟨h0,h1,by rw[zm6];decide⟩]
theorem zcH {S A α:Type}{f:S->D->Option (Fl S A)}(h:α->D):∀{xs:List α}{s:S},(∀x,x∈xs->f s (h x)=some (.nx s))->zbg f s (xs.map h)=some (.nx s)
 | [],s,_=>rfl
 | x::xs,s,hf=>by
   show(f s (h x)).bind _=_
   rw[hf x waj,zOB];exact zcH h fun y hy=>hf y (waf _ hy)
theorem zdg {S A:Type}{f:S->D->Option (Fl S A)}{ds:List D}{s:S}(hf:∀x,x∈ds->f s x=some (.nx s)):zbg f s ds=some (.nx s):=by
 have:=zcH (f:=f) (fun d:D=>d) (xs:=ds) (s:=s) hf
 rwa [List.map_id'] at this
theorem zcI {xs:List D}{d:D}(h:xs.length<lim):appL xs d=some (xs++[d]):=if_pos h
theorem zcm {α:Type}{f:D->Option (Option D)}(h:α->D)(g:α->D){xs:List α}(hl:xs.length<=10000)(hf:∀x,x∈xs->f (h x)=some (some (g x))):zfx f (xs.map h)=some (xs.map g):=by
 unfold zfx;have:zcR f (xs.map h)=some (xs.map g):=by
  clear hl
  induction xs with
  | nil=>rfl
  | cons x xs ih=>
    show(f (h x)).bind _=_
    rw[hf x waj,zOB];show(zcR f (xs.map h)).bind _=_
    rw[ih fun y hy=>hf y (waf _ hy)];rfl
 rw[this,zOB,if_pos];rw[wao];exact wan hl (by decide)
theorem zcn (x y:Str):dEqG false (.str x) (.str y)=some (.bl (decide (x=y))):=by
 show(if eqC (.str x) (.str y)=true then some (D.bl (if false=true then !decide (D.str x=D.str y) else decide (D.str x=D.str y))) else none)=_
 rw[if_pos (by rfl),if_neg (by decide),zam (show D.str x=D.str y↔x=y from⟨fun h=>by cases h;rfl,fun h=>by rw[h]⟩)]
theorem zi3 (x y:Str):dEqG true (.str x) (.str y)=some (.bl (!decide (x=y))):=by
 show(if eqC (.str x) (.str y)=true then some (D.bl (if true=true then !decide (D.str x=D.str y) else decide (D.str x=D.str y))) else none)=_
 rw[if_pos (by rfl),if_pos rfl,zam (show D.str x=D.str y↔x=y from⟨fun h=>by cases h;rfl,fun h=>by rw[h]⟩)]
theorem zi4 (x y:Int):dEqG false (.int x) (.int y)=some (.bl (decide (x=y))):=by
 show(if eqC (.int x) (.int y)=true then some (D.bl (if false=true then !decide (D.int x=D.int y) else decide (D.int x=D.int y))) else none)=_
 rw[if_pos (by rfl),if_neg (by decide),zam (show D.int x=D.int y↔x=y from⟨fun h=>by cases h;rfl,fun h=>by rw[h]⟩)]
theorem zhI {d:D}(h:eqC d d=true)(neg:Bool):dEqG neg d d=some (.bl (!neg)):=by
 unfold dEqG;rw[if_pos h,waB rfl];cases neg <;> rfl
mutual
theorem zeQ:∀{d:D},ndD d=true->eqOk d d=true
 | .non,_=>rfl
 | .bl _,_=>rfl
 | .int _,_=>rfl
 | .str _,_=>rfl
 | .tup ds,h=>zcJ (ds:=ds) h
 | .lst ds,h=>zcJ (ds:=ds) h
 | .dct _ _,h=>by cases h
 | .scr _,h=>by cases h
 | .exc _ _ _,h=>by cases h
theorem zcJ:∀{ds:List D},ndL ds=true->zd5 ds ds=true
 | [],_=>rfl
 | d::ds,h=>by
   have h:(ndD d&&ndL ds)=true:=h
   rw[waA] at h;show(eqOk d d&&zd5 ds ds)=true
   rw[zeQ h.1,zcJ h.2];rfl
end
theorem zi5 {d:D}(h:ndD d=true)(hd:depD d<=40):eqC d d=true:=by
 unfold eqC;rw[zeQ h,h,waB hd];rfl
theorem zeb {xs:List D}{r:Int}(h0:0<=r)(h1:r<=xs.length):VD.cut xs none (some r)=xs.take r.toNat:=by
 unfold VD.cut HT.sIx;dsimp only[];rw[if_neg (by omega),List.drop_zero,Nat.sub_zero,wcv (by omega)]
end GM
namespace GM
open PySem PySem.Spec PyProof PyProof.Rows L2 VD
end GM
namespace VD
open PySem PySem.Spec PyProof PyProof.Rows L2 PySem.W
structure TabX (X:Cx)(q:Str):Prop where
 ex:∃c P bm ob,X.env.code=.ref c/\CodeK X.K c P/\BMod X.base mainGlobals X.mg bm ob/\∃tp,X.Hz P=some (.tbl tp)/\tp[0]?=some (Value.str q 0)
section
variable {X:Cx}{a:Expr}{fa:FE}
end
structure Pers (Pc:Hp->Prop):Prop where
 st:∀{fs ex:List Addr}{H H':Hp}{h h':Heap},Un fs ex H H' h h'->Pc H->Pc H'
 sm:∀{H H':Hp},Same H H'->Pc H->Pc H'
def Prs (X:Cx)(Pc:Hp->Prop):Prop:=∀pins σ H s,Inv X pins σ H s->Pc H
theorem Prs.of {X:Cx}{Pc:Hp->Prop}(p:Pers Pc)(h:Pc X.Hz):Prs X Pc:=fun _ _ _ _ I=>p.st I.base h
def pcS (Pc:Hp->Prop)(sp:Sp):Sp:=fun vs H Q E=>Pc H/\sp vs H Q E
structure Scr where
 p:Addr
 ns:List Int
def SqF (K:W.Frag)(S:Scr)(H:Hp):Prop:=(∃o,H S.p=some (.frz o (.lst (S.ns.map V.int))))\/∀H,SqL K H S.p (S.ns.map V.int)
theorem SqF.sq {K:W.Frag}{S:Scr}{H:Hp}(h:SqF K S H):SqL K H S.p (S.ns.map V.int):=by
 rcases h with⟨o,h⟩ | h
 ·exact .inl (.inr ⟨o,h⟩)
 ·exact h H
theorem SqF.of {K:W.Frag}{S:Scr}{H:Hp}(h:SqL K H S.p (S.ns.map V.int))(hf:H S.p≠none->∃o xs,H S.p=some (.frz o (.lst xs))):SqF K S H:=by
 rcases h with(h | ⟨o,h⟩) | h
 ·obtain⟨o,xs,e⟩:=hf (by rw[h];simp);rw[h] at e;cases e
 ·exact .inl ⟨o,h⟩
 ·exact .inr fun _=>.inr h
def TabH (P:Addr)(q:Str)(H:Hp):Prop:=∃tp,H P=some (.tbl tp)/\tp[0]?=some (Value.str q 0)
theorem tab0 {tp more:Array Value}{q:Str}(htp:tp[0]?=some (Value.str q 0)):(tp++more)[0]?=some (Value.str q 0):=by
 have:0<tp.size:=by
  rcases Nat.eq_zero_or_pos tp.size with z | z
  ·rw[Array.getElem?_eq_none (by omega)] at htp;cases htp
  ·exact z
 rw[Array.getElem?_append_left this];exact htp
def PcL (K:W.Frag)(S:Scr)(P:Addr)(q:Str)(H:Hp):Prop:=SqF K S H/\TabH P q H
theorem pers_F {K:W.Frag}{S:Scr}:Pers (SqF K S):=⟨fun u h=>by
 rcases h with⟨o,h⟩ | h
 ·exact .inl ⟨o,u.frzs _ _ _ h⟩
 ·exact .inr h,fun s h=>by
 rcases h with⟨o,h⟩ | h
 ·exact .inl ⟨o,s _ _ h⟩
 ·exact .inr h⟩
theorem pers_T {P:Addr}{q:Str}:Pers (TabH P q):=⟨fun u ⟨tp,h,e⟩ =>by
 obtain⟨more,h'⟩:=u.tbls _ _ h;exact⟨_,h',tab0 e⟩,fun s ⟨tp,h,e⟩ =>⟨tp,s _ _ h,e⟩⟩
theorem zf6 {K:W.Frag}{S:Scr}{P:Addr}{q:Str}:Pers (PcL K S P q):=⟨fun u h=>⟨pers_F.st u h.1,pers_T.st u h.2⟩,fun s h=>⟨pers_F.sm s h.1,pers_T.sm s h.2⟩⟩
section
variable {X:Cx}{a b e:Expr}{es:List Expr}{fa fb:FE}{fl:FA}{p pos:Pos}{Pc:Hp->Prop}
theorem pcP {k k':Nat}{x:Str}{ps:List Str}{sp:Sp}{t:TA}(C:Cal X.prog X.w X.K X.mg X.base k x ps (pcS Pc sp))(hp:Prs X Pc)(hr:Room k' X.A)(ha:PA X (e::es) t)(hk:k<=k')(hg:Gl X x)(hdb:(x == ("__debug__" : Str))=false)
 (he:starEach (e::es) X.env=(false,eval e X.env)::starEach es X.env) (hpl:(backTo pos (starEach es X.env)).any (·.1)=false):PE X (.Call (.Name x p) (e::es) [] pos) (zgq sp [] E0 t):=by
 obtain⟨f,fd,F,hb,hkp,hm⟩:=C.ex;intro pins s σ H Q I h;refine waG (zcD I hg hm ?_ hdb);refine callWith_K (h₀:=X.base) I.ok.mod.kin hkp (thn (ha pos pins s σ H _ I h) fun us s1 ⟨vs,H1,I1,r,q⟩ =>⟨I1.kIn,?_⟩) he hpl;exact zjP (F.mono hk) hr hb .nil zml I1 r ⟨hp _ _ _ _ I1,q⟩
theorem zf7 {k k':Nat}{x:Str}{ps:List Str}{F:List D->Option D}(C:Cal X.prog X.w X.K X.mg X.base k x ps (pcS Pc (spF X.K F)))(hp:Prs X Pc)(hr:Room k' X.A)(ha:VA X (e::es) fl)(hk:k<=k':=by decide)(hg:Gl X x:=by rfl)(hdb:(x == ("__debug__" : Str))=false:=by decide)
 (he:starEach (e::es) X.env=(false,eval e X.env)::starEach es X.env:=by rfl) (hpl:(backTo pos (starEach es X.env)).any (·.1)=false:=by rfl):VE X (.Call (.Name x p) (e::es) [] pos) (eCall F fl):=by
 obtain⟨t,pa,g⟩:=ha;refine⟨_,pcP C hp hr pa hk hg hdb he hpl,?_⟩;intro Hz Jz O ρ σ H J d Q s e w;obtain⟨ds,e1,e⟩:=bind_some e;refine g Hz Jz O ρ σ H J ds _ s e1 fun vs H1 J1 u1 r1=>?_
 refine⟨J1,ds,d,u1.ja,by rw[waF];exact r1,e,fun v H2 J2 u2 r2=>w v H2 J2 (u1.trans u2) r2⟩
theorem zeR {fl:FAX}{k k':Nat}{x:Str}{ps:List Str}{ks:List (Option Nat)}{F:List D->Option (RV×List D)}(C:Cal X.prog X.w X.K X.mg X.base k x ps (pcS Pc (spG X.K ks F)))(hp:Prs X Pc)(hr:Room k' X.A)(ha:VAX X (e::es) fl)(hn:ks.all (·.isNone)=true:=by rfl)(hk:k<=k':=by decide)(hg:Gl X x:=by rfl)(hdb:(x == ("__debug__" : Str))=false:=by decide)
 (he:starEach (e::es) X.env=(false,eval e X.env)::starEach es X.env:=by rfl) (hpl:(backTo pos (starEach es X.env)).any (·.1)=false:=by rfl):VR X (.Call (.Name x p) (e::es) [] pos) (xCallN ks F fl):=by
 obtain⟨t,pa,g⟩:=ha;exact⟨_,pcP C hp hr pa hk hg hdb he hpl,zf0 hn g _⟩
def lenS (S:Scr):D->Option D
 | .scr q=>if q=S.p then some (.int S.ns.length) else none
 | _=>none
def ixS (S:Scr):D->D->Option D
 | .scr q,.int i=>if q=S.p then(atI S.ns i).map D.int else none
 | _,_=>none
theorem zhJ {S:Scr}{d r:D}(h:lenS S d=some r):d=.scr S.p/\r=.int S.ns.length:=by
 unfold lenS at h;split at h
 ·split at h
  ·rename_i z;rw[z];cases h;exact⟨rfl,rfl⟩
  ·cases h
 ·cases h
theorem zi6 {S:Scr}{x y r:D}(h:ixS S x y=some r):∃i n,x=.scr S.p/\y=.int i/\atI S.ns i=some n/\r=.int n:=by
 match x,y,h with
 | .scr q,.int i,h=>
   have h:(if q=S.p then(atI S.ns i).map D.int else none)=some r:=h
   by_cases z:q=S.p
   ·rw[if_pos z] at h;cases hi:atI S.ns i with
    | none=>rw[hi] at h;cases h
    | some n=>rw[hi] at h;cases h;exact⟨i,n,by rw[z],rfl,hi,rfl⟩
   ·rw[if_neg z] at h;cases h
theorem zld {α β:Type}{f:α->β}{xs:List α}{i:Int}:atI (xs.map f) i=(atI xs i).map f:=by
 unfold atI;rw[wao];cases ixN xs.length i with
 | none=>rfl
 | some j=>simp
theorem zhK {S:Scr}(hp:Prs X (SqF X.K S))(B:Blt X.mg)(ha:VE X a fa)(hg:Gl X "len":=by rfl)(h1:starEach [a] X.env=(false,eval a X.env)::starEach [] X.env:=by rfl):VE X (.Call (.Name "len" p) [a] [] pos) (e1 (lenS S) fa):=by
 obtain⟨ta,pa,ga⟩:=ha;refine⟨fun σ H Q=>∃Hz Jz O ρ J d,ST X.K Hz Jz O ρ σ H J/\e1 (lenS S) fa ρ=some d/\zfp X.K H J d Q,fun pins s σ H Q I hyp=>?_,fun Hz Jz O ρ σ H J d Q st e w=>⟨Hz,Jz,O,ρ,J,d,st,e,w⟩⟩;obtain⟨Hz,Jz,O,ρ,J,d,st,e,w⟩:=hyp;obtain⟨x,ex,e⟩:=bind_some e;obtain⟨rfl,rfl⟩:=zhJ e;refine pb zeB B PySem.boot_len (zaV pa zcd h1) (by decide +kernel) hg (by decide) (by decide) h1 rfl pins s σ H Q I ?_;refine ga Hz Jz O ρ σ H J _ _ st ex fun v H1 J1 u r=>?_
 cases r;refine⟨S.p,S.ns.map V.int,rfl,.inl (pers_F.sm u.same (hp _ _ _ _ I)).sq,?_⟩;rw[wao];exact w _ H1 J1 u (.int _)
theorem zm8 {S:Scr}(hp:Prs X (SqF X.K S))(ha:VE X a fa)(hb:VE X b fb)(hs:zb3 b:=by exact fun _ _=>rfl):VE X (.Subscript a b pos) (e2 (ixS S) fa fb):=by
 obtain⟨ta,pa,ga⟩:=ha;obtain⟨tb,pb,gb⟩:=hb;refine⟨fun σ H Q=>∃Hz Jz O ρ J d,ST X.K Hz Jz O ρ σ H J/\e2 (ixS S) fa fb ρ=some d/\zfp X.K H J d Q,fun pins s σ H Q I hyp=>?_,fun Hz Jz O ρ σ H J d Q st e w=>⟨Hz,Jz,O,ρ,J,d,st,e,w⟩⟩;obtain⟨Hz,Jz,O,ρ,J,d,st,e,w⟩:=hyp;obtain⟨x,ex,e⟩:=bind_some e;obtain⟨y,ey,e⟩:=bind_some e;obtain⟨i,n,rfl,rfl,hi,rfl⟩:=zi6 e;refine zgt ix_list pa pb hs pins s σ H Q I ?_;refine ga Hz Jz O ρ σ H J _ _ st ex fun v H1 J1 u r=>?_
 refine gb Hz Jz O ρ σ H1 J1 _ _ (st.up u) ey fun v2 H2 J2 u2 r2=>?_
 cases r;cases r2;exact⟨S.p,_,i,.int n,rfl,rfl,(pers_F.sm u2.same (pers_F.sm u.same (hp _ _ _ _ I))).sq,by rw[zld,hi];rfl,w _ H2 J2 (u.trans u2) (.int _)⟩
end
section
variable {P:Program}{w:World}{K:W.Frag}{mg:Str->Option Value}{base:Heap}{Pc:Hp->Prop}
theorem zfz {x qual:Str}{st:Stmt}{f:Addr}{fd:FuncData}{N ps:List Str}{k:Nat}{c:List D->Option D}(pe:Pers Pc)(F:Fun K x qual st f fd)(S:FnScope N ps (zab st))(hlen:∀ds d,c ds=some d->ds.length=ps.length)
 (hbody:∀(cdv:Value) (A:Around) (outer:List Env) (s:Shared) (H:Hp) (E:XK),fd.code=cdv->Room k (A.deeper (envOfC qual (zab st) s.heap.objs.size f cdv))->Pc H->Prs (cxOf CX0 P w K mg base N qual (zab st) f cdv A outer s H E).nox Pc->∃g,VSs (cxOf CX0 P w K mg base N qual (zab st) f cdv A outer s H E).nox (zaB st) g/\∀ds,ds.length=ps.length->EvS kF some g (ds.map SV.val++List.replicate (N.length - ps.length) .un) (c ds)):FnOk P w K mg base CX0 (k+1) f fd ps (pcS Pc (spF K c)):=by
 refine F.okC S (fun vs H Q E h=>?_) (fun cdv A outer s H vs Q E hcv hr h=>?_)
 ·obtain⟨_,J,ds,d,ja,r,e,w⟩:=h;rw[r.length];exact hlen ds d e
 ·obtain⟨hPc,J,ds,d,ja,r,e,w⟩:=h;have hl:=hlen ds d e
  obtain⟨g,⟨t,p,q⟩,ev⟩:=hbody cdv A outer s H E hcv hr hPc (Prs.of pe hPc);refine⟨t,p,?_⟩;have e:=ev ds hl d (by rw[e];rfl)
  rw[<-hl] at e;have s0:=zd0 (N:=N) ja r
  cases z:g (ds.map SV.val++List.replicate (N.length - ds.length) .un) with
  | none=>rw[z] at e;cases e
  | some o=>
    rw[z] at e;refine q H J Pr.no _ _ H J o _ s0 z ?_;cases o with
    | nx ρ'=>cases e;exact fun σ' H' J' s' k'=>w .non H' J' s'.out .non
    | ret r ρ'=>
      cases r with
      | told d'=>cases e;exact fun v σ' H' J' s' r'=>w v H' J' s'.out r'
      | new n d'=>
        cases e;rintro v σ' H' J' s' ⟨B,fp,_,ru,_,hb,_⟩;have u:=s'.out
        refine w v H' (fun b=>J' b\/b∈B) ⟨u.same,fun a h=>.inl (u.jj a h),fun a h=>?_,fun a h=>?_⟩ (ru.rp (fun _ h=>.inl h) (fun b hb=>.inr hb))
        ·rcases h with h | h
         ·exact u.jn a h
         ·exact .inr (hb a h).2
        ·rcases h with h | h
         ·exact u.ja a h
         ·obtain⟨o,e,_⟩:=ru.some a h;rw[e];simp
    | bk _=>cases e
    | ct _=>cases e
theorem zle {x qual:Str}{st:Stmt}{f:Addr}{fd:FuncData}{N ps:List Str}{k:Nat}{c:List D->Option (RV×List D)}(pe:Pers Pc)(ks:List (Option Nat))(F:Fun K x qual st f fd)(S:FnScope N ps (zab st))(hks:ks.length=ps.length)
 (hbody:∀(cdv:Value) (A:Around) (outer:List Env) (s:Shared) (H:Hp) (E:XK),fd.code=cdv->Room k (A.deeper (envOfC qual (zab st) s.heap.objs.size f cdv))->Pc H->Prs (cxOf CX0 P w K mg base N qual (zab st) f cdv A outer s H E).nox Pc->∃g,VSs (cxOf CX0 P w K mg base N qual (zab st) f cdv A outer s H E).nox (zaB st) g/\∀ds,ds.length=ks.length->EvS (kG ks) some g (inSl ks ds++List.replicate (N.length - ks.length) .un) (c ds)) :
 FnOk P w K mg base CX0 (k+1) f fd ps (pcS Pc (spG K ks c)):=by
 refine F.okC S (fun vs H Q E h=>?_) (fun cdv A outer s H vs Q E hcv hr h=>?_)
 ·obtain⟨_,J,ds,r,es,fp,ja,a,e,w⟩:=h;rw[a.l1,hks]
 ·obtain⟨hPc,J,ds,r,es,fp,ja,a,e,w⟩:=h;obtain⟨g,⟨t,p,q⟩,ev⟩:=hbody cdv A outer s H E hcv hr hPc (Prs.of pe hPc);refine⟨t,p,?_⟩;have s0:=zeM (N:=N) ja a
  have e:=ev ds a.l2 (r,es) (by rw[e];rfl)
  cases z:g (inSl ks ds++List.replicate (N.length - ks.length) .un) with
  | none=>rw[z] at e;cases e
  | some o=>
    rw[z] at e;refine q H J _ _ _ H J o _ s0 z ?_;cases o with
    | nx ρ'=>
      obtain⟨es',e1,e⟩:=bind_some (show((outSl ks ρ').bind fun es=>some (RV.told D.non,es))=some (r,es) from e);cases e;intro σ' H' J' s' k';obtain⟨fp',pg⟩:=ziO (v:=.non) (r:=.told .non) a s' .non e1;exact w _ _ _ _ pg
    | ret r' ρ'=>
      obtain⟨es',e1,e⟩:=bind_some (show((outSl ks ρ').bind fun es=>some (r',es))=some (r,es) from e);cases e;intro v σ' H' J' s' q';obtain⟨fp',pg⟩:=ziO a s' q' e1;exact w _ _ _ _ pg
    | bk _=>cases e
    | ct _=>cases e
structure TabF (K:W.Frag)(mg:Str->Option Value)(base:Heap)(fd:FuncData)(P:Addr):Prop where
 ex:∃c bm ob,fd.code=.ref c/\CodeK K c P/\BMod base mainGlobals mg bm ob
theorem zlf {X:Cx}{fd:FuncData}{P:Addr}{q:Str}(T:TabF X.K X.mg X.base fd P)(hc:fd.code=X.env.code)(h:TabH P q X.Hz):TabX X q:=by
 obtain⟨c,bm,ob,e1,e2,e3⟩:=T.ex;exact⟨c,P,bm,ob,by rw[<-hc];exact e1,e2,e3,h⟩
end
end VD
namespace L2
open PySem PySem.Spec PyProof PyProof.Rows
section
variable {X:Cx}
end
end L2
namespace VD
open PySem PySem.Spec PyProof PyProof.Rows L2 PySem.W
section
variable {X:Cx}{a b e:Expr}{fa fb:FE}
end
end VD
namespace HT
open PySem PySem.Spec PyProof PyProof.Rows
section
variable {prog:Program}{w:World}{A:Around}{E:Value->Shared->Prop}{s:Shared}
end
end HT
namespace L2
open PySem PySem.Spec PyProof PyProof.Rows
section
variable {X:Cx}
end
end L2
namespace VD
open PySem PySem.Spec PyProof PyProof.Rows L2 PySem.W
section
variable {X:Cx}{a:Expr}{fa:FE}{p2 pos:Pos}
end
end VD
namespace VD
open PySem PySem.Spec PyProof PyProof.Rows L2
def ix2C (xs:List D)(k:D):Option D:=(dInt k).bind fun k=>(atI xs k).bind fun d=>match d with | .lst es=>some (.lst es) | _=>none
def zlg (xs:List D)(es:List D)(k:D):Option (List D):=(dInt k).bind fun k=>(ixN xs.length k).bind fun j=>match xs[j]? with
 | some (.lst _)=>some (xs.set j (.lst es))
 | _=>none
def zi7 (xs:List D)(k d:D):Option (List D):=(dInt k).bind fun k=>(ixN xs.length k).bind fun j=>match xs[j]? with
 | some (.lst es)=>if es.length<lim then some (xs.set j (.lst (es++[d]))) else none
 | _=>none
section
variable {ρ:En}{xs:List D}{i:Nat}{fk fv:FE}{f:FA}
theorem zlh (h:ownD (ρ[i]?)=some (2,.lst xs)):Step (zkW i fk f) ρ ((f ρ).bind fun es=>(fk ρ).bind fun k=>zlg xs es k) fun ys=>setO ρ i (.lst ys):=fun d z=>by
 obtain⟨es,e0,z⟩:=zaa z;obtain⟨k,e1,z⟩:=zaa z;obtain⟨kk,e2,z⟩:=zaa z;obtain⟨j,e3,z⟩:=zaa z;unfold zkW;rw[e0,zOB,e1,zOB,e2,zOB,h];show(ixN xs.length kk).bind _=_
 rw[e3,zOB];split at z
 ·rename_i q;cases z;first | rw[q] | rfl
 ·cases z
theorem zli (h:ownD (ρ[i]?)=some (2,.lst xs)):Step (zkU i fk fv) ρ ((fk ρ).bind fun k=>(fv ρ).bind fun d=>zi7 xs k d) fun ys=>setO ρ i (.lst ys):=fun d z=>by
 obtain⟨k,e1,z⟩:=zaa z;obtain⟨x,e0,z⟩:=zaa z;obtain⟨kk,e2,z⟩:=zaa z;obtain⟨j,e3,z⟩:=zaa z;unfold zkU;rw[e1,zOB,e2,zOB,e0,zOB,h];show(ixN xs.length kk).bind _=_
 rw[e3,zOB];split at z
 ·rename_i es q
  try rw[q]
  split at z
  ·rename_i hl;cases z;exact if_pos hl
  ·cases z
 ·cases z
end
section
variable {S:Type}{emb:S->En}{ρ:En}{s:S}{f:FX}{x:Option (D×S)}
def EvOX {S:Type}(f:FOX)(ρ:En)(x:Option (Option Int×S))(emb:S->En):Prop:=∀q,x=some q->f ρ=some (q.1,emb q.2)
theorem zm9 (h:emb s=ρ):EvOX oxN ρ (some (none,s)) emb:=fun q z=>by cases z;rw[<-h];rfl
theorem zna (h:EvX f ρ x emb):EvOX (oxS f) ρ (x.bind fun q=>(dInt q.1).bind fun i=>some (some i,q.2)) emb:=fun q z=>by
 obtain⟨a,e0,z⟩:=zaa z;obtain⟨i,e1,z⟩:=zaa z;cases z;unfold oxS;rw[h a e0,zOB,e1];rfl
theorem znb {lo hi:FOX}{y:D×S->Option (Option Int×S)}{z:D×S->Option Int×S->Option (Option Int×S)}(h1:EvX f ρ x emb)(h2:∀q,EvOX lo (emb q.2) (y q) emb)(h3:∀q l,EvOX hi (emb l.2) (z q l) emb) :
 EvX (xSl f lo hi) ρ (x.bind fun q=>(y q).bind fun l=>(z q l).bind fun h=>(dSl q.1 l.1 h.1).bind fun d=>some (d,h.2)) emb:=fun q w=>by
 obtain⟨a,e0,w⟩:=zaa w;obtain⟨l,e1,w⟩:=zaa w;obtain⟨h,e2,w⟩:=zaa w;obtain⟨d,e3,w⟩:=zaa w;cases w;unfold xSl;rw[h1 a e0,zOB,h2 a l e1,zOB,h3 a l h e2,zOB,e3];rfl
end
def zi8 (x k v:D):Option D:=match x with
 | .lst xs=>(zmV xs k v).bind fun ys=>some (.lst ys)
 | _=>none
theorem zf8 {i:Nat}{ρ:En}{fk f:FE}{x:D}(h:ownD (ρ[i]?)=some (1,x)):Step (gPutL i fk (xE f)) ρ ((f ρ).bind fun v=>(fk ρ).bind fun k=>zi8 x k v) fun y=>setO ρ i y:=fun d z=>by
 obtain⟨v,e0,z1⟩:=zaa z;obtain⟨kk,e1,z2⟩:=zaa z1;cases x <;> try cases z2
 rename_i xs
 obtain⟨ys,e2,z3⟩:=zaa z2;cases z3;exact zk5 h ys (by rw[e0,zOB,e1];exact e2)
def newD {S:Type}(q:RV×S):Option (D×S):=match q.1 with
 | .new 1 x=>some (x,q.2)
 | _=>none
theorem zhL {S:Type}{emb:S->En}{ρ:En}{i:Nat}{fr:FR}{xr:Option (RV×S)}(h:EvR fr ρ xr emb)(hi:∀s,okS i (emb s)=true):Step (gOwnR i fr) ρ (xr.bind newD) fun q=>(emb q.2).set i (.own 1 q.1):=fun q z=>by
 obtain⟨⟨r,s1⟩,e0,z⟩:=zaa z;unfold newD at z;split at z
 ·rename_i x hr
  cases z;have hr:r=.new 1 x:=hr
  subst hr;unfold gOwnR;rw[h _ e0,zOB];exact if_pos (zcj (hi s1))
 ·cases z
end VD
namespace VD
open PySem PySem.Spec PyProof PyProof.Rows L2 PySem.W
section
variable {X:Cx}{a b e e1':Expr}{es:List Expr}{fa fb:FE}{fl:FA}{p pos:Pos}{Pc:Hp->Prop}
end
end VD
namespace VD
open PySem PySem.Spec PyProof PyProof.Rows L2
section
variable {X:Cx}{i b:Expr}{ty:TE}{pos p':Pos}{x:Str}
end
section
variable {X:Cx}{e:Expr}{fa:FE}{fl:FA}{pos pos':Pos}{x:Str}
theorem vsS (i:Nat)(hN:X.N.Nodup)(h:VE X e fa)(hi:X.N[i]?=some x:=by rfl)(hx:Loc X.env.scope x:=by first | exact Or.inl rfl | exact Or.inr rfl)(hs:swapsWith e (some (.Name x pos')) pos.line X.env=pure false:=by rfl)(hf:X.fn x=true\/X.env.scope.names.lookup x=some .local:=by first | exact .inl rfl | exact .inr rfl | assumption) :
 VS X (.Assign [.Name x pos'] e pos) (gSet i fa):=zmJ hN hi hx h hs hf
theorem vsO (i:Nat)(hN:X.N.Nodup)(h:VN X e fl)(hi:X.N[i]?=some x:=by rfl)(hx:Loc X.env.scope x:=by first | exact Or.inl rfl | exact Or.inr rfl)(hs:swapsWith e (some (.Name x pos')) pos.line X.env=pure false:=by rfl)(hf:X.fn x=true\/X.env.scope.names.lookup x=some .local:=by first | exact .inl rfl | exact .inr rfl | assumption) :
 VS X (.Assign [.Name x pos'] e pos) (gOwn i fl):=zmK hN hi hx h hs hf
theorem vgN (i:Nat)(hN:X.N.Nodup)(hi:X.N[i]?=some x:=by rfl)(hx:Loc X.env.scope x:=by first | exact Or.inl rfl | exact Or.inr rfl)(hf:X.fn x=true\/X.env.scope.names.lookup x=some .local:=by first | exact .inl rfl | exact .inr rfl | assumption):VG X (.Name x pos) [i] (gN i):=zkS hN hi hx hf
theorem vgc (i:Nat){X:Cx}{scope:Scope}{cl:List (Str×Addr)}{NC:List Str}{C:Addr}{s0:Shared}{H0:Hp}{ex:List Addr}{pn:List (Addr×Obj)}{x:Str}{pos:Pos}(nd:NC.Nodup:=by decide +kernel)(hi:NC[i]?=some x:=by rfl)(hx:scope.names.lookup x=some .local:=by rfl):VG (cxC X scope cl NC C s0 H0 ex pn) (.Name x pos) [i] (gN i):=vgC i nd hi hx
theorem fsc {N P:List Str}{sc:Scope}(a:sc.kind=.function:=by rfl)(b:sc.isCoroutine=false:=by rfl)(c:sc.isGenerator=false:=by rfl)(d:N.Nodup:=by decide +kernel)(e:N.take P.length=P:=by rfl)(f:∀x∈P,sc.names.lookup x=some .local\/sc.names.lookup x=some .cell:=by decide +kernel)(g:∀y∈sc.names,y.2≠.free:=by decide +kernel):FnScope N P sc:=⟨a,b,c,d,e,f,g⟩
theorem vnC (N:List Str)(st:Stmt){X:Cx}{elt iter tg:Expr}{ifs:List Expr}{scope:Scope}{pos:Pos}{NC:List Str}(fr:List (Option Nat)){fi:FA}{g:FG}{is:List Nat}{ft:FT}{fe:FE}(hi:VI X tg iter fi)
 (hg:∀{cl C s0 H0 ex pn},VG (cxC X scope cl NC C s0 H0 ex pn) tg is g) (ht:∀{cl C s0 H0 ex pn},VTs (cxC X scope cl NC C s0 H0 ex pn) ifs ft) (he:∀{cl C s0 H0 ex pn},VE (cxC X scope cl NC C s0 H0 ex pn) elt fe)
 (hcalm:X.calm=true:=by rfl) (hcells:∀x,X.env.scope.names.lookup x=some .cell->∃c,X.env.cells.lookup x=some c:=by exact fun x h=>zbp h) (hfk:X.env.scope.kind=.function:=by rfl) (hN:X.N=N:=by rfl) (hsc:X.env.scope.names=(zab st).names:=by rfl)
 (hfree':∀y∈scope.names,y.2=.free->(zab st).names.lookup y.1=some .cell:=by decide +kernel) (hcell:∀y∈scope.names,y.2≠.cell:=by decide +kernel) (hkind:scope.kind=.function:=by rfl) (hnames:∀y∈scope.names,y.2=.local->scope.names.lookup y.1=some .local:=by decide +kernel)
 (hfr':zcg N (zab st).names scope.names NC fr=true:=by decide +kernel) (hlen:fr.length=NC.length:=by rfl) (hap:apart is fr=true:=by decide)
 (hs:∀x,foldedSetIterable iter X.env x=pure x:=by intro _;rfl):VN X (.ListComp elt [⟨tg,iter,ifs,0⟩] scope pos) (zeL fr fi g ft fe):=
 zkT N st fr hcalm hi hcells hfk hN hsc hfree' hcell hkind hnames hfr' hlen hap (fun _ _ _ _ _ _=>hg) (fun _ _ _ _ _ _=>ht) (fun _ _ _ _ _ _=>he) hs
end
end VD
namespace EX
open PySem PySem.Spec PySem.W PyProof.Rows
section
variable {prog:Program}{w:World}{A:Around}{E:Value->Shared->Prop}{h:Heap}{g:Array GenState}{d:Drawn}{t:Nat}{os:OsState}
variable {nm q:Str}{C N:Addr}{bs bm bmB:List Value}{hdct:Bool}{sn:List Str}{sub:List Value}{ab:Bool}{col:Option Bool}{dd:Option Addr}{k0 k1 k2 k3 k5:Option Value}{B newId initId:String}
theorem zdv (F:ExcBaseFacts B newId initId bmB)(T:OwnTail h bmB bm){mN:Str->Option Value}{rest:List Value}{fI:Addr}{oI:Obj}{Q:Fin->Shared->Prop}
 (hC:h.get? C=some (excClassObj nm q C N bs bm hdct sn sub ab col dd k0 k1 k2 k3 k5 newId)) (hn:h.Ns N mN) (hi:mN "__init__"=some (.ref fI))
 (hfI:h.get? fI=some oI) (hfc:oI.cls=.type "function")
 (hq:∀h' e,Heap.MadeExcOf h h' e (.ref C) rest->h.objs.size<=e->
  wpAny (model prog w) A (call (.ref fI) (.ref e::rest)) (fun r s'=>r=.none/\Q (.done (.ret (.ref e))) s') E ⟨h',g,d,t,os⟩) (hrest:rest.length<=sizeLine:=by size_fits) :
 wpAny (model prog w) A (Builtin.«type.__call__» ⟨.ref C::rest,[]⟩) Q E ⟨h,g,d,t,os⟩:=by
 repeat (first | with_reducible refine wbs hC ?_ | with_reducible refine wpAny_madeBy_exc hC ?_ | wp_step)
 refine codeAny_call_builtin_code (wbX _ F.quiet) (wpAny_check_new_subT F T hC ?_);refine codeAny_exc_new_subT F T hC ?_ hrest;show wpAny _ _ _ _ _ _
 have up:∀b o,h.get? b=some o->((h.push {cls:=.type "tuple",data:=.seq rest.toArray}).push {cls:=.ref C,data:=.fields #[.ref h.objs.size,.none,.none,.none,.bool false,.none]}).get? b=some o:=fun b o e=>wab _ (wab _ e)
 have hC₁:=up _ _ hC
 have hfI₁:=up _ _ hfI
 have hn₁:=hn.keeps up
 have T₁:=T.keeps up
 have hget:((h.push {cls:=.type "tuple",data:=.seq rest.toArray}).push
  {cls:=.ref C,data:=.fields #[.ref h.objs.size,.none,.none,.none,.bool false,.none]}).get? (h.objs.size+1)=some
  {cls:=.ref C,data:=.fields #[.ref h.objs.size,.none,.none,.none,.bool false,.none]}:=by heap_get
 have hcC:(Value.ref C::bm).contains (.ref C)=true:=by simp
 unfold isInstance;repeat (first | with_reducible refine wbs hget ?_ | (with_reducible refine wcw hC₁ ?_;rw[hcC]) | wp_step)
 show wpAny _ _ (typeLookup (.ref C) _) _ _ _
 refine wpAny_typeLookup_tail hC₁ hn₁ T₁ F.mroIs F.init.lookup ?_;rw[hi];refine wbl (waa ?_);unfold bindSpecial;refine waa (wpAny_typeOf (T:="function") ⟨_,hfI₁,hfc⟩ ?_);rw[if_pos (by decide)];refine wag (waa (waz (hq _ (h.objs.size+1) ⟨up,wbK (wcs _),h.objs.size,hget,wbK (wam _),?_⟩ (wcs _)) (fun r s' hr=>?_) fun _ _ x=>x))
 ·exact wab _ (wce rfl rfl)
 ·obtain⟨rfl,hQ⟩:=hr;wp_walk
  exact hQ
theorem zhM (F:ExcBaseFacts B newId initId bmB)(T:OwnTail h bmB bm){mN:Str->Option Value}{rest:List Value}{fI:Addr}{oI:Obj}{Q:Value->Shared->Prop}
 (hC:h.get? C=some (excClassObj nm q C N bs bm hdct sn sub ab col dd k0 k1 k2 k3 k5 newId)) (hn:h.Ns N mN) (hi:mN "__init__"=some (.ref fI))
 (hfI:h.get? fI=some oI) (hfc:oI.cls=.type "function")
 (hq:∀h' e,Heap.MadeExcOf h h' e (.ref C) rest->h.objs.size<=e->
  wpAny (model prog w) (A.under (.builtin "type.__call__" ⟨.ref C::rest,[]⟩)) (call (.ref fI) (.ref e::rest)) (fun r s'=>r=.none/\Q (.ref e) s') E ⟨h',g,d,t,os⟩) (hrest:rest.length<=sizeLine:=by size_fits) :
 wpAny (model prog w) A (call (.ref C) rest) Q E ⟨h,g,d,t,os⟩:=by
 have f1:=tc_lookup
 have f2:=tc_bind (.ref C)
 have hT:(⟨h,g,d,t,os⟩:Shared).TypeIs (.ref C) "type":=⟨_,hC,rfl⟩
 refine wcn (codeAny_of_tree ?_);show wpAny _ _ (callAny (.ref C) _) _ _ _
 repeat (any_goals (first | assumption | with_reducible refine wbs hC ?_ | wp_step))
 refine⟨rfl,?_⟩;refine codeAny_call_builtin_at (wbX _ (by decide +kernel)) entry_typeCall (wpAny_check_type_call_sub hC (zdv (hrest:=hrest) F T hC hn hi hfI hfc fun h' e hm=>?_));exact hq h' e hm
end
theorem zon:".".intercalate ("ValueError.__init__".cutAt '.').dropLast = "ValueError":=by decide +kernel
theorem ty_b (s:Shared):s.TypeIs (.builtin "ValueError.__init__") "wrapper_descriptor":=by
 show _=_
 kernel_rfl
theorem zlj:typeOf (.builtin "ValueError.__init__")=pure (.type "wrapper_descriptor"):=by kernel_rfl
theorem znc:typeLookup (.type "wrapper_descriptor") "__get__"=pure (some (.builtin "wrapper_descriptor.__get__")):=by rw[typeLookup_type,builtinLookup_eq_fast];kernel_rfl
theorem zi9:Slot "wrapper_descriptor" "__get__" "wrapper_descriptor.__get__":=.of (owner:="wrapper_descriptor") (n:="__get__") (by rw[typeLookup_type,builtinLookup_eq_fast];kernel_rfl) (by decide +kernel) (by decide +kernel) (by decide +kernel)
 (by first | exact .inl (by decide +kernel) | exact .inr (by decide +kernel)) (by rw[isSubtype_type];kernel_rfl)
theorem zhN:entryFor table "wrapper_descriptor.__get__"=some Builtin.«wrapper_descriptor.__get__»:=entryFor_of_tree (by kernel_rfl)
theorem zja (a b c:Value):argsOk "wrapper_descriptor.__get__" ⟨[a,b,c],[]⟩:=by unfold argsOk;kernel_rfl
section
variable {prog:Program}{w:World}{A:Around}{E:Value->Shared->Prop}{h:Heap}{g:Array GenState}{d:Drawn}{t:Nat}{os:OsState}
variable {nm q:Str}{C N:Addr}{bs bm bmB:List Value}{hdct:Bool}{sn:List Str}{sub:List Value}{ab:Bool}{col:Option Bool}{dd:Option Addr}{k0 k1 k2 k3 k5:Option Value}{B newId:String}
theorem zhO {so D x:Addr}{l₀ l:List Value}{K:Frag}{ox:Obj}{tk:Tok}{Q:Fin->Shared->Prop}
 (hso:h.get? so=some {cls:=.type "super",dict:=none,data:=.fields #[.ref D,.ref x,.ref C],slots:=#[]}) (hno:Looks (model prog w) h (opaqueClassAbove (.ref C)) none)
 (hC:Looks (model prog w) h (mroOf (.ref C)) l₀) (hl:(l₀.dropWhile (· != .ref D)).drop 1=l) (X:K.In h)
 (hf:alongIn K "__init__" l=some (some (.builtin "ValueError.__init__"))) (hxC:x≠C) (hx:h.get? x=some ox) (hxc:ox.cls=.ref C)
 (hO:h.get? C=some (excClassObj nm q C N bs bm hdct sn sub ab col dd k0 k1 k2 k3 k5 newId)) (hB:bm.contains (.type "ValueError")=true)
 (hq:Q (.done (.ret (.ref h.objs.size))) ⟨h.push {cls:=.type "method-wrapper",data:=.fields #[.builtin "ValueError.__init__",.ref x]},g,d,t,os⟩) :
 wpAny (model prog w) A (Builtin.«super.__getattribute__» ⟨[.ref so,.str "__init__" tk],[]⟩) Q E ⟨h,g,d,t,os⟩:=by
 have hne:(Value.ref x == Value.ref C)=false:=by simp[hxC]
 have hcB:(Value.ref C::bm).contains (.type "ValueError")=true:=by rw[List.contains_cons,hB,Bool.or_true]
 have hdt:({cls:=.type "super",dict:=none,data:=.fields #[.ref D,.ref x,.ref C],slots:=#[]}:Obj).data=.fields #[.ref D,.ref x,.ref C]:=rfl
 have f0:(#[.ref D,.ref x,.ref C]:Array Value)[0]?=some (.ref D):=rfl
 have f1:(#[.ref D,.ref x,.ref C]:Array Value)[1]?=some (.ref x):=rfl
 have f2:(#[.ref D,.ref x,.ref C]:Array Value)[2]?=some (.ref C):=rfl
 have hn:(("__init__" : Str) == ("__class__" : Str))=false:=by decide
 have hlk:=znc
 have hTb:∀s:Shared,s.TypeIs (.builtin "ValueError.__init__") "wrapper_descriptor":=fun s=>ty_b s
 have hty:=zlj
 unfold Builtin.«super.__getattribute__»;repeat (first
  | (with_reducible refine waP hso hdt f0 ?_) | (with_reducible refine waP hso hdt f1 ?_) | (with_reducible refine waP hso hdt f2 ?_)
  | (with_reducible refine ks_wpAny_notOpaque hno ?_)
  | (with_reducible refine Looks.at hC ?_;rw[hl])
  | (refine ks_forIn_along X (fun _ _=>rfl) rfl ?_ hf)
  | (with_reducible refine wcd hty ?_)
  | (with_reducible refine wcd hlk ?_)
  | (with_reducible refine wbQ zi9 (hTb _) zhN ?_ (zja _ _ _))
  | (with_reducible refine wbs hx ?_;rw[hxc])
  | (rw[zon];with_reducible refine wcw hO ?_;rw[hcB])
  | (with_reducible refine⟨_,rfl,?_⟩)
  | (simp only[hn,hne,Bool.or_false,wbC,if_false])
  | wp_step
  | dsimp only)
 all_goals exact hq
theorem zcT {so D x:Addr}{l₀ l:List Value}{K:Frag}{ox:Obj}{pl:Sem Bool}{Q:Value×List Value->Shared->Prop}
 (hso:h.get? so=some {cls:=.type "super",dict:=none,data:=.fields #[.ref D,.ref x,.ref C],slots:=#[]}) (hno:Looks (model prog w) h (opaqueClassAbove (.ref C)) none)
 (hC:Looks (model prog w) h (mroOf (.ref C)) l₀) (hl:(l₀.dropWhile (· != .ref D)).drop 1=l) (X:K.In h)
 (hf:alongIn K "__init__" l=some (some (.builtin "ValueError.__init__"))) (hxC:x≠C) (hx:h.get? x=some ox) (hxc:ox.cls=.ref C)
 (hO:h.get? C=some (excClassObj nm q C N bs bm hdct sn sub ab col dd k0 k1 k2 k3 k5 newId)) (hB:bm.contains (.type "ValueError")=true)
 (hq:Q (.ref h.objs.size,[]) ⟨h.push {cls:=.type "method-wrapper",data:=.fields #[.builtin "ValueError.__init__",.ref x]},g,d,t+1,os⟩) :
 wpAny (model prog w) A (getMethod (.ref so) "__init__" pl) Q E ⟨h,g,d,t,os⟩:=by
 have hlk:=F.ks_slot_super_ga.lookup
 have hcan:=F.ks_canon_super_ga
 have hT:∀t',(⟨h,g,d,t',os⟩:Shared).TypeIs (.ref so) "super":=fun _=>⟨_,hso,rfl⟩
 unfold getMethod;refine waa (wpAny_specialOf (hT _) hlk ?_);show wpAny _ _ (if(Manifest.canonical "super.__getattribute__" != "object.__getattribute__")=true then _ else _) _ _ _
 rw[if_pos hcan];unfold getAttr getAttrBy;refine waa (waa (wpAny_mkText (wbl (waa (wpAny_typeOf (hT _) (waa (wcd hlk ?_)))))));show wpAny _ _ (getAttrByItsOwn (.ref so) (.str "__init__" t) (.type "super") (.builtin "super.__getattribute__") true false) _ _ _
 unfold getAttrByItsOwn hookBefore callGetattribute boundAndCalled;refine waa (wcd (show(if onTheHeap (.type "super") then typeLookup (.type "super") "__getattr__" else pure none)=pure none from rfl) ?_);refine waa (wpAny_attempt (wbl ?_));show wpAny _ _ (bindSpecial (.builtin "super.__getattribute__") (.ref so) >>= _) _ _ _
 refine waa (wcd (F.ks_slot_super_ga.bind _) ?_);refine waz (Q:=fun v s'=>v=.ref h.objs.size/\s'=⟨h.push {cls:=.type "method-wrapper",data:=.fields #[.builtin "ValueError.__init__",.ref x]},g,d,t+1,os⟩) (E:=fun _ _=>False)
  (wbQ F.ks_slot_super_ga (hT _) F.ks_entry_super_ga (zhO hso hno hC hl X hf hxC hx hxc hO hB ⟨_,rfl,rfl,rfl⟩) (F.ks_gaArgs_super _ _)) (fun v s' hv=>?_) fun _ _ z=>z.elim
 obtain⟨rfl,rfl⟩:=hv;exact wag (wag hq)
theorem zjb (F:ExcBaseFacts B newId "ValueError.__init__" bmB)(T:OwnTail h bmB bm){b e:Addr}{t0:Addr}{msg:Value}{dx:Option Addr}{R:Result->Shared->Prop}
 (hb:h.get? b=some {cls:=.type "method-wrapper",dict:=none,data:=.fields #[.builtin "ValueError.__init__",.ref e],slots:=#[]})
 (hC:h.get? C=some (excClassObj nm q C N bs bm hdct sn sub ab col dd k0 k1 k2 k3 k5 newId)) (he:h.get? e=some {cls:=.ref C,dict:=dx,data:=.fields #[.ref t0,.none,.none,.none,.bool false,.none]})
 (hq:∀h' tt,(∀b o,b≠e->h.get? b=some o->h'.get? b=some o)->h.get? tt=none->h'.get? e=some {cls:=.ref C,dict:=dx,data:=.fields #[.ref tt,.none,.none,.none,.bool false,.none]}->R (.ok (.ret .none)) ⟨h',g,d,t,os⟩) :
 codeAny (model prog w) A (.call (.ref b) ⟨[msg],[]⟩) R ⟨h,g,d,t,os⟩:=by
 refine codeAny_of_tree ?_;show wpAny _ A.in1 (callAny (.ref b) _) _ _ _
 unfold callAny;refine waa (wpAny_load hb ?_);dsimp only;rw[if_pos (by decide)];show wpAny _ _ (checkBoundCall "ValueError.__init__" ⟨[.ref e,msg],[]⟩ >>= fun _=>again (.builtin "ValueError.__init__" ⟨[.ref e,msg],[]⟩)) _ _ _
 refine waa ?_;have hshort:=F.noStar
 simp only[checkBoundCall,F.initKind,F.initRow];rw[if_pos (by decide)];unfold Bind.checkArgs;repeat (first | wp_step)
 refine⟨wbX _ (by decide +kernel),wct F.initEntry ?_⟩;rw[wcm F.init.plain _];wp_walk
 have hlt:h.objs.size≠e:=Nat.ne_of_gt (wae he)
 refine hq _ h.objs.size (fun b o hb hh=>?_) (wbK (wam _)) ?_
 ·rw[waE _ _ (Ne.symm hb)];exact wab _ hh
 ·rw[waR _ (wab _ he) rfl];rfl
end
structure XC (K:Frag)(C N:Addr)(bm:List Value):Prop where
 obj:∃nm q bs hdct sn sub ab col dd k0 k1 k2 k3 k5,K.lookup C=some (excClassObj nm q C N bs bm hdct sn sub ab col dd k0 k1 k2 k3 k5 "ValueError.__new__")
 tail:∀h:Heap,K.In h->OwnTail h [.type "ValueError",.type "Exception",.type "BaseException",.type "object"] bm
 opq:nsIn K cStatics "thirdparty.any"=some none
 self:mroIn K C (.ref C)=some true
section
variable {prog:Program}{w:World}{A:Around}{E:Value->Shared->Prop}{h:Heap}{g:Array GenState}{d:Drawn}{t:Nat}{os:OsState}
variable {C N:Addr}{bm:List Value}{K:Frag}{env:Env}{body:List Stmt}{p0 p1 ap cp:Pos}{J:Expr}{f cda cc e t0:Addr}{of ocd:Obj}{fd:FuncData}{ar:Arg}{vs:Array Value}{file:Str}{tf:Tok}{mg mb m:Str->Option Value}{dx:Option Addr}
theorem zhP {b e:Addr}{h:Heap}(hb:h.get? b=some {cls:=.type "method-wrapper",dict:=none,data:=.fields #[.builtin "ValueError.__init__",.ref e],slots:=#[]}){M:Model}:∃k,(k=Keeper.frame\/k=Keeper.machine\/k=Keeper.boundFrame)/\Looks M h (keeperOf (.ref b)) k:=
 ⟨.machine,.inr (.inl rfl),(Looks.ld (part:=none) hb).andThen .now⟩
theorem zgA (X:K.In h)(c:XC K C N bm)(hin:ks_superIn K C C "__init__"=some (some (.builtin "ValueError.__init__")))
 (hk:env.scope.kind=.function) (hks:env.kindOf "super"=some .globalImplicit) (hkc:env.kindOf "__class__"=some .free) (hka:env.kindOf ar.arg=some .local) (hfu:env.func=some f) (hf:h.get? f=some of) (hfd:of.data=.func fd)
 (hp:(fd.params.posonlyargs++fd.params.args).head?=some ar) (hco:env.code=.ref cda) (hcc:h.get? cda=some ocd) (hoc:ocd.data=.fields vs) (hvs:vs[2]?=some (.str file tf)) (hfile:((prog.main.file:Str) == file)=true)
 (htop:(prog.main.scope.names.lookup ("super" : Str)).isSome=false) (hG:h.Ns env.globals mg) (hmg:mg "super"=none) (hB:h.Ns env.builtins mb) (hmb:mb "super"=some (.type "super"))
 (hcl:env.cells.lookup ("__class__" : Str)=some cc) (hcell:h.IsCell cc (some (.ref C))) (hloc:h.Ns env.locals m) (hself:m ar.arg=some (.ref e))
 (he:h.get? e=some {cls:=.ref C,dict:=dx,data:=.fields #[.ref t0,.none,.none,.none,.bool false,.none]}) (heC:e≠C)
 (hJ:∀(h1:Heap) (tk:Nat) (Q:Value->Shared->Prop),(∀b o,h.get? b=some o->h1.get? b=some o)->(∀h2 x t' tk',(∀b o,h1.get? b=some o->h2.get? b=some o)->Q (.str x t') ⟨h2,g,d,tk',os⟩)->wpAny (model prog w) A (eval J env) Q E ⟨h1,g,d,tk,os⟩)
 (hst:starEach [J] env = [(false,eval J env)]) {pl:Sem Bool}(hE:eval (.Call (.Attribute (.Call (.Name "super" p0) [] [] p1) "__init__" ap) [J] [] cp) env=(do
  let ov <-attributeBase (.Call (.Name "super" p0) [] [] p1) "__init__" env (eval (.Call (.Name "super" p0) [] [] p1) env)
  standAt ap.atName
  let (f,first) <-holding [ov] (getMethod ov "__init__" pl)
  callWith cp f first (backTo cp (starEach [J] env)) []))
 {Q:Value->Shared->Prop}
 (hq:∀h' tt tk,(∀b o,b≠e->h.get? b=some o->h'.get? b=some o)->h'.get? e=some {cls:=.ref C,dict:=dx,data:=.fields #[.ref tt,.none,.none,.none,.bool false,.none]}->Q .none ⟨h',g,d,tk,os⟩) :
 PySem.wpAt (model prog w) A (.func body env) (eval (.Call (.Attribute (.Call (.Name "super" p0) [] [] p1) "__init__" ap) [J] [] cp) env) Q E ⟨h,g,d,t,os⟩:=by
 obtain⟨nm,q,bs,hdct,sn,sub,ab,col,dd,k0,k1,k2,k3,k5,ho⟩:=c.obj;have hC:=X _ _ ho
 refine ks_wpAt_MethodCall (pl:=pl) ?_ hE;refine ks_wpAt_super_base hks hkc (by decide) hfu hf hfd hp hco hcc hoc hvs hfile htop ?_;refine ks_loadName_global hk hks (Calls.loadGlobal_builtin hG hmg hB hmb ⟨rfl,?_⟩);refine wpAny_loadName_free hk hkc hcl hcell ?_;refine wbp hk hka hloc hself ?_;refine ks_wpAny_isType_cls hC rfl ⟨rfl,?_⟩;refine ks_wpAny_call_super hC rfl he rfl (fun c z=>by cases z) (looks_mroIn X c.self) fun h1 e1 k1'=>?_
 have hx1:=k1' _ _ he
 have hC1:=k1' _ _ hC
 have X1:K.In h1:=X.keeps k1'
 obtain⟨cd,hcd⟩:∃cd,clsIn K C=some cd:=⟨_,by unfold clsIn;rw[ho]⟩
 unfold ks_superIn at hin;rw[hcd] at hin;refine zcT e1 (looks_opaque X1 c.opq) (l₀:=cd.mro) (fun A Q E s k q=>waa ((looks_clsIn X1 hcd) A _ E s k (wag q))) rfl X1 hin heC hx1 rfl hC1 ((c.tail h1 X1).hasType (by decide)) ?_;have up2:∀b o,h1.get? b=some o->(h1.push {cls:=.type "method-wrapper",data:=.fields #[.builtin "ValueError.__init__",.ref e]}).get? b=some o:=fun b o z=>wab _ z
 rw[hst];refine callWith_of (P:=fun h2=>h2.get? h1.objs.size=some {cls:=.type "method-wrapper",dict:=none,data:=.fields #[.builtin "ValueError.__init__",.ref e],slots:=#[]}) rfl (fun h2 z=>zhP z) ?_;refine Calls.evalArgs_plain ?_;refine wbA (hJ _ _ _ (fun b o z=>up2 b o (k1' b o z)) fun h2 x t' tk' k9=>Calls.spliced_nil ⟨k9 _ _ (wce rfl rfl),?_⟩);refine wcn (zjb PySem.F.excBase_ValueError (c.tail _ ((X1.keeps up2).keeps k9)) (k9 _ _ (wce rfl rfl)) (k9 _ _ (up2 _ _ hC1)) (k9 _ _ (up2 _ _ hx1)) fun h' tt k2 _ he'=>?_);exact hq h' tt _ (fun b o hb z=>k2 b o hb (k9 b o (up2 b o (k1' b o z)))) he'
end
open Builtin.ObjectAttr
def zbL:List Value->Bool
 | .ref _::r=>zbL r
 | l=>l == [.type "ValueError",.type "Exception",.type "BaseException",.type "object"]
theorem zke {P:List Value->Prop}(h0:P [.type "ValueError",.type "Exception",.type "BaseException",.type "object"])(h1:∀c r,P r->P (.ref c::r)):∀{l:List Value},zbL l=true->P l:=by
 intro l;induction l with
 | nil=>intro e;cases e
 | cons v r ih=>
   intro e;by_cases hv:∃c,v=.ref c
   ·obtain⟨c,rfl⟩:=hv;exact h1 c r (ih e)
   ·have:v::r = [.type "ValueError",.type "Exception",.type "BaseException",.type "object"]:=by
     cases v <;> first | exact beq_iff_eq.mp e | exact absurd ⟨_,rfl⟩ hv
    rw[this];exact h0
theorem zhQ (self:Value){l:List Value}:zbL l=true->refuseLoop self "__setattr__" l=pure ():=
 zke (P:=fun l=>refuseLoop self "__setattr__" l=pure ()) (PySem.F.store_ValueError.passes self) fun c r e=>(refuseLoop_ref _ _ _ _).trans e
theorem znd {l:List Value}:zbL l=true->l.contains (.type "object")=true:=
 zke (P:=fun l=>l.contains (.type "object")=true) (by decide) fun c r e=>by rw[List.contains_cons,e,Bool.or_true]
section
variable {prog:Program}{w:World}{A:Around}{E:Value->Shared->Prop}{h:Heap}{g:Array GenState}{d:Drawn}{t:Nat}{os:OsState}
variable {C N x:Addr}{K:Frag}{o:Obj}{name:Str}{v:Value}{Q:Unit->Shared->Prop}{R:Result->Shared->Prop}{s:Shared}
theorem zlk {ox:Obj}{od:Option Obj}{tk:Tok}{r:Option Value}(X:K.In s.heap)(I:InstAt s.heap x ox C od)(hp:(clsIn K C).any (fun cd=>zbL cd.mro)=true)(ht:takerIn K C name=some r)
 (h:∀b,wpAny (model prog w) A.in1 (match r with | some a=>setByDescriptor a (.ref x) v | none=>storeInOwnDict (.ref x) (.ref C) (.str name tk) name v b)
  (fun fin s'=>match fin with | .done f=>R (.ok f) s' | .again c'=>c'.quiet=true/\codeAny (model prog w) A c' R s') (fun e s'=>R (.error e) s') s) :
 codeAny (model prog w) A (.call (.builtin "object.__setattr__") ⟨[.ref x,.str name tk,v],[]⟩) R s:=by
 have SF:=PySem.F.store_object
 obtain⟨cd,hc,ho⟩:=any_some hp;have ne:cd.mro.isEmpty=false:=by cases q:cd.mro with | nil=>rw[q] at ho;cases ho | cons _ _=>rfl
 have sub:Looks (model prog w) s.heap (isInstance (.ref x) (.type "object")) true:=I.type.andThen (looks_mroIn X (by unfold mroIn;rw[hc,zOB,if_neg (by rw[ne];decide),znd ho]))
 refine wbM SF.slot.plain SF.entry (@check_slot (model prog w) _ _ s "object.__setattr__" "object" "__setattr__" (.ref x) [.str name tk,v] [] _ SF.kind SF.split sub (SF.args (.ref x) (.str name tk) v) ?_);obtain⟨attr,ha,hr⟩:=Option.bind_eq_some_iff.mp ht;have hm:Looks (model prog w) s.heap (mroOf (.ref C)) cd.mro:=(looks_clsIn X hc).andThen .now
 have L3:Looks (model prog w) s.heap (storeTaker? attr) r:=by
  cases attr with
  | none=>cases hr;exact .now
  | some a=>
    obtain⟨b,hb,rfl⟩:=wcb.mp hr;refine(looks_takesIn X hb).andThen ?_;cases b <;> exact .now
 rw[osa_eq,refuse_eq];refine waa (waa (I.type.here (waa (hm.here ?_))));rw[zhQ _ ho];refine wag (waa (I.type.here (waa ((looks_findIn X ha).here (waa (L3.here ?_))))));exact h _
theorem zll (X:K.In h)(hx:h.get? x=some o)(hc:o.cls=.ref C)(hno:notCls o=true)(hd:o.dict=none)
 (hs:findIn K (.ref C) "__setattr__"=some (some (.builtin "object.__setattr__"))) (hp:(clsIn K C).any (fun cd=>zbL cd.mro)=true) (ht:takerIn K C name=some none) (hh:(clsIn K C).any (·.hasDict)=true)
 (hq:∀h' dx tk',h.objs.size<=dx->dx≠x->h'.get? x=some {o with dict:=some dx}->h'.Ns1 dx (fun y=>if y=name then some v else none)->(∀b ob,b≠x->h.get? b=some ob->h'.get? b=some ob)->Q () ⟨h',g,d,tk',os⟩) :
 wpAny (model prog w) A (setAttr (.ref x) name v) Q E ⟨h,g,d,t,os⟩:=by
 have J:InstAt h x o C none:=⟨hx,hc,hno,by rw[hd];trivial⟩
 refine set_plain X J hs (zlk (s:=⟨h,g,d,t+1,os⟩) (r:=none) X J hp ht fun b=>?_);obtain⟨cd,hcd,hd'⟩:=any_some hh;have hx₁:(h.push {cls:=.type "dict",data:=.dict #[]}).get? x=some o:=wab _ hx
 have hxs:x≠h.objs.size:=wax (wae hx)
 refine waa (wag (waa (waa (wpAny_loadPart hx ?_))));rw[hc];refine waa ((looks_clsIn X hcd).here ?_);rw[hd'];dsimp only[Bool.not_true];rw[hd];dsimp only;rw[if_neg (by simp[typeHasDict])];split
 ·rename_i q
  cases q
 split
 ·rename_i c hcd'
  unfold notCls at hno;rw[hcd'] at hno;cases hno
 refine waa (wpAny_alloc' ?_);refine waa (wpAny_update' hx₁ ?_);have hgd:((h.push {cls:=.type "dict",data:=.dict #[]}).update x fun o=>{cls:=o.cls,dict:=some h.objs.size,data:=o.data,slots:=o.slots}).get? h.objs.size
  = some {cls:=.type "dict",data:=.dict #[]}:=
  (Heap.get?_update_ne _ _ _ _ hxs.symm).trans (wce rfl rfl)
 have hnd:((h.push {cls:=.type "dict",data:=.dict #[]}).update x fun o=>{cls:=o.cls,dict:=some h.objs.size,data:=o.data,slots:=o.slots}).Ns h.objs.size (fun _=>none):=
  ⟨_,#[],_,hgd,rfl,fun e he=>absurd he (by simp),fun _=>rfl⟩
 refine wag ?_;show wpAny _ _ (storeInDict h.objs.size (.str name _) name v) _ _ _
 unfold storeInDict newKeyGuard;refine waa (wag (waa (wpAny_nsSet1 (Heap.Ns1.of_empty hnd) fun h' hn' hs=>?_)));obtain⟨oD,esD,epD,hoD,hdD,hcD⟩:=hn'.count (Within.cons name v Within.nil);refine waa (wpAny_lookBehind hoD (by rw[hdD];exact pastItsLine_dict (wan hcD (by rw[waV,List.length_nil,sizeLine_eq];omega))) ?_);refine wag (hq h' h.objs.size _ (wam _) hxs.symm ?_ hn' fun b ob hbx hb=>?_)
 ·refine(hs.2 x hxs).trans (waR _ hx₁ ?_);have hfr:=(Heap.get?_some_iff.mp hx).2
  obtain⟨oc,od,odt,osl⟩:=o;cases odt <;> first | rfl | exact hfr
 ·exact(hs.2 b (wax (wae hb))).trans ((Heap.get?_update_ne _ _ _ _ hbx).trans (wab _ hb))
end
structure XI (prog:Program)(w:World)(K:Frag)(C N fI:Addr)(bm:List Value)(slf x nm:Str)(J:Expr)(fd:FuncData):Prop where
 cls:XC K C N bm
 inC:ks_superIn K C C "__init__"=some (some (.builtin "ValueError.__init__"))
 set:findIn K (.ref C) "__setattr__"=some (some (.builtin "object.__setattr__"))
 und:(clsIn K C).any (fun cd=>zbL cd.mro)=true
 tak:takerIn K C nm=some none
 hasD:(clsIn K C).any (·.hasDict)=true
 fn:∃o,K.lookup fI=some o/\o.cls=.type "function"/\o.data=.func fd
 names:∃mN,(∀h:Heap,K.In h->h.Ns N mN)/\mN "__init__"=some (.ref fI)
 code:∀h:Heap,K.In h->h.CodeRec fd.code fd.qualname
 body:∃p0 p1 ap cp q1 q2 q3 q4 q5,fd.body=.stmts [.Expr (.Call (.Attribute (.Call (.Name "super" p0) [] [] p1) "__init__" ap) [J] [] cp) q1,.Assign [.Attribute (.Name slf q2) nm q3] (.Name x q4) q5]/\
  (∀L,interactive (callEnv fd L fI)=false)/\(∀L,swapsWith (.Call (.Attribute (.Call (.Name "super" p0) [] [] p1) "__init__" ap) [J] [] cp) none q1.line (callEnv fd L fI)=pure false)/\
  (∀L,swapsWith (.Name x q4) (some (.Attribute (.Name slf q2) nm q3)) q5.line (callEnv fd L fI)=pure false)/\
  (∀L,starEach [J] (callEnv fd L fI) = [(false,eval J (callEnv fd L fI))])/\
  ∃pl:Addr->Sem Bool,∀L,eval (.Call (.Attribute (.Call (.Name "super" p0) [] [] p1) "__init__" ap) [J] [] cp) (callEnv fd L fI)=(do
   let ov <-attributeBase (.Call (.Name "super" p0) [] [] p1) "__init__" (callEnv fd L fI) (eval (.Call (.Name "super" p0) [] [] p1) (callEnv fd L fI))
   standAt ap.atName
   let (f,first) <-holding [ov] (getMethod ov "__init__" (pl L))
   callWith cp f first (backTo cp (starEach [J] (callEnv fd L fI))) [])
 ne:slf≠x
 dbg:(x == ("__debug__" : Str))=false/\(slf == ("__debug__" : Str))=false
 par:∃ar:Arg,(fd.params.posonlyargs++fd.params.args).head?=some ar/\ar.arg=slf
 bind:∀(s:Shared) (a b:Value),BindsTo s fd ⟨[a,b],[]⟩ [(slf,a),(x,b)]
 cell:∀z∈fd.scope.names,z.2≠.cell
 loc1:fd.scope.names.lookup slf=some .local
 loc2:fd.scope.names.lookup x=some .local
 flags:fd.scope.isCoroutine=false/\fd.scope.isGenerator=false/\fd.scope.kind=.function
 kinds:∀L,(callEnv fd L fI).kindOf "super"=some .globalImplicit/\(callEnv fd L fI).kindOf "__class__"=some .free/\(callEnv fd L fI).kindOf slf=some .local/\(callEnv fd L fI).kindOf x=some .local
 file:∃cda ocd vs fl tf,fd.code=.ref cda/\K.lookup cda=some ocd/\ocd.data=.fields vs/\vs[2]?=some (.str fl tf)/\((prog.main.file:Str) == fl)=true
 top:(prog.main.scope.names.lookup ("super" : Str)).isSome=false
 glob:∀L,(callEnv fd L fI).globals=mainGlobals
 blt:∀L,(callEnv fd L fI).builtins=builtinsNs
 cc:∃cc,(∀L,(callEnv fd L fI).cells.lookup ("__class__" : Str)=some cc)/\∀h:Heap,K.In h->h.IsCell cc (some (.ref C))
structure Gx (h:Heap):Prop where
 lim:h.NoLimit
 g:∃mg,h.Ns mainGlobals mg/\mg "super"=none
 b:∃mb,h.Ns builtinsNs mb/\mb "super"=some (.type "super")
theorem Gx.keeps {h h':Heap}(G:Gx h)(k:∀b o,h.get? b=some o->h'.get? b=some o):Gx h':=
 ⟨G.lim.keeps k,let ⟨m,a,b⟩:=G.g;⟨m,a.keeps k,b⟩,let ⟨m,a,b⟩:=G.b;⟨m,a.keeps k,b⟩⟩
section
variable {prog:Program}{w:World}{A:Around}{E:Value->Shared->Prop}{h:Heap}{g:Array GenState}{d:Drawn}{t:Nat}{os:OsState}
variable {C N fI:Addr}{bm:List Value}{slf x nm:Str}{J:Expr}{fd:FuncData}{K:Frag}
def Says (prog:Program)(w:World)(K:Frag)(fd:FuncData)(fI:Addr)(x:Str)(J:Expr)(v:Value)(h0:Heap):Prop:=
 ∀(A:Around) (E:Value->Shared->Prop) (h1:Heap) (g:Array GenState) (d:Drawn) (os:OsState) (tk:Nat) (L:Addr) (m:Str->Option Value) (Q:Value->Shared->Prop),A.guards=some []->A.units+20<cLine->K.In h1->(∀b o,h0.get? b=some o->h1.get? b=some o)->h1.Ns L m->m x=some v->
  (∀h2 y t' tk',(∀b o,h1.get? b=some o->h2.get? b=some o)->Q (.str y t') ⟨h2,g,d,tk',os⟩)->wpAny (model prog w) A (eval J (callEnv fd L fI)) Q E ⟨h1,g,d,tk,os⟩
theorem Says.later {h':Heap}{v:Value}(a:Says prog w K fd fI x J v h)(k:∀b o,h.get? b=some o->h'.get? b=some o):Says prog w K fd fI x J v h':=
 fun A E h1 g d os tk L m Q hg hu z k1=>a A E h1 g d os tk L m Q hg hu z fun b o e=>k1 b o (k b o e)
theorem zhR (hgd:A.guards=some [])(hun:A.units+20<cLine)(X:K.In h)(G:Gx h)(c:XI prog w K C N fI bm slf x nm J fd){v:Value}(hJ:Says prog w K fd fI x J v h){L e t0:Addr}{m:Str->Option Value}(hloc:h.Ns L m)(m1:m slf=some (.ref e))(m2:m x=some v)
 (he:h.get? e=some {cls:=.ref C,dict:=none,data:=.fields #[.ref t0,.none,.none,.none,.bool false,.none]}) (heL:e≠L) (heK:K.lookup e=none) {body:List Stmt}(hb:fd.body=.stmts body)
 {Q:Flow->Shared->Prop}
 (hq:∀h' dx tt tk,h'.get? e=some {cls:=.ref C,dict:=some dx,data:=.fields #[.ref tt,.none,.none,.none,.bool false,.none]}->L<dx->h'.Ns1 dx (fun y=>if y=nm then some v else none)->
  (∀b o,b≠e->h.get? b=some o->h'.get? b=some o)->Q .next ⟨h',g,d,tk,os⟩) :
 PySem.wpAt (model prog w) A (.func body (callEnv fd L fI)) (execs body (callEnv fd L fI)) Q E ⟨h,g,d,t,os⟩:=by
 obtain⟨p0,p1,ap,cp,q1,q2,q3,q4,q5,hbd,hint,hs1,hs2,hst,pl,hE⟩:=c.body;rw[hbd] at hb;cases hb;obtain⟨of,hf,hfc,hfd⟩:=c.fn;obtain⟨ar,hp,rfl⟩:=c.par;obtain⟨cda,ocd,vs,fl,tf,hco,hcc,hoc,hvs,hfile⟩:=c.file;obtain⟨mg,hG,hmg⟩:=G.g;obtain⟨mb,hB,hmb⟩:=G.b;obtain⟨cc,hcl,hcell⟩:=c.cc;obtain⟨k1,k2,k3,k4⟩:=c.kinds L;have hk:(callEnv fd L fI).scope.kind=.function:=c.flags.2.2
 have heC:e≠C:=by
  rintro rfl;obtain⟨nm,q,bs,hdct,sn,sub,ab,col,dd,k0,k1,k2,k3,k5,ho⟩:=c.cls.obj;rw[heK] at ho;cases ho
 refine ks_wpAt_execs_cons (ks_wpAt_Expr_any ?_ (hint L) (hs1 L));refine zgA X c.cls c.inC hk k1 k2 k3 rfl (X _ _ hf) hfd hp hco (X _ _ hcc) hoc hvs hfile c.top (by rw[c.glob L];exact hG) hmg (by rw[c.blt L];exact hB) hmb (hcl L) (hcell _ X) hloc m1 he heC ?_ (hst L) (hE L) ?_
 ·intro h1 tk Q1 hk1 hq1;exact hJ A E h1 g d os tk L m Q1 hgd hun (X.keeps hk1) hk1 (hloc.keeps hk1) m2 hq1
 intro h' tt tk hk' he';have X':K.In h':=fun b o ho=>hk' b o (fun z=>by rw[z,heK] at ho;cases ho) (X b o ho)
 have hloc':h'.Ns L m:=by obtain⟨o,es,ep,a1,a2⟩:=hloc;exact⟨o,es,ep,hk' _ _ heL.symm a1,a2⟩
 dsimp only;refine ks_wpAt_execs_cons (ks_wpAt_Assign_Attr ?_ (hs2 L));refine wpAt_of_wpAny (wcy (wbp hk k4 hloc' m2 ?_) c.dbg.1);refine wcy (wbp hk k3 hloc' m1 ?_) c.dbg.2;refine zll X' he' rfl rfl rfl c.set c.und c.tak c.hasD fun h2 dx tk2 hdx hne he2 hns2 hk2=>?_
 dsimp only;refine wpAt_of_wpAny (wag (hq h2 dx tt tk2 he2 ?_ hns2 fun b o hb z=>hk2 b o hb (hk' b o hb z)));obtain⟨o,es,ep,a1,a2⟩:=hloc';exact wah (wae a1) hdx
theorem zjc (hgd:A.guards=some [])(hun:A.units+40<cLine)(X:K.In h)(G:Gx h)(c:XI prog w K C N fI bm slf x nm J fd){v:Value}(hJ:Says prog w K fd fI x J v h)(hroom:A.depth+1<recursionLimit)
 {Q:Value->Shared->Prop}
 (hq:∀h' e dx tt tk,h.objs.size<=e->h'.get? e=some {cls:=.ref C,dict:=some dx,data:=.fields #[.ref tt,.none,.none,.none,.bool false,.none]}->h.objs.size<=dx->h'.Ns1 dx (fun y=>if y=nm then some v else none)->
  (∀b o,h.get? b=some o->h'.get? b=some o)->Q (.ref e) ⟨h',g,d,tk,os⟩) :
 wpAny (model prog w) A (call (.ref C) [v]) Q E ⟨h,g,d,t,os⟩:=by
 obtain⟨of,hf,hfc,hfd⟩:=c.fn;obtain⟨mN,hN,hmN⟩:=c.names;obtain⟨nm',q,bs,hdct,sn,sub,ab,col,dd,k0,k1,k2,k3,k5,ho⟩:=c.cls.obj;refine zhM PySem.F.excBase_ValueError (c.cls.tail h X) (X _ _ ho) (hN h X) hmN (X _ _ hf) hfc fun h1 e M hse=>?_
 obtain⟨up,hne,t0,he,ht0,htt⟩:=M;have X1:K.In h1:=X.keeps up
 obtain⟨p0,p1,ap,cp,q1,q2,q3,q4,q5,hbd,-⟩:=c.body;refine wcn (ks_codeAny_call_defAt ?_ (X1 _ _ hf) hfd (G.keeps up).lim (c.code _ X1) hbd (c.bind _ _ _) c.cell ?_ ?_ c.flags.1 c.flags.2.1 c.flags.2.2)
 ·first | exact Nat.lt_of_succ_lt hroom | exact hroom
 ·intro z hz;simp only[wai,wbk,or_false] at hz;rcases hz with rfl | rfl
  ·exact c.loc1
  ·exact c.loc2
 intro h2 hns hk2;have X2:K.In h2:=X1.keeps hk2
 have heK:K.lookup e=none:=by
  cases hz:K.lookup e with
  | none=>rfl
  | some o=>rw[X _ _ hz] at hne;cases hne
 refine zhR (by first | exact hgd | (show(A.under _).guards=_;first | exact hgd | simp[hgd])) (by show(A.under _).units+3+20<cLine;rw[L2.make_units];omega) X2 ((G.keeps up).keeps hk2) c (hJ.later fun b o z=>hk2 b o (up b o z)) hns ?_ ?_ (hk2 _ _ he) (wax (wae he)) heK hbd ?_
 ·have:(slf == x)=false:=by simpa using c.ne
  simp[List.lookup,this]
 ·simp[List.lookup]
 intro h' dx tt tk he' hdx hns' hk';refine⟨rfl,hq h' e dx tt tk hse he' ?_ hns' fun b o z=>?_⟩
 ·exact wbg (waM (wan hse (wbg (wae he))) hdx)
 ·refine hk' b o (fun z'=>?_) (hk2 _ _ (up _ _ z));rw[z',hne] at z;cases z
end
end EX
namespace EX
open PySem PySem.Spec PyProof.Rows L2
def XAt (h0:Heap)(H:Hp)(h:Heap)(e:Addr)(cls:Value)(dx:Option Addr):Prop:=
 h0.objs.size<=e/\H e=none/\(∀d,dx=some d->h0.objs.size<=d)/\∃vs sl,h.get? e=some ⟨cls,dx,.fields vs,sl⟩ /\(vs[1]?=some .none\/∃T oT ts,vs[1]?=some (.ref T)/\T≠e/\h0.objs.size<=T/\H T=none/\h.get? T=some oT/\oT.data=.fields ts/\ts[3]?=some .none)
structure LeftX (h0:Heap)(H:Hp)(l:List Env)(base h h':Heap)(e:Addr)(cls:Value)(dx:Option Addr):Prop where
 funs:h'.FunFrames base l
 size:h.objs.size<=h'.objs.size
 keep:∀b o,h.get? b=some o->(b<h0.objs.size\/H b≠none)->b∉frs l->h'.get? b=some o
 slot:∀b o,h.get? b=some o->(b<h0.objs.size\/H b≠none)->∃sl,h'.get? b=some {o with slots:=sl}
 at_:XAt h0 H h' e cls dx
section
variable {M:Model}{A:Around}{E:Value->Shared->Prop}{s:Shared}{h0 base:Heap}{H:Hp}{env:Env}{outer:List Env}{L e:Addr}{cls:Value}{dx:Option Addr}{vs:Array Value}{sl:Array (Option Value)}
theorem zeS {head:Value}{hadNext:Bool}{Q:Unit->Shared->Prop}(hfr:A.frames=some (env::outer))(hl:s.heap.FunFrames base (env::outer))(hf:env.frame=some L)
 (e0:h0.objs.size<=e) (eH:H e=none) (eD:∀d,dx=some d->h0.objs.size<=d) (he:s.heap.get? e=some ⟨cls,dx,.fields vs,sl⟩) (hsz:1<vs.size) (hz:h0.objs.size<=s.heap.objs.size) (hH:∀b,s.heap.objs.size<=b->H b=none)
 (h:∀h',LeftX h0 H (env::outer) base s.heap h' e cls dx->Q () {s with heap:=h'}) :
 wpAny M A (do let a <-frameOf env;let pl <-entryPlaceOf L hadNext;let b <-EntryCells.newEntry head a .none (rawInt L) .none pl;setField (.ref e) 1 b) (fun _ s'=>wpAny M A (setFlight (.ref e) none) Q E s') E s:=by
 have hene:e∉(env::outer).filterMap (·.frame):=fun hm=>by
  obtain⟨_,o,ho,hnf⟩:=hl.mem hm;rw[he] at ho;injection ho with ho;subst ho;exact hnf vs rfl
 refine waa (wpAny_frameOf_fun hfr hl hf fun h₁ hs₁=>?_);refine waa (wpAny_entryPlaceOf fun pl hpl=>?_);unfold EntryCells.newEntry newFields;refine waa (waY ?_ (hpl.sizeOk5 _ _ _ _ _));have he₁:h₁.get? e=some ⟨cls,dx,.fields vs,sl⟩:=(hs₁.2.1 e hene).trans he
 have he₂:=wab (h:=h₁) {cls:=.type "traceback",dict:=none,data:=.fields ([head,.ref L,.none,rawInt L,.none]++(if pl.isEmpty then List.replicate 6 Value.none else pl)).toArray} he₁
 refine wbO he₂ rfl hsz ?_;have hTe:h₁.objs.size≠e:=Nat.ne_of_gt (wae he₁)
 have hd₃:=wbe (o:=⟨cls,dx,.fields vs,sl⟩) rfl (·.setIfInBounds 1 (Value.ref h₁.objs.size))
 have he₃:=waR (Obj.mapFields (·.setIfInBounds 1 (Value.ref h₁.objs.size))) he₂ (wbF hd₃)
 have hT₃:=(waE (h₁.push {cls:=.type "traceback",dict:=none,data:=.fields ([head,.ref L,.none,rawInt L,.none]++(if pl.isEmpty then List.replicate 6 Value.none else pl)).toArray})
  (Obj.mapFields (·.setIfInBounds 1 (Value.ref h₁.objs.size))) (Ne.symm hTe)).trans (war h₁ rfl)
 unfold setFlight;refine waa (waP he₃ hd₃ (x:=.ref h₁.objs.size) (by simp[hsz]) ?_);rw[if_pos (show(Value.ref h₁.objs.size != Value.none)=true from by simp)];refine wbO hT₃ rfl (by simp only[wac,wat,waV,List.length_nil] <;> omega) (h _ ?_);have keep:∀b o,b≠e->h₁.get? b=some o->
  (((h₁.push {cls:=.type "traceback",dict:=none,data:=.fields ([head,.ref L,.none,rawInt L,.none]++(if pl.isEmpty then List.replicate 6 Value.none else pl)).toArray}).update e (Obj.mapFields (·.setIfInBounds 1 (Value.ref h₁.objs.size)))).update h₁.objs.size
    (Obj.mapFields (·.setIfInBounds 3 ((none:Option Addr).elim Value.none fun f=>rawInt f)))).get? b=some o:=fun b o hbe hb=>by
  have hbT:h₁.objs.size≠b:=Nat.ne_of_gt (wae hb)
  rw[waE _ _ hbT,waE _ _ (Ne.symm hbe)];exact wab _ hb
 have noRecord:∀b o,s.heap.get? b=some o->(∀vs,o.data≠.fields vs)->b≠e:=fun b o hb hnf q=>by
  rw[q,he] at hb;injection hb with hb;subst hb;exact hnf vs rfl
 have ne:∀b,(b<h0.objs.size\/H b≠none)->b≠e:=fun b z q=>by rw[q] at z;exact z.elim (fun z=>absurd z (Nat.not_lt.mpr e0)) fun z=>z eH
 have hn0:h0.objs.size<=h₁.objs.size:=by rw[hs₁.1];exact hz
 refine⟨hl.of_keeps fun b o hb hnf=>?_,?_,fun b o hb z hbf=>keep b o (ne b z) ((hs₁.2.1 b hbf).trans hb),fun b o hb z=>?_,e0,eH,eD,?_⟩
 ·obtain⟨sl,hs⟩:=hs₁.2.2 b o hb;exact⟨_,keep b _ (noRecord b o hb hnf) hs,rfl⟩
 ·rw[wbi,wbi,wbN,hs₁.1];exact wcs _
 ·obtain⟨sl,hs⟩:=hs₁.2.2 b o hb;exact⟨sl,keep b _ (ne b z) hs⟩
 ·refine⟨vs.setIfInBounds 1 (.ref h₁.objs.size),sl,?_,.inr ⟨h₁.objs.size,_,_,by simp[hsz],hTe,hn0,hH _ (by rw[hs₁.1];exact wam _),waR _ hT₃ (wbF (wbe rfl _)),wbe rfl _,by first | (simp;done) | (rcases hpl with rfl | ⟨_,_,_,_,_,_,_,rfl⟩ <;> simp)⟩⟩;rw[waE _ _ hTe];exact he₃
theorem zne {Q:Unit->Shared->Prop}(hfr:A.frames=some (env::outer))(hl:s.heap.FunFrames base (env::outer))(hf:env.frame=some L)(X:XAt h0 H s.heap e cls dx)
 (hz:h0.objs.size<=s.heap.objs.size) (hH:∀b,s.heap.objs.size<=b->H b=none)
 (h:∀h',LeftX h0 H (env::outer) base s.heap h' e cls dx->Q () {s with heap:=h'}):wpAny M A (noteFrame (.ref e) env) (fun _ s'=>wpAny M A (setFlight (.ref e) none) Q E s') E s:=by
 obtain⟨e0,eH,eD,vs,sl,he,h1 | ⟨T,oT,ts,h1,hTe,hnT,HT,hT,hdT,h3⟩⟩:=X
 ·unfold noteFrame;simp only[hf];refine waa (waP he rfl h1 ?_);rw[if_neg (by decide)];exact zeS hfr hl hf e0 eH eD he (waW.mp h1).1 hz hH h
 ·unfold noteFrame;simp only[hf];refine waa (waP he rfl h1 ?_);rw[if_pos (show(Value.ref T != Value.none)=true from by simp)];refine waa (waP hT hdT h3 ?_);rw[if_neg (show ¬((Value.none == rawInt L)=true) from by simp[rawInt])];refine waa (wbO hT hdT (waW.mp h3).1 ?_);have other:∀b,b≠T->(s.heap.update T (Obj.mapFields (·.setIfInBounds 3 Value.none))).get? b=s.heap.get? b:=fun b hb=>waE _ _ (Ne.symm hb)
  have noRecord:∀b o,s.heap.get? b=some o->(∀vs,o.data≠.fields vs)->b≠T:=fun b o hb hnf q=>by
   rw[q,hT] at hb;injection hb with hb;subst hb;exact hnf ts hdT
  have ne:∀b,(b<h0.objs.size\/H b≠none)->b≠T:=fun b z q=>by rw[q] at z;exact z.elim (fun z=>absurd z (Nat.not_lt.mpr hnT)) fun z=>z HT
  refine zeS hfr (hl.of_keeps fun b o hb hnf=>⟨o,(other b (noRecord b o hb hnf)).trans hb,rfl⟩) hf e0 eH eD ((other e (Ne.symm hTe)).trans he) (waW.mp h1).1
   (by show _<=(s.heap.update T _).objs.size;rw[wbi];exact hz) (fun b hb=>hH b (by rw[<-wbi s.heap T];exact hb))
   fun h' ⟨x1,x2,x3,x4,x5⟩ =>h h' ⟨x1,by rw[<-wbi s.heap T];exact x2,fun b o hb z hbf=>x3 b o ((other b (ne b z)).trans hb) z hbf,fun b o hb z=>x4 b o ((other b (ne b z)).trans hb) z,x5⟩
theorem znf {Q:Unit->Shared->Prop}(hfr:A.frames=some (env::outer))(hl:s.heap.FunFrames base (env::outer))(hf:env.frame=some L)(X:XAt h0 H s.heap e cls dx)
 (hz:h0.objs.size<=s.heap.objs.size) (hH:∀b,s.heap.objs.size<=b->H b=none)
 (h:∀h',LeftX h0 H (env::outer) base s.heap h' e cls dx->Q () {s with heap:=h'}):wpAny M A (leaving env (.ref e)) Q E s:=waa (zne hfr hl hf X hz hH h)
end
def CXE (P:Program)(w:World):CXT:=fun outer H s E e s'=>∃a cls dx H',e=.ref a/\XAt s.heap H' s'.heap a cls dx/\s'.os=s.os/\AllBare s'.gens/\Un (frs outer) [] H H' s.heap s'.heap/\HOk P w H' s'.heap/\E cls dx H'
def Leaves (X:Cx)(E:XK):Prop:=∀(pins:List (Addr×Obj)) (σ:L2.St) (H:Hp) (s:Shared) (a:Addr) (cls:Value) (dx:Option Addr),Inv X pins σ H s->XAt X.s₀.heap H s.heap a cls dx->E cls dx H->X.xe (.ref a) s
theorem XAt.older {h0 h1:Heap}{H:Hp}{h:Heap}{e:Addr}{cls:Value}{dx:Option Addr}(x:XAt h1 H h e cls dx)(hz:h0.objs.size<=h1.objs.size):XAt h0 H h e cls dx:=by
 obtain⟨e0,eH,eD,vs,sl,he,h1 | ⟨T,oT,ts,h1,hTe,hnT,HT,hT,hdT,h3⟩⟩:=x
 ·exact⟨wan hz e0,eH,fun d z=>wan hz (eD d z),vs,sl,he,.inl h1⟩
 ·exact⟨wan hz e0,eH,fun d z=>wan hz (eD d z),vs,sl,he,.inr ⟨T,oT,ts,h1,hTe,wan hz hnT,HT,hT,hdT,h3⟩⟩
theorem zhS {X:Cx}{pins:List (Addr×Obj)}{σ:L2.St}{H:Hp}{s s':Shared}{E:XK}{e:Value}(I:Inv X pins σ H s)(h:CXE X.prog X.w X.stack H s E e s') :
 ∃a cls dx H',e=.ref a/\Inv X pins σ H' s'/\XAt s.heap H' s'.heap a cls dx/\E cls dx H':=by
 obtain⟨a,cls,dx,H',rfl,x,os,bare,un,hok,q⟩:=h;exact⟨a,cls,dx,H',rfl,I.call' (ch:=[]) os un hok bare (fun b z=>absurd z (by simp)),x,q⟩
theorem Leaves.passes {X:Cx}{E:XK}(h:Leaves X E):zfK (CXE X.prog X.w) X E:=by
 intro pins σ H s e s' I hc;obtain⟨a,cls,dx,H',rfl,J,x,q⟩:=zhS I hc;exact h pins σ H' s' a cls dx J (x.older I.sz) q
theorem zhT {P:Program}{w:World}{K:W.Frag}{mg:Str->Option Value}{base:Heap}{N:List Str}{qual:Str}{scope:Scope}{f:Addr}{cd:Value}{A:Around}{outer:List Env}{s:Shared}{H:Hp}{E:XK} :
 Leaves (cxOf (CXE P w) P w K mg base N qual scope f cd A outer s H E) E:=by
 intro pins σ H1 s1 a cls dx I x q;have nl:∀b,b<s.heap.objs.size->b∉frs outer->b∉frs (envOfC qual scope s.heap.objs.size f cd::outer):=fun b hb hn hm=>by
  rcases wai.mp (I.stkSub b hm) with z | z
  ·exact absurd hb (Nat.not_lt.mpr (by rw[z];exact I.ok.above))
  ·exact hn z
 refine znf (M:=model P w) (h0:=s.heap) (H:=H1) I.ok.frames I.stack rfl x I.sz (fun b hb=>I.hok.fresh hb) fun h' L=>?_
 refine⟨a,cls,dx,H1,rfl,L.at_,I.os,I.bare,⟨fun b o e n hf hx=>?_,fun b o e n hf hx=>?_,I.base.free,fun b o e hx=>?_,I.base.tups,I.base.frzs,I.base.tbls⟩,fun b u e=>?_,q⟩
 ·exact L.keep b o (I.base.keep b o e n hf hx) (.inl (wae e)) (nl b (wae e) hf)
 ·obtain⟨sl,z⟩:=I.base.slot b o e n hf hx;obtain⟨sl',z'⟩:=L.slot b _ z (.inl (wae e));exact⟨sl',z'⟩
 ·obtain⟨o',z⟩:=I.base.there b o e hx;obtain⟨sl',z'⟩:=L.slot b _ z (.inl (wae e));exact⟨_,z'⟩
 ·refine(I.hok b u e).stay (fun c v hc q=>L.keep c v q ?_ ?_) (fun _ q=>q) fun _ _ _ q=>q
  ·rcases hc with z | z
   ·rw[z,e];exact .inr (by simp)
   ·rw[z];exact .inr (by simp)
  ·intro hm;have:=I.stkFree c hm
   rcases hc with z | z
   ·rw[z,e] at this;cases this
   ·rw[z] at this;cases this
section
variable {M:Model}{A:Around}{E:Value->Shared->Prop}{env:Env}
variable {nm q:Str}{C N:Addr}{bs bm:List Value}{hdct:Bool}{sn:List Str}{sub:List Value}{ab:Bool}{col:Option Bool}{dd:Option Addr}{k0 k1 k2 k3 k5:Option Value}{newId:String}
theorem zgB {s:Shared}{x:Sem Value}{Q:Flow->Shared->Prop}(hbase:bm.contains (.type "BaseException")=true)(hh:A.handled=none)
 (h:wpAny M A x (fun v s₁=>∃e t dx,v=.ref e/\s₁.heap.get? C=some (excClassObj nm q C N bs bm hdct sn sub ab col dd k0 k1 k2 k3 k5 newId)/\
  s₁.heap.get? e=some {cls:=.ref C,dict:=dx,data:=.fields #[.ref t,.none,.none,.none,.bool false,.none]}/\E (.ref e) s₁) E s) :
 wpAny M A (raiseStmt env (some x) none) Q E s:=by
 have hcB:(Value.ref C::bm).contains (.type "BaseException")=true:=by rw[List.contains_cons,hbase,Bool.or_true]
 unfold raiseStmt;refine waa (waz h (fun v s₁ h₁=>?_) fun _ _ x=>x);obtain⟨e,t,dx,rfl,hC,he,hE⟩:=h₁;obtain⟨hp,g,d,tk,os⟩:=s₁;repeat (first | with_reducible refine wbs he ?_ | with_reducible refine wbs hC ?_ | (with_reducible refine wcw hC ?_;rw[hcB]) | wp_step)
 exact wpAny_raiseNew_none hh hE
end
section
variable {X:Cx}{C N fI:Addr}{bm:List Value}{slf x nm cn:Str}{J e:Expr}{fd:FuncData}{te:TA}{E:XK}{np cp pos:Pos}{k:Nat}
def zng (C:Addr)(nm:Str)(E:XK)(SJ:V->Hp->Prop)(te:TA):TS:=fun D σ H=>te σ H fun vs H1=>∃v,vs = [v]/\SJ v H1/\∀dx,H1 dx=none->E (.ref C) (some dx) (upd H1 dx (.xd [(nm,v)]))
theorem zjd {SJ:V->Hp->Prop}(c:XI X.prog X.w X.K C N fI bm slf x nm J fd)(hsup:X.mg "super"=none)(hg:Gl X cn)(hm:X.mg cn=some (.ref C))(hk:W.keepIn X.K (.ref C)=true)(hB:bm.contains (.type "BaseException")=true)
 (hr:Room (k+1) X.A) (hL:Leaves X E) (ha:PA X [e] te) (hJ:∀(pins:List (Addr×Obj)) (σ:L2.St) (H:Hp) (s:Shared) (v:V) (u:Value),Inv X pins σ H s->RelV v u->SJ v H->Says X.prog X.w X.K fd fI x J u s.heap)
 (hdb:(cn == ("__debug__" : Str))=false:=by decide) (he:starEach [e] X.env=(false,eval e X.env)::starEach [] X.env:=by rfl) :
 PS X (.Raise (some (.Call (.Name cn np) [e] [] cp)) none pos) (zng C nm E SJ te):=by
 intro pins s σ H D I h;obtain⟨nm',q,bs,hdct,sn,sub,ab,col,dd,k0,k1,k2,k3,k5,ho⟩:=c.cls.obj;show wpAny (model X.prog X.w) X.A (do standAt pos;raiseStmt X.env (some (do let v <-eval (.Call (.Name cn np) [e] [] cp) X.env;standAt pos;pure v)) none) _ X.xe s
 refine waa (wbu (zgB (C:=C) (nm:=nm') (q:=q) (N:=N) (bs:=bs) (bm:=bm) (hdct:=hdct) (sn:=sn) (sub:=sub) (ab:=ab) (col:=col) (dd:=dd) (k0:=k0) (k1:=k1) (k2:=k2) (k3:=k3) (k5:=k5) (newId:="ValueError.__new__") hB hr.hd (waa ?_)));refine waG (zcD I hg hm ?_ hdb);refine wbU (h₀:=X.base) I.ok.mod.kin hk (thn (ha cp pins s σ H _ I h) fun us s1 ⟨vs,H1,I1,r,v,ev,sj,q⟩ =>⟨I1.kIn,?_⟩) he rfl;subst ev;rcases r with _ | ⟨r1,r2⟩
 rcases r2 with _ | _
 obtain⟨h1,g,d,t,os⟩:=s1;have G:Gx h1:=⟨I1.nolimit,⟨X.mg,I1.mod.glob.keeps I1.bk,hsup⟩,let ⟨mb,a,b⟩:=I1.mod.blt;⟨mb,a.keeps I1.bk,(b "super" (by decide)).trans (by decide +kernel)⟩⟩
 refine zjc hr.gd (by have:=hr.un;omega) I1.kIn G c (hJ _ _ _ _ _ _ I1 r1 sj) (by have:=hr.dp;omega) fun h' e' dx tt tk he he' hd hns hkp=>?_
 refine waa (wbu (wag ⟨e',tt,some dx,rfl,hkp _ _ (I1.kIn _ _ ho),he',?_⟩));have hne:e'≠dx:=by
  rintro rfl;obtain⟨o,es,ep,a1,a2,-⟩:=hns;rw[he'] at a1;cases a1;cases a2
 refine hL pins σ (upd H1 dx (.xd [(nm,v)])) _ e' (.ref C) (some dx) (I1.laid hkp hd ⟨_,hns,fun f=>?_⟩) ⟨wan I1.sz he,?_,fun d z=>by cases z;exact wan I1.sz hd,_,_,he',.inl rfl⟩ (q dx (I1.hok.fresh hd))
 ·by_cases hf:f=nm
  ·subst hf;simp[List.lookup,RelO,r1]
  ·have:(f == nm)=false:=by simpa using hf
   simp[List.lookup,RelO,this,hf]
 ·unfold upd;rw[if_neg hne];exact I1.hok.fresh he
end
def XP (X:Cx)(pins:List (Addr×Obj))(σ:L2.St)(E:XK)(e:Value)(s':Shared):Prop:=∃H1 s1,Inv X pins σ H1 s1/\CXE X.prog X.w X.stack H1 s1 E e s'
section
variable {X:Cx}{pins:List (Addr×Obj)}{σ:L2.St}{E:XK}{e:Value}{s':Shared}{Ex:Value->Shared->Prop}
theorem zje {Q:Unit->Shared->Prop}(hst:X.stack=X.env::X.outer)(hf:X.env.frame=some X.env.locals)(h:XP X pins σ E e s')(hq:∀h',XP X pins σ E e {s' with heap:=h'}->Q () {s' with heap:=h'}) :
 wpAny (model X.prog X.w) X.A (noteFrame e X.env) (fun _ s2=>wpAny (model X.prog X.w) X.A (setFlight e none) Q Ex s2) Ex s':=by
 obtain⟨H1,s1,I1,hc⟩:=h;obtain⟨_,_,_,_,_,J,_,_⟩:=zhS I1 hc;obtain⟨a,cls,dx,H',rfl,x,os,bare,un,hok,q⟩:=hc;have hz:s1.heap.objs.size<=s'.heap.objs.size:=by
  obtain⟨e0,_,_,vs,sl,he,_⟩:=x;exact wan e0 (wbg (wae he))
 refine zne (M:=model X.prog X.w) (h0:=s1.heap) (H:=H') (base:=X.base) (outer:=X.outer) (by rw[<-hst];exact I1.ok.frames) (by rw[<-hst];exact J.stack) hf x hz (fun b hb=>hok.fresh hb) fun h' L=>hq h' ?_
 rw[<-hst] at L;refine⟨H1,s1,I1,a,cls,dx,H',rfl,L.at_,os,bare,⟨fun b o e n hf hx=>L.keep b o (un.keep b o e n hf hx) (.inl (wae e)) hf,fun b o e n hf hx=>?_,un.free,fun b o e hx=>?_,un.tups,un.frzs,un.tbls⟩,fun b u e=>?_,q⟩
 ·obtain⟨sl,z⟩:=un.slot b o e n hf hx;obtain⟨sl',z'⟩:=L.slot b _ z (.inl (wae e));exact⟨sl',z'⟩
 ·obtain⟨o',z⟩:=un.there b o e hx;obtain⟨sl',z'⟩:=L.slot b _ z (.inl (wae e));exact⟨_,z'⟩
 ·refine(hok b u e).stay (fun c v hc q=>L.keep c v q ?_ ?_) (fun _ q=>q) fun _ _ _ q=>q
  ·rcases hc with z | z
   ·rw[z,e];exact .inr (by simp)
   ·rw[z];exact .inr (by simp)
  ·intro hm;have:=un.free c
   have fr:=I1.stkFree c hm
   obtain⟨_,o,ho,_⟩:=I1.stack.mem hm;have h0:=un.free c o ho fr (by simp)
   rcases hc with z | z
   ·rw[z,e] at h0;cases h0
   ·rw[z] at h0;cases h0
end
theorem zeT {M:Model}{A:Around}{Ex:Value->Shared->Prop}{K:W.Frag}{s:Shared}{a C CT:Addr}{oe:Obj}{b:Bool}{Q:Bool->Shared->Prop}(X:K.In s.heap)(he:s.heap.get? a=some oe)(hc:oe.cls=.ref C)
 (hb:PySem.W.mroIn K CT (.type "BaseException")=some true) (ht:PySem.W.typeIn K (.ref CT)=some (.type "type")) (hm:PySem.W.mroIn K C (.ref CT)=some b) (hq:Q b s):wpAny M A (excMatches (.ref a) (.ref CT)) Q Ex s:=by
 obtain⟨hp,g,d,t,os⟩:=s;have L1:=PySem.W.looks_mroIn (M:=M) X hb
 have L2:=PySem.W.looks_mroIn (M:=M) X hm
 have L3:=PySem.W.looks_typeIn (M:=M) X ht
 obtain⟨cd,hcd,-⟩:=Option.bind_eq_some_iff.mp hb;obtain⟨oC,hoC,hdC⟩:∃oC,hp.get? CT=some oC/\oC.data=.cls cd:=by
  unfold PySem.W.clsIn at hcd;split at hcd
  ·rename_i ho;cases hcd;exact⟨_,X _ _ ho,rfl⟩
  ·cases hcd
 have f:=tc_notTuple
 have f':PySem.W.Looks M hp (isSubtype (.type "type") (.type "tuple")) false:=.of_pure f
 have T:PySem.W.Looks M hp (isInstance (.ref CT) (.type "tuple")) false:=L3.andThen f'
 have B:PySem.W.Looks M hp (isExcClass (.ref CT)) true:=by
  refine PySem.W.Looks.andThen (a:=true) ?_ L1;exact(PySem.W.Looks.ld (part:=some PySem.headPart) hoC).andThen (by rw[hdC];exact .now)
 have Y:PySem.W.Looks M hp (typeOf (.ref a)) (.ref C):=(PySem.W.Looks.ld he).andThen (by rw[hc];exact .now)
 unfold excMatches;refine waa (T.here ?_);simp only[wbC,if_false];refine waa (wag ?_);simp only[List.forIn_cons,List.forIn_nil];refine waa (waa (waa (B.here ?_)));simp only[Bool.not_true,wbC,if_false];refine wag (wag (waa (Y.here (waa (waa (waa (L2.here ?_)))))));cases b with
 | true=>exact wag (wag (wag hq))
 | false=>exact wag (wag (wag hq))
section
variable {X:Cx}{pins:List (Addr×Obj)}{σ:L2.St}{H:Hp}{s:Shared}
theorem zco {M:Model}{A:Around}{E:Value->Shared->Prop}{i:Nat}{x:Str}{pos:Pos}{Q:Unit->Shared->Prop}(I:Inv X pins σ H s)(hN:X.N.Nodup)(hi:X.N[i]?=some x)(hk:X.env.kindOf x=some .local)
 (h:∀s',Inv X pins (σ.set i none) H s'->Q () s'):wpAny M A (do bindName X.env x .none;unbindBehindTheSuite X.env x pos) Q E s:=by
 obtain⟨m,hn,hl⟩:=id I.loc;have hcls:(X.env.scope.kind == .class||(X.env.scope.kind == .module&&X.env.locals != X.env.globals))=false:=by rw[I.ok.kind];rfl
 have hiσ:i<σ.length:=by rw[I.len];exact(wal.mp hi).1
 have cne:=I.cne
 have tracked:∀{a:Addr}{h':Heap},(∃o,s.heap.get? a=some o/\H a=none)->Heap.SameBut a s.heap h'->HOk X.prog X.w H h':=fun {a h'} ha hs b ob e=>by
  obtain⟨_,_,hfree⟩:=ha;refine(I.hok b ob e).stay (fun c w' hc q=>(hs.2 c ?_).trans q) (fun _ q=>q) fun _ _ _ q=>q
  rintro rfl;rcases hc with rfl | hc
  ·rw[hfree] at e;cases e
  ·rw[hfree] at hc;cases hc
 refine wpAny_nameGoes_keeps hk hn hcls fun h' v hn' hs=>?_
 obtain⟨oL,_,_,hoL,_⟩:=id hn;refine h _ ⟨I.ok,I.os,I.bare,⟨fun b o e n hb hx=>?_,fun b o e n hb hx=>?_,I.base.free,fun b o e hx=>?_,I.base.tups,I.base.frzs,I.base.tbls⟩,⟨_,hn',fun j y v' e1 e2 e3=>?_⟩,fun y c e=>?_,I.free,I.freeC,fun p hp=>?_,tracked ⟨oL,hoL,I.free⟩ hs,by simpa using I.len⟩
 ·exact(hs.2 b (wax (wah (wae e) I.ok.above))).trans (I.base.keep b o e n hb hx)
 ·obtain⟨sl,e1⟩:=I.base.slot b o e n hb hx;exact⟨sl,(hs.2 b (wax (wah (wae e) I.ok.above))).trans e1⟩
 ·obtain⟨o',e1⟩:=I.base.there b o e hx;exact⟨o',(hs.2 b (wax (wah (wae e) I.ok.above))).trans e1⟩
 ·by_cases hj:j=i
  ·subst hj;rw[waq hiσ] at e2;cases e2
  ·rw[wad (Ne.symm hj)] at e2;obtain⟨u',r',q⟩:=hl j y v' e1 e2 e3;refine⟨u',r',?_⟩;rcases q with⟨k,e⟩ | ⟨k,c,e,z⟩
   ·refine .inl ⟨k,?_⟩;have:y≠x:=fun e=>hj (zdN hN e1 (e▸hi))
    simp[this,e]
   ·exact .inr ⟨k,c,e,z.sameBut hs (cne y c e)⟩
 ·obtain⟨w',z⟩:=I.cell y c e;exact⟨w',z.sameBut hs (cne y c e)⟩
 ·obtain⟨e,n,ne,nf,d⟩:=I.pin p hp;exact⟨(hs.2 p.1 ne).trans e,n,ne,nf,d⟩
theorem zgC {M:Model}{A:Around}{E:XK}{e:Value}{s':Shared}{Ex:Value->Shared->Prop}{Q:Unit->Shared->Prop}(h:XP X pins σ E e s')(hq:∀h',XP X pins σ E e {s' with heap:=h'}->Q () {s' with heap:=h'}) :
 wpAny M A (setFlight e none) Q Ex s':=by
 obtain⟨H1,s1,I1,hc⟩:=h;obtain⟨a,cls,dx,H',rfl,x,os,bare,un,hok,q⟩:=id hc;obtain⟨e0,eH,eD,vs,sl,he,h1 | ⟨T,oT,ts,h1,hTe,hnT,HT,hT,hdT,h3⟩⟩:=id x
 ·unfold setFlight;refine waa (waP he rfl h1 ?_);rw[if_neg (by decide)];exact wag (hq s'.heap ⟨H1,s1,I1,hc⟩)
 ·unfold setFlight;refine waa (waP he rfl h1 ?_);rw[if_pos (show(Value.ref T != Value.none)=true from by simp)];refine wbO hT hdT (waW.mp h3).1 ?_;have other:∀b,b≠T->(s'.heap.update T (Obj.mapFields (·.setIfInBounds 3 Value.none))).get? b=s'.heap.get? b:=fun b hb=>waE _ _ (Ne.symm hb)
  have ne1:∀b o,s1.heap.get? b=some o->b≠T:=fun b o e z=>absurd (wae e) (Nat.not_lt.mpr (by rw[z];exact hnT))
  have self:(s'.heap.update T (Obj.mapFields (·.setIfInBounds 3 Value.none))).get? T=some _:=waR _ hT (wbF (wbe hdT _))
  refine hq _ ⟨H1,s1,I1,a,cls,dx,H',rfl,⟨e0,eH,eD,vs,sl,(other a (Ne.symm hTe)).trans he,.inr ⟨T,_,_,h1,hTe,hnT,HT,self,wbe hdT _,by simp[(waW.mp h3).1]⟩⟩,os,bare,⟨fun b o e n hf hx=>(other b (ne1 b o e)).trans (un.keep b o e n hf hx),fun b o e n hf hx=>?_,un.free,fun b o e hx=>?_,un.tups,un.frzs,un.tbls⟩,fun b u e=>?_,q⟩
  ·obtain⟨sl,z⟩:=un.slot b o e n hf hx;exact⟨sl,(other b (ne1 b o e)).trans z⟩
  ·obtain⟨o',z⟩:=un.there b o e hx;exact⟨o',(other b (ne1 b o e)).trans z⟩
  ·refine(hok b u e).stay (fun c v hc q=>(other c ?_).trans q) (fun _ q=>q) fun _ _ _ q=>q
   rintro rfl;rcases hc with z | z
   ·rw[<-z,HT] at e;cases e
   ·rw[HT] at z;cases z
end
def X0:HO:=.ext fun _=>True
def Held (H:Hp)(a:Addr)(oa:Obj)(H2:Hp):Prop:=
 (oa.dict=none/\H2=upd H a (.frz oa X0))\/∃d od fs,oa.dict=some d/\H d=some (.xd fs)/\H2=upd (upd H a (.frz oa X0)) d (.frz od (.xd fs))
theorem Held.same {H H2:Hp}{a:Addr}{oa:Obj}(h:Held H a oa H2)(ha:H a=none){c:Addr}{z:HO}(e:H c=some z)(n:∀fs,z≠.xd fs):H2 c=some z:=by
 have hca:c≠a:=by rintro rfl;rw[ha] at e;cases e
 rcases h with⟨_,rfl⟩ | ⟨d,od,fs,_,hd,rfl⟩
 ·rw[zae hca];exact e
 ·have hcd:c≠d:=by rintro rfl;rw[hd] at e;cases e;exact n _ rfl
  rw[zae hcd,zae hca];exact e
section
variable {X:Cx}{pins:List (Addr×Obj)}{σ:L2.St}{H:Hp}{s:Shared}
theorem zjf {E:XK}{e:Value}{s':Shared}(h:XP X pins σ E e s')(hxd:∀cls dx H',E cls dx H'->∀d,dx=some d->∃fs,H' d=some (.xd fs)) :
 ∃a cls dx H' oa H2,e=.ref a/\E cls dx H'/\H' a=none/\s'.heap.get? a=some oa/\oa.cls=cls/\oa.dict=dx/\PySem.W.notCls oa=true/\Held H' a oa H2/\Inv X pins σ H2 s':=by
 obtain⟨H1,s1,I1,a,cls,dx,H',rfl,x,os,bare,un,hok,q⟩:=h;obtain⟨e0,eH,eD,vs,sl,he,_⟩:=id x;have hold:∃H2,Held H' a ⟨cls,dx,.fields vs,sl⟩ H2/\HOk X.prog X.w H2 s'.heap/\∀b,b<s1.heap.objs.size->H' b=none->H2 b=none:=by
  have ex0:∀H2,ObjOk X.prog X.w H2 s'.heap a (.frz ⟨cls,dx,.fields vs,sl⟩ X0):=fun H2=>⟨he,trivial,⟨_,he⟩,fun _ _ _ _=>trivial⟩
  cases hdx:dx with
  | none=>
    subst hdx;have hh:Held H' a ⟨cls,none,.fields vs,sl⟩ (upd H' a (.frz ⟨cls,none,.fields vs,sl⟩ X0)):=.inl ⟨rfl,rfl⟩
    refine⟨_,hh,fun b u e=>?_,fun b hb n=>?_⟩
    ·by_cases hba:b=a
     ·subst hba;rw[zaf] at e;cases e;exact ex0 _
     ·rw[zae hba] at e;exact(hok b u e).stay (fun _ _ _ q=>q) (fun c q=>hh.same eH q (fun _ z=>by cases z)) fun c z hz q=>hh.same eH q (fun fs y=>by rw[y] at hz;exact hz)
    ·rw[zae (wax (wah hb e0))];exact n
  | some d=>
    subst hdx;obtain⟨fs,hd⟩:=hxd _ _ _ q d rfl;obtain⟨mA,⟨od,es,ep,hod,r1⟩,r2⟩:=hok d _ hd;have hh:Held H' a ⟨cls,some d,.fields vs,sl⟩ (upd (upd H' a (.frz ⟨cls,some d,.fields vs,sl⟩ X0)) d (.frz od (.xd fs))):=.inr ⟨d,od,fs,rfl,hd,rfl⟩
    have hda:d≠a:=by rintro rfl;rw[eH] at hd;cases hd
    refine⟨_,hh,fun b u e=>?_,fun b hb n=>?_⟩
    ·by_cases hbd:b=d
     ·subst hbd;rw[zaf] at e;cases e;exact⟨hod,mA,⟨od,es,ep,hod,r1⟩,r2⟩
     rw[zae hbd] at e;by_cases hba:b=a
     ·subst hba;rw[zaf] at e;cases e;exact ex0 _
     ·rw[zae hba] at e;exact(hok b u e).stay (fun _ _ _ q=>q) (fun c q=>hh.same eH q (fun _ z=>by cases z)) fun c z hz q=>hh.same eH q (fun fs y=>by rw[y] at hz;exact hz)
    ·rw[zae (wax (wah hb (eD d rfl))),zae (wax (wah hb e0))];exact n
 obtain⟨H2,hh,hok2,hn2⟩:=hold;refine⟨a,cls,dx,H',_,H2,rfl,q,eH,he,rfl,rfl,rfl,hh,I1.call' (ch:=[]) os ⟨un.keep,un.slot,fun b o e n hx=>hn2 b (wae e) (un.free b o e n hx),un.there,fun b xs e=>hh.same eH (un.tups b xs e) (fun _ z=>by cases z),fun b o u e=>hh.same eH (un.frzs b o u e) (fun _ z=>by cases z),fun b ps e=>?_⟩ hok2 bare (fun b z=>absurd z (by simp))⟩;obtain⟨more,z⟩:=un.tbls b ps e;exact⟨more,hh.same eH z (fun _ z=>by cases z)⟩
end
def inH (X:Cx)(e:Value):Cx:={X with A:=X.A.mark (some e),calm:=false,xe:=fun _ _=>False}
section
variable {X:Cx}{pins:List (Addr×Obj)}{σ:L2.St}{H:Hp}{s:Shared}{e:Value}
theorem toH (I:Inv X pins σ H s):Inv (inH X e) pins σ H s:=by
 obtain⟨⟨a1,a2,a3,a4,a5,a6,a7,a8,a9,a10,a11,a12,a13,a14,a15,a16,a17,a18⟩,b2,b3,b4,b5,b6,b7,b8,b9,b10,b11⟩:=I;exact⟨⟨a1,a2,a3,a4,a5,a6,a7,a8,(fun z=>by cases z),a10,a11,a12,a13,a14,a15,a16,a17,a18⟩,b2,b3,b4,b5,b6,b7,b8,b9,b10,b11⟩
theorem ofH (I:Inv (inH X e) pins σ H s)(ok:X.Ok):Inv X pins σ H s:=by
 obtain⟨_,b2,b3,b4,b5,b6,b7,b8,b9,b10,b11⟩:=I;exact⟨ok,b2,b3,b4,b5,b6,b7,b8,b9,b10,b11⟩
end
abbrev TX:=Ends->XK->L2.St->Hp->Prop
def PSX (X:Cx)(ss:List Stmt)(t:TX):Prop:=∀(pins:List (Addr×Obj)) (s:Shared) (σ:L2.St) (H:Hp) (D:Ends) (E:XK),Inv X pins σ H s->t D E σ H->wpAny (model X.prog X.w) X.A (execs ss X.env) (SP X pins D) (XP X pins σ E) s
def unset (i:Nat)(D:Ends):Ends:={nx:=fun σ H=>D.nx (σ.set i none) H,bk:=fun σ H=>D.bk (σ.set i none) H,ct:=fun σ H=>D.ct (σ.set i none) H,rt:=D.rt}
def tTry (K:W.Frag)(CT:Addr)(i:Nat)(tb:TX)(th:TS):TS:=fun D σ H=>tb D (fun cls dx H'=>(∃C,cls=.ref C/\PySem.W.mroIn K C (.ref CT)=some true)/\(∀d,dx=some d->∃fs,H' d=some (.xd fs))/\
 ∀a oa H2,H' a=none->oa.cls=cls->oa.dict=dx->PySem.W.notCls oa=true->Held H' a oa H2->th (unset i D) (σ.set i (some (.ref a))) H2) σ H
section
variable {X:Cx}{T n:Str}{tp hp pos:Pos}{body suite:List Stmt}{b₀:Stmt}{CT:Addr}{i:Nat}{tb:TX}{th:TS}
theorem znh (hst:X.stack=X.env::X.outer)(hf:X.env.frame=some X.env.locals)(hg:Gl X T)(hm:X.mg T=some (.ref CT))(hN:X.N.Nodup)(hi:X.N[i]?=some n)(hk:X.env.kindOf n=some .local)
 (hB:PySem.W.mroIn X.K CT (.type "BaseException")=some true) (hT:PySem.W.typeIn X.K (.ref CT)=some (.type "type")) (hb:PSX X body tb) (hh:∀e,PSs (inH X e) (b₀::suite) th)
 (hdb:(T == ("__debug__" : Str))=false:=by decide) :
 PS X (.Try body [.ExceptHandler (some (.Name T tp)) (some n) (b₀::suite) hp] [] [] pos) (tTry X.K CT i tb th):=by
 intro pins s σ H D I h;refine wpAny_Try_except (waz (hb pins s σ H D _ I h) (fun f s1 h1=>?_) (fun e s1 h1=>?_))
 ·cases f <;> first | exact h1 | exact wag h1
 refine zje hst hf h1 fun h2 x2=>?_
 obtain⟨H1,s0,I0,hc⟩:=id x2;obtain⟨a,cls,dx,H',rfl,J,x,⟨C,rfl,hmm⟩,_,_⟩:=zhS I0 hc;obtain⟨e0,eH,eD,vs,sl,he,_⟩:=x;refine wpAny_handleBy_cons (codeAny_handlers_test ?_) (by intro q;cases q);refine zcD (X:=inH X (.ref a)) (toH J) hg hm ?_ hdb;refine zeT J.kIn he rfl hB hT hmm ?_;refine codeAny_handlers_suite_as (zgC x2 fun h3 x3=>?_);obtain⟨a',cls,dx',H3,oa,H2,ea,q,ha,hoa,hcl,hdx,hnc,hh2,J2⟩:=zjf x3 (fun cls dx H' q=>q.2.1);cases ea;refine zdO (X:=inH X (.ref a)) (toH J2) hN hi (.inl hk) (v:=.ref a) rfl (fun s4 J4=>?_) (.inr hk);refine waz (hh (.ref a) pins s4 _ _ (unset i D) J4 (q.2.2 a oa H2 ha hcl hdx hnc hh2)) (fun f s5 h5=>?_) (fun _ _ z=>z.elim);cases f with
 | next=>obtain⟨σ',H',J5,q5⟩:=h5;exact zco (ofH J5 I.ok) hN hi hk fun s6 J6=>⟨_,_,J6,q5⟩
 | brk=>obtain⟨σ',H',J5,q5⟩:=h5;exact zco (ofH J5 I.ok) hN hi hk fun s6 J6=>⟨_,_,J6,q5⟩
 | cont=>obtain⟨σ',H',J5,q5⟩:=h5;exact zco (ofH J5 I.ok) hN hi hk fun s6 J6=>⟨_,_,J6,q5⟩
 | ret u=>obtain⟨v,σ',H',J5,r5,q5⟩:=h5;exact zco (ofH J5 I.ok) hN hi hk fun s6 J6=>⟨v,_,_,J6,r5,q5⟩
end
abbrev TEX:=L2.St->Hp->VK->XK->Prop
def PEX (X:Cx)(e:Expr)(t:TEX):Prop:=∀(pins:List (Addr×Obj)) (s:Shared) (σ:L2.St) (H:Hp) (Q:VK) (E:XK),Inv X pins σ H s->t σ H Q E->wpAny (model X.prog X.w) X.A (eval e X.env) (EP X pins σ Q) (XP X pins σ E) s
section
variable {X:Cx}{k:Nat}{f:Addr}{fd:FuncData}{ps:List Str}{sp:Sp}{dvs:List V}{ds:List Value}{x:Str}{p pos:Pos}{e:Expr}{es:List Expr}{t:TA}{te:TEX}
theorem zhU {pins:List (Addr×Obj)}{σ:L2.St}{H:Hp}{s:Shared}(I:Inv X pins σ H s):Inv X.nox pins σ H s:=by
 obtain⟨⟨a1,a2,a3,a4,a5,a6,a7,a8,a9,a10,a11,a12,a13,a14,a15,a16,a17,a18⟩,b2,b3,b4,b5,b6,b7,b8,b9,b10,b11⟩:=I;exact⟨⟨a1,a2,a3,a4,a5,a6,a7,a8,a9,a10,a11,a12,a13,a14,a15,a16,a17,a18⟩,b2,b3,b4,b5,b6,b7,b8,b9,b10,b11⟩
theorem zdG {pins:List (Addr×Obj)}{σ:L2.St}{H:Hp}{s:Shared}(I:Inv X.nox pins σ H s):Inv X pins σ H s:=by
 obtain⟨⟨a1,a2,a3,a4,a5,a6,a7,a8,a9,a10,a11,a12,a13,a14,a15,a16,a17,a18⟩,b2,b3,b4,b5,b6,b7,b8,b9,b10,b11⟩:=I;exact⟨⟨a1,a2,a3,a4,a5,a6,a7,a8,a9,a10,a11,a12,a13,a14,a15,a16,a17,a18⟩,b2,b3,b4,b5,b6,b7,b8,b9,b10,b11⟩
theorem zjg (F:FnOk X.prog X.w X.K X.mg X.base (CXE X.prog X.w) k f fd ps sp)(hr:Room k X.A)(hg:Gl X x)(hm:X.mg x=some (.ref f))(hk:W.keepIn X.K (.ref f)=true)(hb:Binds X.K fd ps ds)(hd:Vals dvs ds)
 (ha:PA X.nox (e::es) t) (hdb:(x == ("__debug__" : Str))=false:=by decide) (he:starEach (e::es) X.env=(false,eval e X.env)::starEach es X.env:=by rfl) (hpl:(backTo pos (starEach es X.env)).any (·.1)=false:=by rfl) :
 PEX X (.Call (.Name x p) (e::es) [] pos) (fun σ H Q E=>zgq sp dvs E t σ H Q):=by
 intro pins s σ H Q E I h;refine waG (zcD I hg hm ?_ hdb);refine wbU (h₀:=X.base) I.ok.mod.kin hk (waz (ha pos pins s σ H _ (zhU I) h) (fun us s1 ⟨vs,H1,I1,r,q⟩ =>⟨I1.kIn,?_⟩) fun _ _ z=>z.elim) he hpl;have J1:=zdG I1
 have r2:Vals (vs++dvs) (us++ds):=r.append hd
 have hl:(us++ds).length=ps.length:=by rw[<-r2.length];exact F.len _ _ _ _ q
 refine wcn (wcf (F.run X.A X.stack s1 H1 ⟨us,[]⟩ (us++ds) (vs++dvs) Q E hr J1.env0 (hb s1 us J1.kIn hl) r2 q) fun r s' hq=>?_);cases r with
 | error e=>exact⟨H1,s1,J1,hq⟩
 | ok fl=>
   cases fl with
   | ret u=>exact J1.after hq
   | next=>exact False.elim hq
   | brk=>exact False.elim hq
   | cont=>exact False.elim hq
theorem zjh (he:PEX X e te)(hs:swapsWith e none pos.line X.env=pure false:=by rfl):PSX X [.Expr e pos] (fun D E σ H=>te σ H (fun _ H1=>D.nx σ H1) E):=by
 intro pins s σ H D E I h;refine wpAny_execs_cons (wpAny_Expr_any (thn (he pins s σ H _ E I h) fun v s1 ⟨x,H1,I1,r1,q1⟩ =>?_) I.quiet hs);exact wcq ⟨σ,H1,I1,q1⟩
end
end EX
namespace EX
open PySem PySem.Spec PySem.W PyProof.Rows
def zf9 (K:Frag)(a:Addr):Bool:=match K.lookup a with
 | some ⟨_,_,.dict es _,_⟩ =>es.toList.all fun e=>match e.key with | .str _ _=>true | _=>false
 | _=>false
theorem ns_K {K:Frag}{a:Addr}(e:zf9 K a=true):∃m:Str->Option Value,(∀h:Heap,K.In h->h.Ns a m)/\∀x r,nsIn K a x=some r->m x=r:=by
 unfold zf9 at e;split at e
 ·rename_i c d es ep sl ho
  refine⟨nsFind es,fun h X=>⟨_,es,ep,X _ _ ho,rfl,fun en hen=>?_,fun _=>rfl⟩,fun x r hr=>?_⟩
  ·have:=waC.mp e en (by simpa using hen)
   split at this
   ·rename_i n t hk;exact⟨n,t,hk⟩
   ·cases this
  ·unfold nsIn at hr;rw[ho] at hr;dsimp only at hr;unfold nsFind findBy;obtain⟨es⟩:=es;rw[List.find?_toArray];dsimp only at hr;split at hr
   ·rename_i en hen
    cases hr;rw[show List.find? (fun e:DictEntry=>(fun n (v:Value)=>v.isStr n) x e.key) es=some en from hen];rfl
   ·rename_i hen
    rw[show List.find? (fun e:DictEntry=>(fun n (v:Value)=>v.isStr n) x e.key) es=none from hen];split at hr
    ·cases hr
    ·cases hr;rfl
 ·cases e
def zga (K:Frag)(bmB:List Value):List Value->Bool
 | .ref A::tl=>((clsIn K A).any fun cd=>zf9 K cd.ns&&(nsIn K cd.ns "__init__" == some none))&&zga K bmB tl
 | l=>l == bmB
theorem zni {K:Frag}{h:Heap}(X:K.In h){bmB:List Value}(hb:∀A tl,bmB≠.ref A::tl):∀{bm:List Value},zga K bmB bm=true->OwnTail h bmB bm:=by
 intro bm;induction bm with
 | nil=>intro e;rw[show([]:List Value)=bmB from beq_iff_eq.mp e];exact .base
 | cons v tl ih=>
   intro e;by_cases hv:∃c,v=.ref c
   ·obtain⟨c,rfl⟩:=hv;unfold zga at e;rw[waA] at e;obtain⟨cd,hcd,hr⟩:=any_some e.1;rw[waA] at hr;obtain⟨m,hm,hm2⟩:=ns_K hr.1;unfold clsIn at hcd;split at hcd
    ·rename_i c0 d0 cd0 sl0 ho
     cases hcd;exact OwnTail.own (X _ _ ho) (hm h X) (hm2 _ _ (beq_iff_eq.mp hr.2)) (ih e.2)
    ·cases hcd
   ·have:v::tl=bmB:=by
     cases v <;> first | exact beq_iff_eq.mp e | exact absurd ⟨_,rfl⟩ hv
    rw[this];exact .base
section
variable {prog:Program}{w:World}{A:Around}{E:Value->Shared->Prop}{h:Heap}{g:Array GenState}{d:Drawn}{t:Nat}{os:OsState}
variable {C x:Addr}{K:Frag}{ox:Obj}{od:Option Obj}{name:Str}{v:Value}{expr:Bool}{Q:Value->Shared->Prop}
theorem ga_ve:Slot "ValueError" "__getattribute__" "BaseException.__getattribute__":=.of (owner:="BaseException") (n:="__getattribute__") (by rw[typeLookup_type,builtinLookup_eq_fast];kernel_rfl) (by decide +kernel) (by decide +kernel) (by decide +kernel)
 (by first | exact .inl (by decide +kernel) | exact .inr (by decide +kernel)) (by rw[isSubtype_type];kernel_rfl)
theorem zhV:builtinKind "BaseException.__getattribute__"=some .slot:=by decide +kernel
theorem zgb:splitId "BaseException.__getattribute__"=some ("BaseException","__getattribute__"):=by decide +kernel
theorem znj {tk:Tok}{R:Result->Shared->Prop}(X:K.In h)(I:InstAt h x ox C od)(hm:mroIn K C (.type "BaseException")=some true)(hf:findObj K C od name=some (.value v))(hq:R (.ok (.ret v)) ⟨h,g,d,t,os⟩) :
 codeAny (model prog w) A (.call (.builtin "BaseException.__getattribute__") ⟨[.ref x,.str name tk],[]⟩) R ⟨h,g,d,t,os⟩:=by
 have L0:=I.type (M:=model prog w)
 have L1:=looks_find (M:=model prog w) X I hf
 have sub:Looks (model prog w) h (isInstance (.ref x) (.type "BaseException")) true:=L0.andThen (looks_mroIn X hm)
 refine wbM ga_ve.plain F.entry_bexc_ga (@check_slot (model prog w) _ _ ⟨h,g,d,t,os⟩ "BaseException.__getattribute__" "BaseException" "__getattribute__" (.ref x) [.str name tk] [] _ zhV zgb sub (F.args_bexc_ga (.ref x) (.str name tk)) ?_);unfold Builtin.«object.__getattribute__»;repeat (any_goals (first | assumption | with_reducible refine Looks.at L0 ?_ | with_reducible refine Looks.at L1 ?_ | wp_step))
theorem zlm (X:K.In h)(I:InstAt h x ox C od)(hga:findIn K (.ref C) "__getattribute__"=some (some (.builtin "BaseException.__getattribute__")))(hgt:findIn K (.ref C) "__getattr__"=some none)
 (hm:mroIn K C (.type "BaseException")=some true) (hf:findObj K C od name=some (.value v)) (hh:handedIn v=true) (hq:Q v ⟨h,g,d,t+1,os⟩):wpAny (model prog w) A (getAttr (.ref x) name expr) Q E ⟨h,g,d,t,os⟩:=by
 have L0:=I.type (M:=model prog w)
 have L1:=looks_findIn (M:=model prog w) X hga
 have L2:=looks_findIn (M:=model prog w) X hgt
 have f3:=ga_ve.bind (.ref x)
 have hx0:(expr&&onTheHeap (Value.builtin "BaseException.__getattribute__"))=false:=by cases expr <;> rfl
 have hx2:(Value.builtin "BaseException.__getattribute__" == Value.builtin "object.__getattribute__")=false:=by decide +kernel
 have hx1:(onTheHeap (Value.ref C)&&Value.builtin "BaseException.__getattribute__" == Value.builtin "object.__getattribute__")=false:=by rw[hx2];rfl
 unfold getAttr getAttrBy;refine waa (wpAny_mkText (wbl (waa (L0.at (waa (L1.at ?_))))));repeat (any_goals (first | assumption | with_reducible refine Looks.at L0 ?_ | with_reducible refine Looks.at L1 ?_ | with_reducible refine Looks.at L2 ?_ | wp_step))
 refine znj X I hm hf ?_;show wpAny _ _ (handedOut v) _ _ _
 rw[handedOut_of hh];exact wag hq
end
section
variable {prog:Program}{w:World}{A:Around}{E:Value->Shared->Prop}{h:Heap}{g:Array GenState}{d:Drawn}{t:Nat}{os:OsState}
variable {C x:Addr}{K:Frag}{ox:Obj}{od:Option Obj}
theorem zeU {tk:Tok}{R:Result->Shared->Prop}(X:K.In h)(I:InstAt h x ox C od)(hm:mroIn K C (.type "BaseException")=some true)(hmo:mroIn K C (.type "object")=some true)
 (hf:findObj K C od "__class__"=some (.bind (.builtin "getset_descriptor.__get__") (.builtin "object.__class__"))) (hq:R (.ok (.ret (.ref C))) ⟨h,g,d,t,os⟩) :
 codeAny (model prog w) A (.call (.builtin "BaseException.__getattribute__") ⟨[.ref x,.str "__class__" tk],[]⟩) R ⟨h,g,d,t,os⟩:=by
 have L0:=I.type (M:=model prog w)
 have L1:=looks_find (M:=model prog w) X I hf
 have sub:Looks (model prog w) h (isInstance (.ref x) (.type "BaseException")) true:=L0.andThen (looks_mroIn X hm)
 refine wbM ga_ve.plain F.entry_bexc_ga (@check_slot (model prog w) _ _ ⟨h,g,d,t,os⟩ "BaseException.__getattribute__" "BaseException" "__getattribute__" (.ref x) [.str "__class__" tk] [] _ zhV zgb sub (F.args_bexc_ga (.ref x) (.str "__class__" tk)) ?_);unfold Builtin.«object.__getattribute__»;repeat (any_goals (first | assumption | with_reducible refine Looks.at L0 ?_ | with_reducible refine Looks.at L1 ?_ | wp_step))
 exact class_get (s:=⟨h,g,d,t,os⟩) X I hmo (wag hq)
theorem zhW {Q:Option Value->Shared->Prop}(X:K.In h)(I:InstAt h x ox C od)(hga:findIn K (.ref C) "__getattribute__"=some (some (.builtin "BaseException.__getattribute__")))(hgt:findIn K (.ref C) "__getattr__"=some none)
 (hm:mroIn K C (.type "BaseException")=some true) (hmo:mroIn K C (.type "object")=some true)
 (hf:findObj K C od "__class__"=some (.bind (.builtin "getset_descriptor.__get__") (.builtin "object.__class__"))) (hq:Q (some (.ref C)) ⟨h,g,d,t+1,os⟩) :
 wpAny (model prog w) A (getAttr? (.ref x) "__class__") Q E ⟨h,g,d,t,os⟩:=by
 have L0:=I.type (M:=model prog w)
 have L1:=looks_findIn (M:=model prog w) X hga
 have L2:=looks_findIn (M:=model prog w) X hgt
 have f3:=ga_ve.bind (.ref x)
 have hx2:(Value.builtin "BaseException.__getattribute__" == Value.builtin "object.__getattribute__")=false:=by decide +kernel
 have hx1:(onTheHeap (Value.ref C)&&Value.builtin "BaseException.__getattribute__" == Value.builtin "object.__getattribute__")=false:=by rw[hx2];rfl
 unfold getAttr? getAttrBy? getAttrBy;repeat (any_goals (first | assumption | with_reducible refine Looks.at L0 ?_ | with_reducible refine Looks.at L1 ?_ | with_reducible refine Looks.at L2 ?_ | wp_step))
 refine zeU X I hm hmo hf ?_;repeat (any_goals (first | assumption | wp_step))
theorem zji (hga:findIn K (.ref C) "__getattribute__"=some (some (.builtin "BaseException.__getattribute__")))(hgt:findIn K (.ref C) "__getattr__"=some none)
 (hm:mroIn K C (.type "BaseException")=some true) (hmo:mroIn K C (.type "object")=some true) (hdct:hasDictIn K C=true)
 (hf:findObj K C od "__class__"=some (.bind (.builtin "getset_descriptor.__get__") (.builtin "object.__class__"))):KitX K (.ref x) (.ref C) (fun h=>InstAt h x ox C od) where
 ty:=fun _ _ _ I=>I.type
 it:=fun _ _ X _=>by
  obtain⟨cdD,hcD,_⟩:=any_some hdct;unfold clsIn at hcD;split at hcD
  ·rename_i c' d' cd' sl' ho
   intro A' Q' E' s' k q;unfold isType loadHead;exact waa (wpAny_loadPart (k _ _ (X _ _ ho)) (wag q))
  ·cases hcD
 ne:=fun h tp dd its n sl X htp=>by
  obtain⟨cdD,hcD,_⟩:=any_some hdct;refine Bool.eq_false_iff.mpr fun q=>?_
  have e:C=tp:=Value.ref.inj (beq_iff_eq.mp q)
  subst e;unfold clsIn at hcD;split at hcD
  ·rename_i c' d' cd' sl' ho
   have z:=(X _ _ ho).symm.trans htp
   cases z
  ·cases hcD
 ca:=fun {_ _ _ _ _ s} X I k=>by
  obtain⟨h,g,d,t,os⟩:=s;exact zhW X I hga hgt hm hmo hf k
end
section
variable {prog:Program}{w:World}{K:Frag}{fd:FuncData}{fI:Addr}{x p y:Str}{tk0:Tok}{h0:Heap}{cp np fp jp:Pos}{k:Nat}
theorem zhX (hk:∀L,(callEnv fd L fI).kindOf x=some .local)(hf:fd.scope.kind=.function)(hd:(x == ("__debug__" : Str))=false)(hl:p.length+(reprText y).length<=sizeLine) :
 Says prog w K fd fI x (.JoinedStr [.Constant (.str p) k cp,.FormattedValue (.Name x np) 114 none fp] jp) (.str y tk0) h0:=by
 intro A E h1 g d os tk L m Q hgd hun X kp hns hm hq';have hq:∀y t' tk',Q (.str y t') ⟨h1,g,d,tk',os⟩:=fun y t' tk'=>hq' h1 y t' tk' fun _ _ z=>z
 have e0:(Str.empty++p)=p:=by first | rfl | simp | exact Str.empty_append _
 refine wpAny_JoinedStr ?_;show wpAny _ _ (eval (.Constant (.str p) k cp) _) _ _ _
 refine wpAny_Constant_str ?_;refine⟨p,_,rfl,?_,?_⟩
 ·rw[e0];omega
 rw[e0];show wpAny _ _ (eval (.FormattedValue (.Name x np) 114 none fp) _) _ _ _
 have hlen:(p++reprText y).length<=sizeLine:=by rw[strLen_append];exact hl
 refine wpAny_FormattedValue_repr (wcy (wbp hf (hk L) hns hm ?_) hd);refine pyReprObj_str (wpAny_formatField_str ⟨_,_,rfl,hlen,hlen,hq _ _ _⟩ ⟨_,_,rfl,hlen,hlen,hq _ _ _⟩ (by omega)) (by omega)
end
theorem xi_mk {prog:Program}{w:World}{K:Frag}{C N fI cda cc:Addr}{nm0 q:Str}{bs bm:List Value}{hdct:Bool}{sn:List Str}{sub:List Value}{ab:Bool}{col:Option Bool}{dd:Option Addr}{k0 k1 k2 k3 k5:Option Value}
 {slf x nm:Str}{J:Expr}{fd:FuncData}{od:Option Addr}{sl:Array (Option Value)}{ocd occ:Obj}
 (lk:K.lookup C=some (excClassObj nm0 q C N bs bm hdct sn sub ab col dd k0 k1 k2 k3 k5 "ValueError.__new__"))
 (i:nsIn K N "__init__"=some (some (.ref fI)))
 (lf:K.lookup fI=some ⟨.type "function",od,.func fd,sl⟩)
 (opq:nsIn K cStatics "thirdparty.any"=some none)
 (self:mroIn K C (.ref C)=some true)
 (st:findIn K (.ref C) "__setattr__"=some (some (.builtin "object.__setattr__")))
 (tak:takerIn K C nm=some none)
 (cdi:codeIn K fd.code fd.qualname=true)
 (hc:fd.code=.ref cda) (lc:K.lookup cda=some ocd) (lcc:K.lookup cc=some occ) (occd:occ.data=.cell (some (.ref C)))
 (inC:ks_superIn K C C "__init__"=some (some (.builtin "ValueError.__init__")))
 (t1:zga K [.type "ValueError",.type "Exception",.type "BaseException",.type "object"] bm=true)
 (sN:zf9 K N=true)
 (und:(clsIn K C).any (fun cd=>zbL cd.mro)=true)
 (hasD:(clsIn K C).any (·.hasDict)=true)
 (body:∃p0 p1 ap cp q1 q2 q3 q4 q5,fd.body=.stmts [.Expr (.Call (.Attribute (.Call (.Name "super" p0) [] [] p1) "__init__" ap) [J] [] cp) q1,.Assign [.Attribute (.Name slf q2) nm q3] (.Name x q4) q5]/\
  (∀L,interactive (callEnv fd L fI)=false)/\(∀L,swapsWith (.Call (.Attribute (.Call (.Name "super" p0) [] [] p1) "__init__" ap) [J] [] cp) none q1.line (callEnv fd L fI)=pure false)/\
  (∀L,swapsWith (.Name x q4) (some (.Attribute (.Name slf q2) nm q3)) q5.line (callEnv fd L fI)=pure false)/\
  (∀L,starEach [J] (callEnv fd L fI) = [(false,eval J (callEnv fd L fI))])/\
  ∃pl:Addr->Sem Bool,∀L,eval (.Call (.Attribute (.Call (.Name "super" p0) [] [] p1) "__init__" ap) [J] [] cp) (callEnv fd L fI)=(do
   let ov <-attributeBase (.Call (.Name "super" p0) [] [] p1) "__init__" (callEnv fd L fI) (eval (.Call (.Name "super" p0) [] [] p1) (callEnv fd L fI))
   standAt ap.atName
   let (f,first) <-holding [ov] (getMethod ov "__init__" (pl L))
   callWith cp f first (backTo cp (starEach [J] (callEnv fd L fI))) []))
 (ne:slf≠x) (dbg:(x == ("__debug__" : Str))=false/\(slf == ("__debug__" : Str))=false)
 (par:∃ar:Arg,(fd.params.posonlyargs++fd.params.args).head?=some ar/\ar.arg=slf)
 (bind:∀(a b:Value),bindArgs fd ⟨[a,b],[]⟩=pure [(slf,a),(x,b)])
 (cell:∀z∈fd.scope.names,z.2≠.cell) (loc1:fd.scope.names.lookup slf=some .local) (loc2:fd.scope.names.lookup x=some .local)
 (flags:fd.scope.isCoroutine=false/\fd.scope.isGenerator=false/\fd.scope.kind=.function)
 (kinds:∀L,(callEnv fd L fI).kindOf "super"=some .globalImplicit/\(callEnv fd L fI).kindOf "__class__"=some .free/\(callEnv fd L fI).kindOf slf=some .local/\(callEnv fd L fI).kindOf x=some .local)
 (file:∃vs fl tf,ocd.data=.fields vs/\vs[2]?=some (.str fl tf)/\((prog.main.file:Str) == fl)=true)
 (top:(prog.main.scope.names.lookup ("super" : Str)).isSome=false) (glob:∀L,(callEnv fd L fI).globals=mainGlobals) (blt:∀L,(callEnv fd L fI).builtins=builtinsNs)
 (ccl:∀L,(callEnv fd L fI).cells.lookup ("__class__" : Str)=some cc):XI prog w K C N fI bm slf x nm J fd where
 cls:=⟨⟨nm0,q,bs,hdct,sn,sub,ab,col,dd,k0,k1,k2,k3,k5,lk⟩,fun h X=>zni X (fun A tl=>by simp) t1,opq,self⟩
 inC:=inC
 set:=st
 und:=und
 tak:=tak
 hasD:=hasD
 fn:=⟨_,lf,rfl,rfl⟩
 names:=let ⟨m,a,b⟩:=ns_K sN;⟨m,a,b _ _ i⟩
 code:=fun h X=>codeRec_of X cdi
 body:=body
 ne:=ne
 dbg:=dbg
 par:=par
 bind:=fun s a b=>.of_eq (bind a b)
 cell:=cell
 loc1:=loc1
 loc2:=loc2
 flags:=flags
 kinds:=kinds
 file:=let ⟨vs,fl,tf,a,b,c⟩:=file;⟨cda,ocd,vs,fl,tf,hc,lc,a,b,c⟩
 top:=top
 glob:=glob
 blt:=blt
 cc:=⟨cc,ccl,fun h X=>⟨_,X _ _ lcc,occd⟩⟩
end EX
namespace EX
open PySem PySem.Spec PyProof.Rows L2
structure XG (K:W.Frag)(C:Addr)(f:Str):Prop where
 ga:PySem.W.findIn K (.ref C) "__getattribute__"=some (some (.builtin "BaseException.__getattribute__"))
 gt:PySem.W.findIn K (.ref C) "__getattr__"=some none
 bm:PySem.W.mroIn K C (.type "BaseException")=some true
 no:PySem.W.findIn K (.ref C) f=some none
 hd:PySem.W.hasDictIn K C=true
theorem znk {v:V}{u:Value}(r:RelV v u):PySem.W.handedIn u=true:=by
 cases v <;> (first | (obtain rfl:=r;rfl) | (obtain⟨_,rfl⟩:=r;rfl))
section
variable {X:Cx}{pins:List (Addr×Obj)}{σ:L2.St}{H:Hp}{s:Shared}{A:Around}{E:Value->Shared->Prop}{C a d:Addr}{oa od:Obj}{f:Str}{fs:List (Str×V)}{v:V}{expr:Bool}{Q:Value->Shared->Prop}
theorem zjj (I:Inv X pins σ H s)(c:XG X.K C f)(ha:H a=some (.frz oa X0))(hc:oa.cls=.ref C)(hn:PySem.W.notCls oa=true)(hdd:oa.dict=some d)(hd:H d=some (.frz od (.xd fs)))(hv:fs.lookup f=some v)
 (hq:∀u tk,RelV v u->Q u {s with toks:=tk}):wpAny (model X.prog X.w) A (getAttr (.ref a) f expr) Q E s:=by
 obtain⟨e1,_⟩:=I.hok a _ ha;obtain⟨e2,mA,⟨o',es,ep,e3,e4,e5,e6,e7⟩,r⟩:=I.hok d _ hd;obtain rfl:o'=od:=wav (e3.symm.trans e2);have rv:=r f
 rw[hv] at rv;cases hm:mA f with
 | none=>rw[hm] at rv;exact rv.elim
 | some u=>
   rw[hm] at rv;have rv:RelV v u:=rv
   have lk:PySem.W.lookIn f o'=some (some u):=by
    have e8:=(e7 f).trans hm
    unfold PySem.W.lookIn;rw[e4];dsimp only;unfold nsFind findBy at e8;obtain⟨es⟩:=es;rw[List.find?_toArray] at e8;obtain⟨en,z1,z2⟩:=wcb.mp e8;have z1:List.find? (fun e:DictEntry=>e.key.isStr f) es=some en:=z1
    rw[z1];dsimp only;rw[z2]
   have J:PySem.W.InstAt s.heap a oa C (some o'):=⟨e1,hc,hn,by rw[hdd];exact e2⟩
   obtain⟨cd,hcd,hh⟩:=PySem.W.any_some c.hd;have hf:PySem.W.findObj X.K C (some o') f=some (.value u):=by
    unfold PySem.W.findObj;rw[hcd,zOB,c.no,zOB];simp[PySem.W.ownOf,hh,lk]
   obtain⟨h,g,dd,t,os⟩:=s;exact zlm I.kIn J c.ga c.gt c.bm hf (znk rv) (hq u _ rv)
def zgc (H:Hp)(a C:Addr)(fs:List (Str×V)):Prop:=∃oa d od,H a=some (.frz oa X0)/\oa.cls=.ref C/\PySem.W.notCls oa=true/\oa.dict=some d/\H d=some (.frz od (.xd fs))
def zoo (K:W.Frag)(ta:TE)(f:Str):TE:=fun σ H Q=>ta σ H fun x H1=>∃a C fs v,x=.ref a/\zgc H1 a C fs/\XG K C f/\fs.lookup f=some v/\Q v H1
theorem zln {e:Expr}{pos:Pos}{ta:TE}(he:PE X e ta)(hb:attributeBase e f X.env (eval e X.env)=eval e X.env):PE X (.Attribute e f pos) (zoo X.K ta f):=by
 intro pins s σ H Q I h;refine zks hb (thn (he pins s σ H _ I h) fun u s1 ⟨x,H1,I1,rx,a,C,fs,v,ex,⟨oa,d,od,h1,h2,h3,h4,h5⟩,c,l,q⟩ =>?_);subst ex;obtain rfl:u=Value.ref a:=rx;exact zjj I1 c h1 h2 h3 h4 h5 l fun u' tk ru=>⟨v,H1,I1.tok tk,ru,q⟩
structure XK1 (K:W.Frag)(C:Addr):Prop where
 ga:PySem.W.findIn K (.ref C) "__getattribute__"=some (some (.builtin "BaseException.__getattribute__"))
 gt:PySem.W.findIn K (.ref C) "__getattr__"=some none
 bm:PySem.W.mroIn K C (.type "BaseException")=some true
 om:PySem.W.mroIn K C (.type "object")=some true
 hd:PySem.W.hasDictIn K C=true
 cl:PySem.W.findIn K (.ref C) "__class__"=some (some (.builtin "object.__class__"))
 sg:PySem.W.specialIn K (.builtin "object.__class__") "__get__"=some (some (.builtin "getset_descriptor.__get__"))
 tk:PySem.W.takesIn K (.builtin "object.__class__")=some true
theorem zhY (I:Inv X pins σ H s)(c:XK1 X.K C)(hc:zgc H a C fs){cv:Value}{b:Bool}(e:PySem.W.kitOne X.K (.ref C) cv=some b)(hq:∀tk,Q (.bool b) {s with toks:=tk}) :
 wpAny (model X.prog X.w) A (call (.builtin "isinstance") [.ref a,cv]) Q E s:=by
 obtain⟨oa,d,od,h1,h2,h3,h4,h5⟩:=hc;obtain⟨e1,_⟩:=I.hok a _ h1;obtain⟨e2,_⟩:=I.hok d _ h5;have J:PySem.W.InstAt s.heap a oa C (some od):=⟨e1,h2,h3,by rw[h4];exact e2⟩
 have hf:PySem.W.findObj X.K C (some od) "__class__"=some (.bind (.builtin "getset_descriptor.__get__") (.builtin "object.__class__")):=
  PySem.W.findObj_data (by obtain⟨cd,hc,_⟩:=PySem.W.any_some c.hd;rw[hc];rfl) c.cl c.sg c.tk
 exact waH (zji c.ga c.gt c.bm c.om c.hd hf) I.kIn J e (fun z=>nomatch z) hq
end
end EX
namespace VD
open PySem PySem.Spec PyProof PyProof.Rows L2 EX
def XAtD (K:W.Frag)(H:Hp)(J:Addr->Prop)(x:D)(cls:Value)(dx:Option Addr):Prop:=
 ∃c ns ds C,x=.exc c ns ds/\W.nsIn K mainGlobals c=some (some (.ref C))/\cls=.ref C/\
  ((dx=none/\ns = []/\ds = [])\/∃d vs,dx=some d/\¬J d/\H d=some (.xd (ns.zip vs))/\ns.length=vs.length/\RpL K H J vs ds)
def WantsX (K:W.Frag)(H:Hp)(J:Addr->Prop)(x:D)(E:XK):Prop:=
 ∀H' J' cls dx,Up H J H' J'->XAtD K H' J' x cls dx->(∀d,dx=some d->H d=none)->E cls dx H'
def FitsX (K:W.Frag)(Hz:Hp)(Jz:Addr->Prop)(O:Pr)(x:D)(E:XK):Prop:=
 ∀ρ' σ' H' J' cls dx,ST K Hz Jz O ρ' σ' H' J'->XAtD K H' J' x cls dx->(∀d,dx=some d->Hz d=none)->E cls dx H'
section
variable {K:W.Frag}{H H' H1 Hz:Hp}{J J' J1 Jz:Addr->Prop}{O:Pr}{ρ:En}{σ:L2.St}{x:D}{E:XK}
theorem ST.h0 (s:ST K Hz Jz O ρ σ H J){b:Addr}(h:H b=none):Hz b=none:=by
 cases e:Hz b with
 | none=>rfl
 | some o=>exact absurd h (s.al b (by rw[e];simp))
theorem FitsX.wants (f:FitsX K Hz Jz O x E)(s:ST K Hz Jz O ρ σ H J):WantsX K H J x E:=fun H' J' cls dx u a n=>
 f ρ σ H' J' cls dx (s.up u) a fun d e=>s.h0 (n d e)
theorem WantsX.up (w:WantsX K H J x E)(u:Up H J H1 J1):WantsX K H1 J1 x E:=fun H' J' cls dx u' a n=>
 w H' J' cls dx (u.trans u') a fun d e=>u.same.free (n d e)
theorem ST.unset {i:Nat}(s:ST K Hz Jz O ρ σ H J)(hp:∀n d,ρ[i]?≠some (.par n d)):ST K Hz Jz O (ρ.set i .un) (σ.set i none) H J where
 same:=s.same
 j0:=s.j0
 jn:=s.jn
 ja:=s.ja
 len:=by simp[s.len]
 vl:=fun j e h=>by
  rcases zb5 h with⟨rfl,he⟩ | ⟨ne,h⟩
  ·cases he
  ·rw[wad (Ne.symm ne)];exact s.vl j e h
 ow:=by
  obtain⟨fp,w⟩:=s.ow;refine⟨_,w.put (i:=i) (A:=[]) Keep.refl (fun _ _ _ _ _ h=>h) (fun j _=>w.nj j) (fun j e=>wad (Ne.symm e)) (fun j e=>wad (Ne.symm e)) ?_ wba (by simp) (by simp)⟩;by_cases hi:i<ρ.length
  ·rw[waq hi];rfl
  ·have z:(List.set ρ i SV.un)[i]?=none:=waL (by simp;omega)
   rw[z];rfl
 ps:=fun q hq=>by
  have e:=s.psNe hp q hq
  rw[wad (Ne.symm e),wad (Ne.symm e)];exact s.ps q hq
 al:=s.al
end
def GoQ (K:W.Frag)(t:TEX)(f:FE):Prop:=∀Hz Jz O ρ σ H J x Q E,ST K Hz Jz O ρ σ H J->f ρ=some x->WantsX K H J x E->t σ H Q E
def VQ (X:Cx)(e:Expr)(f:FE):Prop:=∃t,PEX X e t/\GoQ X.K t f
def spX (K:W.Frag)(F:List D->Option D):Sp:=fun vs H _ E=>∃J ds x,(∀a,J a->H a≠none)/\RpL K H J vs ds/\F ds=some x/\WantsX K H J x E
structure CalX (P:Program)(w:World)(K:W.Frag)(mg:Str->Option Value)(base:Heap)(k:Nat)(x:Str)(ps:List Str)(sp:Sp):Prop where
 ex:∃(f:Addr) (fd:FuncData),FnOk P w K mg base (CXE P w) k f fd ps sp/\Binds K fd ps []/\W.keepIn K (.ref f)=true/\mg x=some (.ref f)
theorem zdh {P:Program}{w:World}{K:W.Frag}{mg:Str->Option Value}{base:Heap}{k:Nat}{x:Str}{ps:List Str}{sp:Sp}{f:Addr}{fd:FuncData}(h:FnOk P w K mg base (CXE P w) k f fd ps sp)(b:Binds K fd ps [])(c:W.keepIn K (.ref f)=true)(d:mg x=some (.ref f)) :
 CalX P w K mg base k x ps sp:=⟨f,fd,h,b,c,d⟩
section
variable {X:Cx}{k k':Nat}{x:Str}{ps:List Str}{F:List D->Option D}{e:Expr}{es:List Expr}{fl:FA}{f:FE}{p pos:Pos}
theorem zec (C:CalX X.prog X.w X.K X.mg X.base k x ps (spX X.K F))(hr:Room k' X.A)(ha:VA X.nox (e::es) fl)(hk:k<=k':=by decide)(hg:Gl X x:=by rfl)(hdb:(x == ("__debug__" : Str))=false:=by decide)
 (he:starEach (e::es) X.env=(false,eval e X.env)::starEach es X.env:=by rfl) (hpl:(backTo pos (starEach es X.env)).any (·.1)=false:=by rfl):VQ X (.Call (.Name x p) (e::es) [] pos) (eCall F fl):=by
 obtain⟨f,fd,a,b,c,d⟩:=C.ex;obtain⟨t,p,g⟩:=ha;refine⟨_,zjg (a.mono hk) hr hg d c b .nil p hdb he hpl,?_⟩;intro Hz Jz O ρ σ H J x Q E s e w;obtain⟨ds,e1,e⟩:=bind_some e;refine g Hz Jz O ρ σ H J ds _ s e1 fun vs H1 J1 u1 r1=>?_
 exact⟨J1,ds,x,u1.ja,by rw[waF];exact r1,e,w.up u1⟩
theorem zeV {t:TEX}{E:XK}(h:PEX X e t)(L:Leaves X E):PE X e (fun σ H Q=>t σ H Q E):=fun pins s σ H Q I hw=>
 waz (h pins s σ H Q E I hw) (fun _ _ q=>q) fun e s' ⟨H1,s1,I1,hc⟩ =>L.passes pins σ H1 s1 e s' I1 hc
end
def FitsR (K:W.Frag)(Hz:Hp)(Jz:Addr->Prop)(O:Pr)(H:Hp)(J:Addr->Prop)(D:Ends)(E:XK):Out->Prop
 | .nx ρ'=>∀σ' H' J',ST K Hz Jz O ρ' σ' H' J'->Keep K H J H' J'->D.nx σ' H'
 | .bk ρ'=>∀σ' H' J',ST K Hz Jz O ρ' σ' H' J'->Keep K H J H' J'->D.bk σ' H'
 | .ct ρ'=>∀σ' H' J',ST K Hz Jz O ρ' σ' H' J'->Keep K H J H' J'->D.ct σ' H'
 | .ret (.told x) _=>FitsX K Hz Jz O x E
 | .ret (.new _ _) _=>False
theorem FitsR.keep {K:W.Frag}{Hz:Hp}{Jz:Addr->Prop}{O:Pr}{H H1:Hp}{J J1:Addr->Prop}{D:Ends}{E:XK}(k:Keep K H J H1 J1):∀{o:Out},FitsR K Hz Jz O H J D E o->FitsR K Hz Jz O H1 J1 D E o
 | .nx _,h=>fun σ' H' J' s q=>h σ' H' J' s (k.trans q)
 | .bk _,h=>fun σ' H' J' s q=>h σ' H' J' s (k.trans q)
 | .ct _,h=>fun σ' H' J' s q=>h σ' H' J' s (k.trans q)
 | .ret (.told _) _,h=>h
 | .ret (.new _ _) _,h=>h
def GoRz (K:W.Frag)(E:XK)(t:TS)(g:FS):Prop:=∀Hz Jz O ρ σ H J o D,ST K Hz Jz O ρ σ H J->g ρ=some o->FitsR K Hz Jz O H J D E o->t D σ H
def VRS (X:Cx)(E:XK)(st:Stmt)(g:FS):Prop:=∃t,PS X st t/\GoRz X.K E t g
def VRs (X:Cx)(E:XK)(sts:List Stmt)(g:FS):Prop:=∃t,PSs X sts t/\GoRz X.K E t g
def zgD (g:FS):Prop:=∀ρ r ρ',g ρ≠some (.ret r ρ')
section
variable {X:Cx}{E:XK}{st:Stmt}{sts:List Stmt}{g g2:FS}{pos:Pos}{e a:Expr}{fa:FE}{fl:FA}{ft:FT}
theorem znl {i:Nat}:zgD (gSet i fa):=fun ρ r ρ' e=>by
 obtain⟨a,_,e⟩:=bind_some e;split at e <;> cases e
theorem znm {i:Nat}:zgD (gOwn i fl):=fun ρ r ρ' e=>by
 obtain⟨a,_,e⟩:=bind_some e;split at e <;> cases e
theorem znn {i:Nat}:zgD (gApp i fa):=fun ρ r ρ' e=>by
 obtain⟨a,_,e⟩:=bind_some e;split at e
 ·split at e <;> cases e
 ·cases e
theorem zop:zgD (gEx fa):=fun ρ r ρ' e=>by
 obtain⟨a,_,e⟩:=bind_some e;cases e
theorem zno {fg:FG}:zgD (gAsg fa fg):=fun ρ r ρ' e=>by
 obtain⟨a,_,e⟩:=bind_some e;obtain⟨b,_,e⟩:=bind_some e;cases e
theorem znp (h:VS X st g)(n:zgD g:=by first | exact znl | exact znm | exact znn | exact zop | exact zno):VRS X E st g:=by
 obtain⟨t,p,q⟩:=h;refine⟨t,p,fun Hz Jz O ρ σ H J o D s e w=>q Hz Jz O ρ σ H J o D s e ?_⟩;cases o with
 | ret r ρ'=>exact absurd e (n ρ r ρ')
 | _=>exact w
theorem zjk:VRS X E st gNo:=⟨_,zfH,fun Hz Jz O ρ σ H J o D s e w=>by cases e⟩
theorem zhZ:VRs X E [] gNx:=⟨_,zgO,fun Hz Jz O ρ σ H J o D s e w=>by cases e;exact w σ H J s Keep.refl⟩
theorem zh0 {K:W.Frag}{t u:TS}(h1:GoRz K E t g)(h2:GoRz K E u g2):GoRz K E (tSeq t u) (gSeq g g2):=by
 intro Hz Jz O ρ σ H J o D s e w;obtain⟨o1,e1,e⟩:=bind_some e;refine h1 Hz Jz O ρ σ H J o1 _ s e1 ?_;cases o1 with
 | nx ρ'=>exact fun σ' H' J' s' k=>h2 Hz Jz O ρ' σ' H' J' o D s' e (w.keep k)
 | bk ρ'=>cases e;exact w
 | ct ρ'=>cases e;exact w
 | ret d ρ'=>cases e;cases d <;> exact w
theorem zc1 (h1:VRS X E st g)(h2:VRs X E sts g2):VRs X E (st::sts) (gSeq g g2):=by
 obtain⟨t,p,q⟩:=h1;obtain⟨u,p2,q2⟩:=h2;exact⟨_,zdP p p2,zh0 q q2⟩
theorem zh1 (h:VRS X E st g):VRs X E [st] g:=let ⟨t,p,q⟩:=h;⟨t,zgP p,q⟩
theorem zgd (h:VRS X E st g):VRs X E (st::sts) (gSeq g gNo):=by
 obtain⟨t,p,q⟩:=h;have nv:∀sts:List Stmt,PSs X sts zjK:=fun sts _ _ _ _ _ _ h=>h.elim
 exact⟨_,zdP p (nv sts),zh0 q fun Hz Jz O ρ σ H J o D s e w=>by cases e⟩
theorem zjl (is:List Nat)(h:VRs X E sts g):VRs X E sts (zk2 is g):=by
 obtain⟨t,p,q⟩:=h;exact⟨t,p,fun Hz Jz O ρ σ H J o D s e w=>q Hz Jz O _ σ H J o D (s.dropE is) e w⟩
theorem zoq {c:Expr}{bs os:List Stmt}(hc:VT X c ft)(ha:VRs X E bs g)(hb:VRs X E os g2):VRS X E (.If c bs os pos) (gIf ft g g2):=by
 obtain⟨tc,pc,qc⟩:=hc;obtain⟨t,p,q⟩:=ha;obtain⟨u,p2,q2⟩:=hb;refine⟨_,zl4 pc p p2,fun Hz Jz O ρ σ H J o D s e w=>?_⟩;obtain⟨k,e1,e⟩:=bind_some e;refine qc Hz Jz O ρ σ H J k _ s e1 fun H1 J1 u1=>?_
 cases k with
 | true=>exact iteT (q Hz Jz O ρ σ H1 J1 o D (s.up u1) e (w.keep u1.keep))
 | false=>exact iteF (q2 Hz Jz O ρ σ H1 J1 o D (s.up u1) e (w.keep u1.keep))
theorem znq {tg iter:Expr}{body:List Stmt}{is:List Nat}{fg:FG}{fi:FA}(hi:VI X tg iter fi)(hg:VG X tg is fg)(hb:VRs X E body g)(hp:PassesOwn (model X.prog X.w) X.A X.env X.xe:=by exact PassesOwn.leaving)(hc:X.calm=true:=by rfl)
 (hs:∀x,foldedSetIterable iter X.env x=pure x:=by intro _;rfl):VRS X E (.For tg iter body [] pos) (gFor fi fg g):=by
 obtain⟨wi,p1,q1⟩:=hi;obtain⟨t,p2,q2⟩:=hg;obtain⟨tb,p3,q3⟩:=hb;refine⟨_,zjN hp hc p1 p2 p3 hs,?_⟩;intro Hz Jz O ρ σ H J o D s e w;obtain⟨ds,e1,e⟩:=bind_some e;refine q1 Hz Jz O ρ σ H J ds _ s e1 fun I H1 J1 u1 src=>?_
 refine⟨fun i m σ' H'=>m=ds.length - i/\i<=ds.length/\∃ρ' J',ST X.K Hz Jz O ρ' σ' H' J'/\Keep X.K H1 J1 H' J'/\forL fg g (ds.drop i) ρ'=some o,⟨ds.length,by simp,wbo _,ρ,J1,s.up u1,Keep.refl,by simpa using e⟩,?_⟩;rintro i m σ2 H2 ⟨rfl,hil,ρ2,J2,s2,k2,e2⟩;obtain⟨stop,turn⟩:=src H2 J2 k2 s2.ja;by_cases hlt:i<ds.length
 ·right
  have hd:ds[i]?=some ds[i]:=wap hlt
  generalize hdd:ds[i]=d at hd;obtain⟨go,yl⟩:=turn i d hd;have edrop:ds.drop i=d::ds.drop (i+1):=by rw[<-hdd];exact(wby hlt).symm
  rw[edrop] at e2;unfold forL at e2;obtain⟨ρ3,eg,e2⟩:=bind_some e2;obtain⟨ob,eb,e2⟩:=bind_some e2;refine⟨go,fun σ' H'=>∃ρ' J',ST X.K Hz Jz O ρ' σ' H' J'/\Keep X.K H1 J1 H' J'/\forL fg g (ds.drop (i+1)) ρ'=some o,fun σ' H' h=>⟨ds.length - (i+1),by omega,rfl,hlt,h⟩,fun x H3 y=>?_⟩;obtain⟨J3,u3,r3⟩:=yl x H3 y;refine q2.2 Hz Jz O ρ2 σ2 H3 J3 x d ρ3 _ (s2.up u3) r3 eg fun σ4 s4=>?_
  refine q3 Hz Jz O ρ3 σ4 H3 J3 ob _ s4 eb ?_;have k3:=k2.trans u3.keep
  cases ob with
  | nx ρ5=>exact fun σ5 H5 J5 s5 k5=>⟨ρ5,J5,s5,k3.trans k5,e2⟩
  | ct ρ5=>exact fun σ5 H5 J5 s5 k5=>⟨ρ5,J5,s5,k3.trans k5,e2⟩
  | bk ρ5=>cases e2;exact fun σ5 H5 J5 s5 k5=>w σ5 H5 J5 s5 ((u1.keep.trans k3).trans k5)
  | ret d ρ5=>cases e2;cases d <;> exact w
 ·left
  have hi':i=ds.length:=by omega
  subst hi';rw[wck] at e2;cases e2;exact⟨stop,w σ2 H2 J2 s2 (u1.keep.trans k2)⟩
theorem zh2 (h:VQ X e fa)(L:Leaves X E):VRS X E (.Return (some e) pos) (gRet fa):=by
 obtain⟨t,p,q⟩:=h;refine⟨_,zgQ (zeV p L),?_⟩;intro Hz Jz O ρ σ H J o D s e w;obtain⟨x,e1,e⟩:=bind_some e;cases e;exact q Hz Jz O ρ σ H J x _ E s e1 (FitsX.wants w s)
theorem zlo (i:Nat){x:Str}{pos':Pos}(hN:X.N.Nodup)(h:VQ X e fa)(L:Leaves X E)(hi:X.N[i]?=some x:=by rfl)(hx:Loc X.env.scope x:=by first | exact Or.inl rfl | exact Or.inr rfl)(hs:swapsWith e (some (.Name x pos')) pos.line X.env=pure false:=by rfl)
 (hf:X.fn x=true\/X.env.scope.names.lookup x=some .local:=by first | exact .inl rfl | exact .inr rfl | assumption):VRS X E (.Assign [.Name x pos'] e pos) (gRet fa):=by
 obtain⟨t,p,q⟩:=h;refine⟨_,zeu hN hi hx (zeV p L) hs hf,?_⟩;intro Hz Jz O ρ σ H J o D s e w;obtain⟨x,e1,e⟩:=bind_some e;cases e;exact q Hz Jz O ρ σ H J x _ E s e1 (FitsX.wants w s)
end
structure XCl (P:Program)(w:World)(K:W.Frag)(mg:Str->Option Value)(c nm:Str)(ok:D->Bool):Prop where
 sup:mg "super"=none
 ex:∃C N fI bm slf x J fd,XI P w K C N fI bm slf x nm J fd/\mg c=some (.ref C)/\W.nsIn K mainGlobals c=some (some (.ref C))/\W.keepIn K (.ref C)=true/\bm.contains (.type "BaseException")=true/\
  ∀(h:Heap) (u:Value) (d:D),ok d=true->ndD d=true/\(Rh h u d->Says P w K fd fI x J u h)
def rz (c nm:Str)(ok:D->Bool)(d:D):Option D:=if ok d then some (.exc c [nm] [d]) else none
def eRz (c nm:Str)(ok:D->Bool)(f:FE):FE:=fun ρ=>(f ρ).bind (rz c nm ok)
section
variable {X:Cx}{E:XK}{c nm:Str}{ok:D->Bool}{e:Expr}{fa:FE}{k:Nat}{np cp pos:Pos}
theorem zjm (cl:XCl X.prog X.w X.K X.mg c nm ok)(hr:Room (k+1) X.A)(hL:Leaves X E)(ha:VE X e fa)(hg:Gl X c:=by rfl)
 (hdb:(c == ("__debug__" : Str))=false:=by decide) (he:starEach [e] X.env=(false,eval e X.env)::starEach [] X.env:=by rfl):VRS X E (.Raise (some (.Call (.Name c np) [e] [] cp)) none pos) (gRet (eRz c nm ok fa)):=by
 obtain⟨C,N,fI,bm,slf,x,J,fd,xi,hm,hn,hk,hB,says⟩:=cl.ex;obtain⟨t,p,g⟩:=zac ha zah he;refine⟨_,zjd (SJ:=fun v H=>∃J d,Rp X.K H J v d/\ok d=true) xi cl.sup hg hm hk hB hr hL p ?_ hdb he,?_⟩
 ·rintro pins σ H s v u I r ⟨J,d,rv,hok⟩;exact(says s.heap u d hok).2 (Rp.rh I rv (says s.heap u d hok).1 r)
 intro Hz Jz O ρ σ H J o D s e w;obtain⟨y,e1,e⟩:=bind_some e;cases e;obtain⟨d,e0,e2⟩:=bind_some e1;unfold rz at e2;by_cases hok:ok d=true
 ·rw[if_pos hok] at e2;cases e2;have e3:aCons fa aNil ρ=some [d]:=by unfold aCons;rw[e0];rfl
  refine g Hz Jz O ρ σ H J [d] _ s e3 fun vs H1 J1 u1 r1=>?_
  obtain⟨v,rfl,rv⟩:=r1.one;refine⟨v,rfl,⟨J1,d,rv,hok⟩,fun dx hdx=>?_⟩;have un:=Up.new u1.ja hdx (.xd [(nm,v)])
  have s1:=s.up u1
  exact w ρ σ _ J1 _ _ (s1.up un) ⟨c,[nm],[d],C,rfl,hn,rfl,.inr ⟨dx,[v],rfl,fun j=>u1.ja dx j hdx,zaf,rfl,.cons (rv.keep un.keep) .nil⟩⟩ fun b z=>by cases z;exact s1.h0 hdx
 ·rw[if_neg hok] at e2;cases e2
end
def kX:Out->Option D
 | .ret (.told d) _=>some d
 | _=>none
theorem zeW {P:Program}{w:World}{K:W.Frag}{mg:Str->Option Value}{base:Heap}{x qual:Str}{st:Stmt}{f:Addr}{fd:FuncData}{N ps:List Str}{k:Nat}{c:List D->Option D}(F:Fun K x qual st f fd)(S:FnScope N ps (zab st))(hlen:∀ds d,c ds=some d->ds.length=ps.length)
 (hbody:∀(cdv:Value) (A:Around) (outer:List Env) (s:Shared) (H:Hp) (E:XK),Room k (A.deeper (envOfC qual (zab st) s.heap.objs.size f cdv))->Leaves (cxOf (CXE P w) P w K mg base N qual (zab st) f cdv A outer s H E) E->
  ∃g,VRs (cxOf (CXE P w) P w K mg base N qual (zab st) f cdv A outer s H E) E (zaB st) g/\∀ds,ds.length=ps.length->EvS kX some g (ds.map SV.val++List.replicate (N.length - ps.length) .un) (c ds)):FnOk P w K mg base (CXE P w) (k+1) f fd ps (spX K c):=by
 obtain⟨oc,od,kV,doc,pm,an,cdv,ct,osl,rfl,lk,hcd⟩:=F.ex;refine zkv lk hcd S (fun vs H Q E h=>?_) fun A outer s H vs Q E hr h=>?_
 ·obtain⟨J,ds,d,ja,r,e,w⟩:=h;rw[r.length];exact hlen ds d e
 ·obtain⟨J,ds,d,ja,r,e,w⟩:=h;have hl:=hlen ds d e
  obtain⟨g,⟨t,p,q⟩,ev⟩:=hbody cdv A outer s H E hr zhT;refine⟨t,p,?_⟩;have e:=ev ds hl d (by rw[e];rfl)
  rw[<-hl] at e;have s0:=zd0 (N:=N) ja r
  cases z:g (ds.map SV.val++List.replicate (N.length - ds.length) .un) with
  | none=>rw[z] at e;cases e
  | some o=>
    rw[z] at e;refine q H J Pr.no _ _ H J o _ s0 z ?_;cases o with
    | ret r ρ'=>
      cases r with
      | told d'=>cases e;exact fun ρ' σ' H' J' cls dx s' x' n'=>w H' J' cls dx s'.out x' n'
      | new n d'=>cases e
    | _=>cases e
section
variable {X:Cx}{body ss:List Stmt}{e:Expr}{pos:Pos}{f fx:FE}{ft:FT}
theorem znr {t:TS}(h:PSs X.nox ss t):PSX X ss (fun D _ σ H=>t D σ H):=fun pins s σ H D E I hw=>
 waz (h pins s σ H D (zhU I) hw) (fun fl s' q=>by
  cases fl with
  | next=>obtain⟨σ',H',J,q⟩:=q;exact⟨σ',H',zdG J,q⟩
  | brk=>obtain⟨σ',H',J,q⟩:=q;exact⟨σ',H',zdG J,q⟩
  | cont=>obtain⟨σ',H',J,q⟩:=q;exact⟨σ',H',zdG J,q⟩
  | ret u=>obtain⟨v,σ',H',J,r,q⟩:=q;exact⟨v,σ',H',zdG J,r,q⟩) fun _ _ z=>z.elim
def VXB (X:Cx)(ss:List Stmt)(gx:FE):Prop:=∃t,PSX X ss t/\∀Hz Jz O ρ σ H J x D E,ST X.K Hz Jz O ρ σ H J->gx ρ=some x->WantsX X.K H J x E->t D E σ H
theorem zjn (h:VQ X e f)(hs:swapsWith e none pos.line X.env=pure false:=by rfl):VXB X [.Expr e pos] f:=by
 obtain⟨t,p,q⟩:=h;exact⟨_,zjh p hs,fun Hz Jz O ρ σ H J x D E s e w=>q Hz Jz O ρ σ H J x _ E s e w⟩
def zdi (cs:List Str):D->Bool
 | .exc c _ _=>cs.contains c
 | _=>false
structure XTy (K:W.Frag)(mg:Str->Option Value)(T:Str)(cs:List Str):Prop where
 ex:∃CT,mg T=some (.ref CT)/\PySem.W.mroIn K CT (.type "BaseException")=some true/\PySem.W.typeIn K (.ref CT)=some (.type "type")/\∀c C,c∈cs->W.nsIn K mainGlobals c=some (some (.ref C))->PySem.W.mroIn K C (.ref CT)=some true
def unO (i:Nat):Out->Option Out
 | .nx ρ=>if isPar (ρ[i]?)=false then some (.nx (ρ.set i .un)) else none
 | .bk ρ=>if isPar (ρ[i]?)=false then some (.bk (ρ.set i .un)) else none
 | .ct ρ=>if isPar (ρ[i]?)=false then some (.ct (ρ.set i .un)) else none
 | .ret r ρ=>some (.ret r ρ)
def gTry (cs:List Str)(i:Nat)(gx:FE)(gb gh:FS):FS:=fun ρ=>match gx ρ with
 | some x=>if zdi cs x&&okS i ρ then(gh (ρ.set i (.val x))).bind (unO i) else none
 | none=>gb ρ
theorem zlp {K:W.Frag}{H H' H2:Hp}{J J':Addr->Prop}{x:D}{cls:Value}{dx:Option Addr}{a:Addr}{oa:Obj}(ja:∀a,J a->H a≠none)(u:Up H J H' J')(at':XAtD K H' J' x cls dx)(fr:∀d,dx=some d->H d=none)(ha:H' a=none)(hc:oa.cls=cls)(hd:oa.dict=dx)(hn:PySem.W.notCls oa=true)(h:Held H' a oa H2) :
 ∃J2,Up H J H2 J2/\Rp K H2 J2 (.ref a) x:=by
 obtain⟨c,ns,ds,C,rfl,hns,rfl,hx⟩:=at';rcases hx with⟨rfl,rfl,rfl⟩ | ⟨d,vs,rfl,njd,hxd,hl,rl⟩
 ·rcases h with⟨hd',rfl⟩ | ⟨d,od,fs,hd',_,_⟩
  ·refine⟨fun b=>J' b\/b=a,⟨u.same.trans (zdU ha _),fun b h=>.inl (u.jj b h),fun b h=>?_,fun b h=>?_⟩,.exc ⟨.inr rfl,oa,C,hns,zaf,hc,hn,.inl ⟨rfl,rfl,hd⟩⟩ .nil⟩
   ·rcases h with h | rfl
    ·exact u.jn b h
    ·exact .inr (u.same.free ha)
   ·by_cases z:b=a
    ·subst z;rw[zaf];simp
    ·rw[zae z];rcases h with h | h
     ·exact u.ja b h
     ·exact absurd h z
  ·rw[hd] at hd';cases hd'
 ·rcases h with⟨hd',_⟩ | ⟨d',od,fs,hd',hf,rfl⟩
  ·rw[hd] at hd';cases hd'
  ·obtain rfl:d=d':=wav (hd.symm.trans hd');rw[hxd] at hf;cases hf;have hda:d≠a:=by rintro rfl;rw[hxd] at ha;cases ha
   have hHd:=fr d rfl
   have hne:∀b o,b≠a->b≠d->H' b=o->(upd (upd H' a (.frz oa X0)) d (.frz od (.xd (ns.zip vs)))) b=o:=fun b o h1 h2 h3=>by rw[zae h2,zae h1];exact h3
   have kp:Keep K H' J' (upd (upd H' a (.frz oa X0)) d (.frz od (.xd (ns.zip vs)))) (fun b=>J' b\/b=a\/b=d):=⟨fun _ h=>.inl h,fun p o j h=>hne p _ (fun z=>by subst z;rw[ha] at h;cases h) (fun z=>by subst z;exact njd j) h,fun p us h=>by
    have sm:∀o,H' p=some o->(∀fs,o≠.xd fs)->(upd (upd H' a (.frz oa X0)) d (.frz od (.xd (ns.zip vs)))) p=some o:=fun o h hx=>hne p _ (fun z=>by subst z;rw[ha] at h;cases h) (fun z=>by subst z;rw[hxd] at h;cases h;exact hx _ rfl) h
    rcases h with(h | ⟨o,h⟩) | h
    ·exact .inl (.inl (sm _ h fun _ z=>by cases z))
    ·exact .inl (.inr ⟨o,sm _ h fun _ z=>by cases z⟩)
    ·exact .inr h⟩
   refine⟨fun b=>J' b\/b=a\/b=d,⟨fun b o e=>?_,fun b h=>.inl (u.jj b h),fun b h=>?_,fun b h=>?_⟩,.exc ⟨.inr (.inl rfl),oa,C,hns,by rw[zae hda.symm,zaf];rfl,hc,hn,.inr ⟨d,od,hd,.inr (.inr rfl),zaf,hl⟩⟩ (rl.keep kp)⟩
   ·exact hne b _ (fun z=>by subst z;rw[u.same.free ha] at e;cases e) (fun z=>by subst z;rw[hHd] at e;cases e) (u.same b o e)
   ·rcases h with h | rfl | rfl
    ·exact u.jn b h
    ·exact .inr (u.same.free ha)
    ·exact .inr hHd
   ·by_cases z2:b=d
    ·subst z2;rw[zaf];simp
    ·rw[zae z2];by_cases z:b=a
     ·subst z;rw[zaf];simp
     ·rw[zae z];rcases h with h | h | h
      ·exact u.ja b h
      ·exact absurd h z
      ·exact absurd h z2
theorem zns {T n:Str}{tp hp:Pos}{suite:List Stmt}{b₀:Stmt}{cs:List Str}{gx:FE}{gb gh:FS}(i:Nat)(ty:XTy X.K X.mg T cs)(hN:X.N.Nodup)(hx:VXB X body gx)(hb:VSs X.nox body gb)(hh:∀e,VSs (inH X e) (b₀::suite) gh)
 (hg:Gl X T:=by rfl) (hi:X.N[i]?=some n:=by rfl) (hk:X.env.kindOf n=some .local:=by rfl) (hst:X.stack=X.env::X.outer:=by rfl) (hf:X.env.frame=some X.env.locals:=by rfl) (hdb:(T == ("__debug__" : Str))=false:=by decide) :
 VS X (.Try body [.ExceptHandler (some (.Name T tp)) (some n) (b₀::suite) hp] [] [] pos) (gTry cs i gx gb gh):=by
 obtain⟨CT,hm,hB,hT,hC⟩:=ty.ex;obtain⟨t1,p1,q1⟩:=hx;obtain⟨t2,p2,q2⟩:=hb;have pb:PSX X body (fun D E σ H=>t1 D E σ H\/t2 D σ H):=fun pins s σ H D E I h=>h.elim (p1 pins s σ H D E I) (znr p2 pins s σ H D E I)
 have ph:∀e,PSs (inH X e) (b₀::suite) (fun D σ H=>∀e,(hh e).choose D σ H):=fun e pins s σ H D I h=>(hh e).choose_spec.1 pins s σ H D I (h e)
 refine⟨_,znh hst hf hg hm hN hi hk hB hT pb ph hdb,?_⟩;intro Hz Jz O ρ σ H J o D s e w;unfold gTry at e;split at e
 ·rename_i x e1
  by_cases hq:(zdi cs x&&okS i ρ)=true
  ·rw[if_pos hq] at e;rw[waA] at hq;obtain⟨o1,e2,e⟩:=bind_some e;have hok:=zcj hq.2
   refine .inl (q1 Hz Jz O ρ σ H J x D _ s e1 fun H' J' cls dx u at' fr=>?_);have at0:=at'
   obtain⟨c,ns,ds,C,hxx,hns,hcl,hx⟩:=at';have hcc:c∈cs:=by
    have:=hq.1
    rw[hxx] at this;exact List.contains_iff_mem.mp this
   refine⟨⟨C,hcl,hC c C hcc hns⟩,fun d hd=>?_,fun a oa H2 ha hc' hd' hn' hh'=>?_⟩
   ·rcases hx with⟨z,_,_⟩ | ⟨d',vs,z,_,hxd,_,_⟩
    ·rw[hd] at z;cases z
    ·rw[hd] at z;cases z;exact⟨_,hxd⟩
   ·obtain⟨J2,u2,r2⟩:=zlp s.ja u at0 fr ha hc' hd' hn' hh';have s2:=(s.up u2).set r2 hok.1 (zaP hok.2)
    intro ev;refine(hh ev).choose_spec.2 Hz Jz O _ _ H2 J2 o1 (unset i D) s2 e2 ?_;cases o1 with
    | nx ρ'=>
      unfold unO at e;by_cases hp:isPar (ρ'[i]?)=false
      ·simp only[if_pos hp] at e;cases e;exact fun σ' H' J' s' k'=>w _ H' J' (s'.unset (zaP hp)) (u2.keep.trans k')
      ·simp only[if_neg hp] at e;cases e
    | bk ρ'=>
      unfold unO at e;by_cases hp:isPar (ρ'[i]?)=false
      ·simp only[if_pos hp] at e;cases e;exact fun σ' H' J' s' k'=>w _ H' J' (s'.unset (zaP hp)) (u2.keep.trans k')
      ·simp only[if_neg hp] at e;cases e
    | ct ρ'=>
      unfold unO at e;by_cases hp:isPar (ρ'[i]?)=false
      ·simp only[if_pos hp] at e;cases e;exact fun σ' H' J' s' k'=>w _ H' J' (s'.unset (zaP hp)) (u2.keep.trans k')
      ·simp only[if_neg hp] at e;cases e
    | ret r ρ'=>cases e;exact w
  ·rw[if_neg hq] at e;cases e
 ·exact .inr (q2 Hz Jz O ρ σ H J o D s e w)
end
def kU (i:Nat):Out->Option En
 | .nx ρ=>if isPar (ρ[i]?)=false then some (ρ.set i .un) else none
 | _=>none
theorem znt {S:Type}{cs:List Str}{i:Nat}{gx:FE}{gb gh:FS}{ρ:En}{emb:S->En}{h:D->Option S}{b:Option S}(hi:okS i ρ=true)(hh:∀x,EvS (kU i) (fun s=>some (emb s)) gh (ρ.set i (.val x)) (h x))(hb:gx ρ=none->EvS k0 (fun s=>some (emb s)) gb ρ b) :
 Step (gTry cs i gx gb gh) ρ (match gx ρ with | some x=>if zdi cs x then h x else none | none=>b) emb:=fun s z=>by
 unfold gTry;cases e:gx ρ with
 | some x=>
   rw[e] at z;dsimp only at z⊢;by_cases hc:zdi cs x=true
   ·rw[if_pos hc] at z;rw[if_pos (by rw[hc,hi];rfl)];obtain⟨o,e1,e2⟩:=zaa (hh x (emb s) (by rw[z];rfl));rw[e1,zOB];cases o with
    | nx ρ'=>
      unfold kU at e2;unfold unO;by_cases hp:isPar (ρ'[i]?)=false
      ·simp only[if_pos hp] at e2⊢;rw[wav e2]
      ·simp only[if_neg hp] at e2;cases e2
    | _=>cases e2
   ·rw[if_neg hc] at z;cases z
 | none=>
   rw[e] at z;obtain⟨o,e1,e2⟩:=zaa (hb e (emb s) (by rw[show b=some s from z];rfl));show gb ρ=_
   rw[e1];cases o <;> cases e2
   rfl
theorem Exh.caught {K:W.Frag}{H:Hp}{J:Addr->Prop}{a:Addr}{c:Str}{ns:List Str}{vs:List V}(h:Exh K H J a c ns vs)(hn:ns≠[]):∃C,W.nsIn K mainGlobals c=some (some (.ref C))/\zgc H a C (ns.zip vs):=by
 obtain⟨j,oa,C,h1,h2,h3,h4,h5⟩:=h;rcases h5 with⟨z,_,_⟩ | ⟨d,od,h6,h7,h8,h9⟩
 ·exact absurd z hn
 ·exact⟨C,h1,oa,d,od,h2,h3,h4,h6,h8⟩
def isX (tab:List (Str×Bool)):D->Option D
 | .exc c (_::_) _=>(tab.lookup c).map .bl
 | _=>none
structure XInst (K:W.Frag)(cv:Value)(tab:List (Str×Bool)):Prop where
 ok:∀c b,tab.lookup c=some b->∀C,W.nsIn K mainGlobals c=some (some (.ref C))->XK1 K C/\PySem.W.kitOne K (.ref C) cv=some b
def rIsX (K:W.Frag):List V->Hp->VK->Prop:=fun xs H Q=>∃a c C fs cv b,xs = [.ref a,c]/\(∀u,RelV c u->u=cv)/\zgc H a C fs/\XK1 K C/\PySem.W.kitOne K (.ref C) cv=some b/\Q (.bl b) H
theorem zjo {X:Cx}:zcc X (.builtin "isinstance") (rIsX X.K):=by
 rintro pins s σ H xs us Q I r ⟨a,c,C,fs,cv,b,rfl,hc,hca,k1,e,q⟩;obtain⟨u,w',rfl,r1,r2⟩:=zit r;obtain rfl:u=Value.ref a:=r1;obtain rfl:=hc _ r2;exact zhY I k1 hca e fun tk=>⟨.bl b,H,I.tok _,rfl,q⟩
section
variable {X:Cx}{a e:Expr}{fa:FE}{p q pos:Pos}{T:Str}{cv:V}{u:Value}{tab:List (Str×Bool)}
theorem znu {t:TE}(IN:XInst X.K u tab)(hu:∀u',RelV cv u'->u'=u)(g:GoE X.K t fa):GoE X.K (tCB (rIsX X.K) (zkt t (zkt (tC cv) tNil))) (fun ρ=>(fa ρ).bind (isX tab)):=by
 intro Hz Jz O ρ σ H J d Q s e w;obtain⟨x,e1,e⟩:=bind_some e;unfold isX at e;split at e
 ·rename_i c n ns ds
  obtain⟨b,e2,e3⟩:=wcb.mp e;cases e3;refine g Hz Jz O ρ σ H J _ _ s e1 fun v H1 J1 u1 r1=>?_
  show rIsX X.K [v,cv] H1 Q
  cases r1 with
  | exc h rl=>
    obtain⟨C,hC,ca⟩:=h.caught (by simp);obtain⟨k1,k2⟩:=IN.ok c b e2 C hC;exact⟨_,cv,C,_,u,b,rfl,hu,ca,k1,k2,w _ H1 J1 u1 (.bl b)⟩
 ·cases e
theorem zkf {CT:Addr}(IN:XInst X.K (.ref CT) tab)(hm:X.mg T=some (.ref CT))(B:Blt X.mg)(ha:VE X a fa)(hgT:Gl X T:=by rfl)(hdT:(T == ("__debug__" : Str))=false:=by decide)(hg:Gl X "isinstance":=by rfl)
 (h1:starEach [a,.Name T q] X.env=(false,eval a X.env)::starEach [.Name T q] X.env:=by rfl) (h2:starEach [.Name T q] X.env=(false,eval (.Name T q) X.env)::starEach [] X.env:=by rfl)
 (hpl:(backTo pos (starEach [.Name T q] X.env)).any (·.1)=false:=by rfl):VE X (.Call (.Name "isinstance" p) [a,.Name T q] [] pos) (fun ρ=>(fa ρ).bind (isX tab)):=by
 obtain⟨t,pa,g⟩:=ha;exact⟨_,pb zjo B boot_isinstance (zaV pa (zaV (zfh (v:=.ref CT) hgT hm rfl hdT) zcd h2) h1) (by decide +kernel) hg (by decide) (by decide) h1 hpl,znu IN (fun u' r=>r) g⟩
def PCl (X:Cx)(es:List Expr)(Cs:List Addr):Prop:=PA X es (fun σ H Q=>Q (Cs.map V.ref) H)
theorem zlq:PCl X [] []:=zcd
theorem zjp {es:List Expr}{Cs:List Addr}{CT:Addr}(hm:X.mg T=some (.ref CT))(h:PCl X es Cs)(hg:Gl X T:=by rfl)(hd:(T == ("__debug__" : Str))=false:=by decide)
 (h1:starEach (.Name T q::es) X.env=(false,eval (.Name T q) X.env)::starEach es X.env:=by rfl):PCl X (.Name T q::es) (CT::Cs):=zaV (zfh (v:=.ref CT) hg hm rfl hd) h h1
structure XFld (K:W.Frag)(f:Str)(cs:List Str):Prop where
 ok:∀c,c∈cs->∀C,W.nsIn K mainGlobals c=some (some (.ref C))->XG K C f
def zjq (f:Str)(cs:List Str)(d:D):Option D:=match d with
 | .exc c (n::ns) ds=>if cs.contains c then((n::ns).zip ds).lookup f else none
 | _=>none
theorem RpL.look {K:W.Frag}{H:Hp}{J:Addr->Prop}{f:Str}:∀{ns:List Str}{vs:List V}{ds:List D}{d:D},RpL K H J vs ds->(ns.zip ds).lookup f=some d->∃v,(ns.zip vs).lookup f=some v/\Rp K H J v d
 | [],_,_,_,_,e=>by simp at e
 | n::ns,_,_,_,.nil,e=>by simp at e
 | n::ns,v::vs,d'::ds,d,.cons h t,e=>by
   rw[List.zip_cons_cons,waO] at e⊢;by_cases hf:(f == n)=true
   ·rw[hf] at e⊢;cases e;exact⟨v,rfl,h⟩
   ·have hf:(f == n)=false:=by simpa using hf
    rw[hf] at e⊢;exact RpL.look t e
theorem zlr {f:Str}{cs:List Str}(XF:XFld X.K f cs)(ha:VE X a fa)(hb:attributeBase a f X.env (eval a X.env)=eval a X.env:=by rfl):VE X (.Attribute a f pos) (fun ρ=>(fa ρ).bind (zjq f cs)):=by
 obtain⟨t,pa,g⟩:=ha;refine⟨_,zln pa hb,?_⟩;intro Hz Jz O ρ σ H J d Q s e w;obtain⟨x,e1,e⟩:=bind_some e;unfold zjq at e;split at e
 ·rename_i c n ns ds
  split at e
  ·rename_i hc
   refine g Hz Jz O ρ σ H J _ _ s e1 fun v H1 J1 u1 r1=>?_
   cases r1 with
   | exc h rl=>
     obtain⟨C,hC,ca⟩:=h.caught (by simp);obtain⟨v,hv,rv⟩:=rl.look e;exact⟨_,C,_,v,rfl,ca,XF.ok c (List.contains_iff_mem.mp hc) C hC,hv,w v H1 J1 u1 rv⟩
  ·cases e
 ·cases e
end
def okTx (y:Str):Bool:=decide (y.length<=1000)&&y.cps.toList.all fun c=>decide (c<16 ^ 8)
def zh3:D->Bool
 | .str y=>okTx y
 | _=>false
theorem zjr {y:Str}(h:okTx y=true):(reprText y).length<=10002:=by
 unfold okTx at h;rw[waA] at h;have h1:=of_decide_eq_true h.1
 have h2:=StrLaws.reprText_len y fun c hc=>of_decide_eq_true (waC.mp h.2 c hc)
 omega
theorem zjs {P:Program}{w:World}{K:W.Frag}{mg:Str->Option Value}{C N fI:Addr}{bm:List Value}{slf x nm c p:Str}{fd:FuncData}{k:Nat}{cp np fp jp:Pos}(xi:XI P w K C N fI bm slf x nm (.JoinedStr [.Constant (.str p) k cp,.FormattedValue (.Name x np) 114 none fp] jp) fd)
 (hsup:mg "super"=none) (hm:mg c=some (.ref C)) (hn:W.nsIn K mainGlobals c=some (some (.ref C))) (hk:W.keepIn K (.ref C)=true) (hB:bm.contains (.type "BaseException")=true) (hp:p.length<=1000):XCl P w K mg c nm zh3 where
 sup:=hsup
 ex:=⟨C,N,fI,bm,slf,x,_,fd,xi,hm,hn,hk,hB,fun h u d hok=>by
  cases d with
  | str y=>
    refine⟨rfl,fun r=>?_⟩;cases r;have h1:=zjr hok
    have h2:11002<=sizeLine:=by decide +kernel
    exact zhX (fun L=>(xi.kinds L).2.2.2) xi.flags.2.2 xi.dbg.1 (by omega)
  | _=>cases hok⟩
section
variable {X:Cx}{E:XK}{fa:FE}{pos:Pos}
theorem zls {tg iter:Expr}{body:List Stmt}(h:VQ X iter fa)(L:Leaves X E)(hs:∀x,foldedSetIterable iter X.env x=pure x:=by intro _;rfl):VRS X E (.For tg iter body [] pos) (gRet fa):=by
 obtain⟨t,p,q⟩:=h;refine⟨fun D σ H=>t σ H (fun _ _=>False) E,fun pins s σ H D I h=>?_,?_⟩
 ·exact wpAny_For (waz (p pins s σ H _ E I h) (fun v s1 ⟨_,_,_,_,q⟩ =>q.elim) fun e s' ⟨H1,s1,I1,hc⟩ =>L.passes pins σ H1 s1 e s' I1 hc) hs
 intro Hz Jz O ρ σ H J o D s e w;obtain⟨x,e1,e⟩:=bind_some e;cases e;exact q Hz Jz O ρ σ H J x _ E s e1 (FitsX.wants w s)
theorem zjt {R A:Type}{k:Out->Option R}{φ:A->Option R}{g:FS}{ρ:En}{a:Option A}(h:EvS (kx k) φ g ρ a):EvS k φ (gSeq g gNo) ρ a:=fun r e=>zj8 (h r e)
end
section
variable {K:W.Frag}{mg:Str->Option Value}{c T f:Str}{C CT:Addr}{cv:Value}{b:Bool}{tab:List (Str×Bool)}{Cs:List Addr}{cs:List Str}
theorem zeX:XInst K cv []:=⟨fun c b e=>by cases e⟩
theorem zdH (hn:W.nsIn K mainGlobals c=some (some (.ref C)))(k:XK1 K C)(e:PySem.W.kitOne K (.ref C) cv=some b)(t:XInst K cv tab):XInst K cv ((c,b)::tab):=⟨fun x y h C' hC=>by
 rw[waO] at h;by_cases z:(x == c)=true
 ·rw[z] at h;obtain rfl:x=c:=by simpa using z
  rw[hn] at hC;cases hC;cases h;exact⟨k,e⟩
 ·have z:(x == c)=false:=by simpa using z
  rw[z] at h;exact t.ok x y h C' hC⟩
theorem zju:XFld K f []:=⟨fun c h=>by cases h⟩
theorem zh4 (hn:W.nsIn K mainGlobals c=some (some (.ref C)))(g:XG K C f)(t:XFld K f cs):XFld K f (c::cs):=⟨fun x h C' hC=>by
 by_cases z:x=c
 ·subst z;rw[hn] at hC;cases hC;exact g
 ·exact t.ok x ((wai.mp h).resolve_left z) C' hC⟩
theorem zlt (hm:mg T=some (.ref CT))(hB:PySem.W.mroIn K CT (.type "BaseException")=some true)(hT:PySem.W.typeIn K (.ref CT)=some (.type "type")):XTy K mg T []:=⟨CT,hm,hB,hT,fun c C h=>by cases h⟩
theorem zjv (hm:mg T=some (.ref CT))(hn:W.nsIn K mainGlobals c=some (some (.ref C)))(e:PySem.W.mroIn K C (.ref CT)=some true)(t:XTy K mg T cs):XTy K mg T (c::cs):=by
 obtain⟨CT',h1,h2,h3,h4⟩:=t.ex;rw[hm] at h1;cases h1;refine⟨_,hm,h2,h3,fun x C' h hC=>?_⟩;by_cases z:x=c
 ·subst z;rw[hn] at hC;cases hC;exact e
 ·exact h4 x C' ((wai.mp h).resolve_left z) hC
end
section
variable {X:Cx}{e a b c:Expr}{es:List Expr}{f fx:FE}{fa:FE}{ft:FT}{pos:Pos}
theorem PEX.no {t:TEX}(h:PEX X e t){pins:List (Addr×Obj)}{s:Shared}{σ:L2.St}{H:Hp}{E:XK}(I:Inv X pins σ H s)(q:t σ H (fun _ _=>False) E):wpAny (model X.prog X.w) X.A (eval e X.env) (fun _ _=>False) (XP X pins σ E) s:=
 waz (h pins s σ H _ E I q) (fun _ _ ⟨_,_,_,_,q⟩ =>q) fun _ _ z=>z
theorem znv {op:CmpOp}(h:VQ X a f)(hm:behindInMarks op b=false:=by exact zbB _):VQ X (.Compare a [op] [b] pos) f:=by
 obtain⟨t,p,q⟩:=h;exact⟨fun σ H _ E=>t σ H (fun _ _=>False) E,fun pins s σ H Q E I h=>wpAny_Compare1 (waz (PEX.no p I h) (fun _ _ z=>z.elim) fun _ _ z=>z) hm,fun Hz Jz O ρ σ H J x Q E s e w=>q Hz Jz O ρ σ H J x _ E s e w⟩
end
section
variable {X:Cx}{k k':Nat}{x:Str}{p:Pos}{es fs:List Expr}{e ie:Expr}{fl:FA}{fi:FE}{g:List D->Option D}{gs:List (List D->Option D)}{pos lp sp:Pos}
structure FsX (X:Cx)(k:Nat)(es:List Expr)(gs:List (List D->Option D)):Prop where
 ex:∃Cs:List Addr,PCl X.nox es Cs/\Cs.length=gs.length/\∀(j:Nat) (f:Addr) (g:List D->Option D),Cs[j]?=some f->gs[j]?=some g->∃fd ps,FnOk X.prog X.w X.K X.mg X.base (CXE X.prog X.w) k f fd ps (spX X.K g)/\Binds X.K fd ps []/\W.keepIn X.K (.ref f)=true
theorem zlu:FsX X k [] []:=⟨[],zlq,rfl,fun j f g h=>by simp at h⟩
theorem zed {ps:List Str}(C:CalX X.prog X.w X.K X.mg X.base k' x ps (spX X.K g))(t:FsX X k es gs)(hk:k'<=k:=by decide)(hg:Gl X x:=by rfl)(hd:(x == ("__debug__" : Str))=false:=by decide)
 (h1:starEach (.Name x p::es) X.env=(false,eval (.Name x p) X.env)::starEach es X.env:=by rfl):FsX X k (.Name x p::es) (g::gs):=by
 obtain⟨f,fd,a,b,c,d⟩:=C.ex;obtain⟨Cs,pc,hl,h⟩:=t.ex;refine⟨f::Cs,zjp d pc hg hd h1,by simp[hl],fun j f' g' hj hj'=>?_⟩;cases j with
 | zero=>cases hj;cases hj';exact⟨fd,ps,a.mono hk,b,c⟩
 | succ j=>exact h j f' g' hj hj'
def eSel (gs:List (List D->Option D))(fi:FE)(fl:FA):FE:=fun ρ=>(fi ρ).bind fun d=>(dInt d).bind fun i=>(atI gs i).bind fun F=>(fl ρ).bind F
theorem zlv {α β:Type}{xs:List α}{ys:List β}(h:xs.length=ys.length){i:Int}{y:β}(e:atI ys i=some y):∃(j:Nat) (x:α),atI xs i=some x/\xs[j]?=some x/\ys[j]?=some y:=by
 unfold atI at e⊢;rw[h];cases q:ixN ys.length i with
 | none=>rw[q] at e;cases e
 | some j=>
   rw[q] at e;have hj:j<xs.length:=by rw[h];exact(wal.mp e).1
   exact⟨j,xs[j],wap hj,wap hj,e⟩
theorem znw (F:FsX X k fs gs)(hr:Room k' X.A)(hi:VE X.nox ie fi)(ha:VA X.nox (e::es) fl)(hk:k<=k':=by decide)(hle:gs.length<=100:=by decide)(hx:zb3 ie:=by exact fun _ _=>rfl)
 (he:starEach (e::es) X.env=(false,eval e X.env)::starEach es X.env:=by rfl) (hpl:(backTo pos (starEach es X.env)).any (·.1)=false:=by rfl):VQ X (.Call (.Subscript (.List fs lp) ie sp) (e::es) [] pos) (eSel gs fi fl):=by
 obtain⟨Cs,pc,hl,hF⟩:=F.ex;obtain⟨ti,pi,qi⟩:=hi;obtain⟨ta,pa,qa⟩:=ha;have pf:=zgt (X:=X.nox) (pos:=sp) ix_list (zgZ (pos:=lp) pc) pi hx
 refine⟨fun σ H Q E=>tOp (rIxL X.K) (tLst fun σ H Q=>Q (Cs.map V.ref) H) ti σ H fun v H1=>∃(j:Nat) (f:Addr) (g:List D->Option D),v=.ref f/\Cs[j]?=some f/\gs[j]?=some g/\ta σ H1 fun vs H2=>spX X.K g (vs++[]) H2 Q E,fun pins s σ H Q E I h=>?_,fun Hz Jz O ρ σ H J x Q E s e w=>?_⟩
 ·show wpAny _ _ (do callWith pos (<-eval (.Subscript (.List fs lp) ie sp) X.env) [] (backTo pos (starEach (e::es) X.env)) []) _ _ s
  refine waa (waz (pf pins s σ H _ (zhU I) h) (fun u s1 ⟨v,H1,I1,r1,j,f,g,hv,hj,hg,q⟩ =>?_) fun _ _ z=>z.elim);subst hv;obtain rfl:u=Value.ref f:=r1;obtain⟨fd,ps,a,b,c⟩:=hF j f g hj hg;refine wbU (h₀:=X.base) I.ok.mod.kin c (waz (pa pos pins s1 σ H1 _ I1 q) (fun us s2 ⟨vs,H2,I2,r,q⟩ =>⟨I2.kIn,?_⟩) fun _ _ z=>z.elim) he hpl;have J1:=zdG I2
  have r2:Vals (vs++[]) (us++[]):=r.append .nil
  have hl:(us++[]).length=ps.length:=by rw[<-r2.length];exact a.len _ _ _ _ q
  refine wcn (wcf ((a.mono hk).run X.A X.stack s2 H2 ⟨us,[]⟩ (us++[]) (vs++[]) Q E hr J1.env0 (b s2 us J1.kIn hl) r2 q) fun r s' hq=>?_);cases r with
  | error e=>exact⟨H2,s2,J1,hq⟩
  | ok fl=>
    cases fl with
    | ret u=>exact J1.after hq
    | next=>exact False.elim hq
    | brk=>exact False.elim hq
    | cont=>exact False.elim hq
 ·obtain⟨d,e1,e⟩:=bind_some e;obtain⟨i0,ei,e4⟩:=bind_some e;cases d with
  | int i=>
    have ei:i=i0:=wav ei
    subst ei;obtain⟨F,e2,e⟩:=bind_some e4;obtain⟨ds,e3,e⟩:=bind_some e;obtain⟨j,f,h1,h2,h3⟩:=zlv hl e2;refine⟨by rw[wao,hl];exact wan hle (by decide),fun p hp=>?_⟩;have un:=Up.new s.ja hp (.lst (Cs.map V.ref))
    refine qi Hz Jz O ρ σ _ J _ _ (s.up un) e1 fun v H1 J1 u1 r1=>?_
    cases r1;refine⟨p,Cs.map V.ref,i,.ref f,rfl,rfl,SqL.of (u1.same _ _ zaf),?_,j,f,F,rfl,h2,h3,?_⟩
    ·unfold atI at h1⊢;rw[wao];cases z:ixN Cs.length i with
     | none=>rw[z] at h1;cases h1
     | some j'=>
       rw[z] at h1;show(Cs.map V.ref)[j']?=_
       rw[waw,show Cs[j']?=some f from h1];rfl
    ·refine qa Hz Jz O ρ σ H1 J1 ds _ ((s.up un).up u1) e3 fun vs H2 J2 u2 r2=>?_
     exact⟨J2,ds,x,u2.ja,by rw[waF];exact r2,e,w.up (un.trans (u1.trans u2))⟩
  | _=>cases ei
end
section
variable {prog:Program}{w:World}{K:W.Frag}{fd:FuncData}{fI:Addr}{x p:Str}{cp np fp jp:Pos}{k:Nat}
end
section
variable {X:Cx}{k k':Nat}{x:Str}{ps:List Str}{F:List D->Option D}{e:Expr}{es:List Expr}{fl:FA}{f:FE}{p pos:Pos}{Pc:Hp->Prop}
end
variable {X:Cx}{f:FE}{e:Expr}{es:List Expr}{fl:FA}{p pos:Pos}
end VD
namespace GX
open PySem PySem.Spec PyProof PyProof.Rows L2
abbrev GP:=Nat->Shared->Prop
def zgE (n:Nat)(P:Nat->Value->Prop)(Mid St:GP):Protocol:=fun m _ v s kap=>
 ∃i,i+1+m=n/\P i v/\Mid (i+1) s/\∀s'':Shared,St (i+1) s''->kap (.send .none) s''
def gend (Dn:Shared->Prop):GenEnd:=fun m _ r s₁=>r=.ok .next/\(m=0/\Dn s₁)
def zaW (elt target iter:Expr)(scope:Scope)(pos:Pos)(it:Value)(cenv:Env):Code:=.compLoop (.GeneratorExp elt [⟨target,iter,[],0⟩] scope pos) 0 it .none cenv
def zdj (elt target iter:Expr)(scope:Scope)(pos:Pos)(it:Value)(cenv:Env):Code:=.compStart (.GeneratorExp elt [⟨target,iter,[],0⟩] scope pos) 0 it .none cenv
theorem zcp {gens:Array GenState}{g:Nat}{x:GenState}(h:AllBare gens)(hx:x.bare=true){s:Shared}(e:gens=s.gens):AllBare (s.setGen g x).gens:=by
 subst e;intro y hy;obtain⟨i,hi,rfl⟩:=Array.mem_iff_getElem.mp hy;simp only[Shared.setGen] at hi⊢;by_cases z:g=i
 ·subst z;simp[hx]
 ·rw[Array.getElem_setIfInBounds_ne (by simpa using hi) z];exact h _ (Array.getElem_mem _)
section
variable {prog:Program}{w:World}{A:Around}{elt target iter:Expr}{scope:Scope}{pos:Pos}{it:Value}{cenv:Env}{n:Nat}{P:Nat->Value->Prop}{Mid St:GP}{Dn:Shared->Prop}
theorem zjw (hco:cenv.scope.isCoroutine=false)
 (turn:∀i s,i<n->St i s->wpAny (model prog w) (A.over (zaW elt target iter scope pos it cenv) []) (pyNext it) (fun r s1=>∃v,r=some v/\
  wpAny (model prog w) (A.over (zaW elt target iter scope pos it cenv) []) (letOwnedTupleGo target it v) (fun _ s2=>
   wpAny (model prog w) (A.over (zaW elt target iter scope pos it cenv) []) (assign target cenv v) (fun _ s3=>
    wpAny (model prog w) (A.over (zaW elt target iter scope pos it cenv) []) (eval elt cenv) (fun y s4=>P i y/\Mid (i+1) s4) (fun _ _=>False) s3) (fun _ _=>False) s2) (fun _ _=>False) s1) (fun _ _=>False) s)
 (done:∀s,St n s->wpAny (model prog w) (A.over (zaW elt target iter scope pos it cenv) []) (pyNext it) (fun r s1=>r=none/\Dn s1) (fun _ _=>False) s) :
 ∀(k i:Nat) (s₀ s:Shared),n - i=k->i<=n->St i s->Seg (model prog w) A (gend Dn) (zgE n P Mid St) k s₀ (zaW elt target iter scope pos it cenv) ((model prog w).den (zaW elt target iter scope pos it cenv)) [] s:=by
 intro k;induction k with
 | zero=>
   intro i s₀ s hk hi hst;have hin:i=n:=by omega
   subst hin;show Seg _ A _ _ _ s₀ _ ((compTurn (.GeneratorExp elt [⟨target,iter,[],0⟩] scope pos) 0 it .none cenv).onRaise (leaving cenv)) [] s
   rw[compTurn_gen,wcx];refine seg_bind_wrap (wbu ?_);refine seg_bind_wrap (waz (done s hst) (fun r s1 ⟨hr,hd⟩ =>?_) fun _ _ e=>e.elim);subst hr;exact seg_end (.ok .next) ⟨rfl,rfl,hd⟩
 | succ k ih=>
   intro i s₀ s hk hi hst;have hlt:i<n:=by omega
   show Seg _ A _ _ _ s₀ _ ((compTurn (.GeneratorExp elt [⟨target,iter,[],0⟩] scope pos) 0 it .none cenv).onRaise (leaving cenv)) [] s
   rw[compTurn_gen,wcx];refine seg_bind_wrap (wbu ?_);refine seg_bind_wrap (waz (turn i s hlt hst) (fun r s1 ⟨v,hr,h1⟩ =>?_) fun _ _ e=>e.elim);subst hr;refine seg_bind_wrap (waz h1 (fun _ s2 h2=>?_) fun _ _ e=>e.elim);refine seg_bind_wrap (waz h2 (fun _ s3 h3=>?_) fun _ _ e=>e.elim);refine seg_bind_wrap (wag ?_);simp only[if_true];have hy:∀v,yieldOut cenv v=yieldValue v:=fun v=>by simp only[yieldOut,hco,wbC,if_false]
   simp only[hy];rw[Sem.bind_eq_wrap',Sem.bind_eq_wrap',Sem.wrap_wrap,Sem.wrap_wrap];refine seg_wrap (waz h3 (fun y s4 h4=>?_) fun _ _ e=>e.elim);refine seg_at (seg_yield rfl rfl rfl ⟨i,by omega,h4.1,h4.2,fun s'' hs=>?_⟩)
   exact seg_again rfl (ih (i+1) s'' s'' (by omega) hlt hs)
theorem zh5 (hloop:∀s₀ s,St 0 s->Seg (model prog w) A (gend Dn) (zgE n P Mid St) n s₀ (zaW elt target iter scope pos it cenv) ((model prog w).den (zaW elt target iter scope pos it cenv)) [] s)
 (self:∀(A':Around) s,St 0 s->wpAny (model prog w) A' (pyIter it) (fun x s'=>x=it/\St 0 s') (fun _ _=>False) s) (s₀ s:Shared) (h:St 0 s) :
 Seg (model prog w) A (gend Dn) (zgE n P Mid St) n s₀ (zdj elt target iter scope pos it cenv) ((model prog w).den (zdj elt target iter scope pos it cenv)) [] s:=by
 show Seg _ A _ _ _ s₀ _ ((compStart (.GeneratorExp elt [⟨target,iter,[],0⟩] scope pos) 0 it .none cenv).onRaise (leaving cenv)) [] s
 unfold compStart;rw[wcx];show Seg _ A _ _ _ s₀ _ ((ask >>= _).wrap _ _ _ _) [] s
 refine seg_bind_wrap (wpAny_askSetting ?_);split
 ·exact seg_again rfl (hloop _ _ h)
 ·refine seg_bind_wrap (wpAny_rule ?_);show Seg _ A _ _ _ s₀ _ ((standAt iter.pos >>= _).wrap _ _ _ _) [] s
  refine seg_bind_wrap (wbu ?_);refine seg_bind_wrap (waz (self _ s h) (fun x s' hx=>?_) fun _ _ e=>e.elim);obtain⟨rfl,hx⟩:=hx;exact seg_again rfl (hloop _ _ hx)
structure At (prog:Program)(w:World)(A:Around)(a:Addr)(g n:Nat)(P:Nat->Value->Prop)(Mid St:GP)(Dn:Shared->Prop)(j:Nat)(s:Shared):Prop where
 bare:AllBare s.gens
 gen:s.heap.IsGen a g
 lim:s.heap.NoLimit
 go:∃gs,s.gens[g]?=some gs/\∀s'',St j s''->gs.Goes (model prog w) A.in1 (gend Dn) (zgE n P Mid St) (n - j) (.send .none) s''
 run:St j (s.setGen g .running)
structure Holds (a:Addr)(g:Nat)(Mid St:GP):Prop where
 bare:∀i s,Mid i s->AllBare s.gens
 gen:∀i s,Mid i s->s.heap.IsGen a g
 lim:∀i s,Mid i s->s.heap.NoLimit
 size:∀i s,Mid i s->g<s.gens.size
 on:∀i s gs,gs.bare=true->Mid i s->St i ((s.setGen g gs).setGen g .running)
theorem zh6 {s:Shared}{g:Nat}{x:GenState}(h:g<s.gens.size):(s.setGen g x).gens[g]?=some x:=by simp[Shared.setGen,h]
theorem zh7 {a:Addr}{g j:Nat}{s:Shared}{Q:Option Value->Shared->Prop}(hh:A.handled=none)(hroom:A.depth<recursionLimit)(hd:Holds a g Mid St)(hj:j<n)(h:At prog w A a g n P Mid St Dn j s)
 (hQ:∀v s1 gs,P j v->Mid (j+1) s1->gs.bare=true->At prog w A a g n P Mid St Dn (j+1) (s1.setGen g gs)->Q (some v) (s1.setGen g gs)):wpAny (model prog w) A (pyNext (.ref a)) Q (fun _ _=>False) s:=by
 obtain⟨_,hg,hl,⟨gs,hgs,hgo⟩,hr⟩:=h;obtain⟨m,hm⟩:∃m,n - j=m+1:=⟨n - j - 1,by omega⟩
 have go1:=hgo _ hr
 rw[hm] at go1;refine wpAny_pyNext_genexpQ (P:=fun m _ s₁=>m=0/\Dn s₁) hh hl hroom hg hgs go1 (fun v s₁ gs' hb hv=>?_) (fun s₁ hp h' hk=>absurd hp.1 (Nat.succ_ne_zero m));obtain⟨i,hi,hP,hM,hkap⟩:=hv;have hij:i=j:=by omega
 subst hij;refine hQ v s₁ gs' hP hM hb ⟨zcp (hd.bare (i+1) s₁ hM) hb rfl,hd.gen (i+1) s₁ hM,hd.lim (i+1) s₁ hM,⟨gs',zh6 (hd.size (i+1) s₁ hM),fun s'' hs=>?_⟩,hd.on (i+1) s₁ gs' hb hM⟩;rw[show n - (i+1)=m by omega];exact hkap s'' hs
theorem zh8 {a:Addr}{g:Nat}{s:Shared}{Q:Option Value->Shared->Prop}(hh:A.handled=none)(hroom:A.depth<recursionLimit)(hd:Holds a g Mid St)(h:At prog w A a g n P Mid St Dn n s)
 (hQ:∀s1 h',Dn s1->(∀b o,s1.heap.get? b=some o->h'.get? b=some o)->Q none {s1.setGen g .finished with heap:=h'}):wpAny (model prog w) A (pyNext (.ref a)) Q (fun _ _=>False) s:=by
 obtain⟨_,hg,hl,⟨gs,hgs,hgo⟩,hr⟩:=h;have go1:=hgo _ hr
 rw[Nat.sub_self] at go1;refine wpAny_pyNext_genexpQ (P:=fun m _ s₁=>m=0/\Dn s₁) hh hl hroom hg hgs go1 (fun v s₁ gs' hb hv=>?_) (fun s₁ hp h' hk=>hQ s₁ h' hp.2 hk);obtain⟨i,hi,_,hM,hkap⟩:=hv;exact(hkap _ (hd.on (i+1) s₁ gs' hb hM)).elim
end
section
variable {prog:Program}{w:World}{A:Around}{R:Result->Shared->Prop}{I:Addr}{n:Nat}{P:Nat->Value->Prop}{Wt:GP}{Fin:Shared->Prop}{tr:Nat->Bool}
theorem zjx (htr:TruthOf prog w A.in1 P tr)
 (item:∀i s,i<n->Wt i s->wpAny (model prog w) A.in1 (pyNext (.ref I)) (fun r s'=>∃v,r=some v/\P i v/\Wt (i+1) s') (fun _ _=>False) s)
 (done:∀s,Wt n s->wpAny (model prog w) A.in1 (pyNext (.ref I)) (fun r s'=>r=none/\Fin s') (fun _ _=>False) s)
 (stop:∀i s,i<n->tr i=false->Wt (i+1) s->Fin s):∀(k i:Nat) (s:Shared),n - i=k->i<=n->Wt i s->
 (∀s',Fin s'->R (.ok (.ret (.bool (((List.range n).drop i).all tr)))) s')->codeAny (model prog w) A (.builtin "all.loop" ⟨[.ref I],[]⟩) R s:=by
 intro k;induction k with
 | zero=>
   intro i s hk hi hst hR;have hin:i=n:=by omega
   subst hin;refine wct F.entry_all_loop ?_;rw[wcm wcl _];show wpAny _ A.in1 (pyNext (.ref I) >>= _) _ _ s
   refine waa (waz (done s hst) (fun r s' ⟨hr,hf⟩ =>?_) fun _ _ e=>e.elim);subst hr;refine waa (wpAny_rule (wag ?_));have:=hR s' hf
   rw[List.drop_of_length_le (by simp)] at this;exact this
 | succ k ih=>
   intro i s hk hi hst hR;have hlt:i<n:=by omega
   have hd:(List.range n).drop i=i::(List.range n).drop (i+1):=by
    rw[List.drop_eq_getElem_cons (by simpa using hlt)];simp
   refine wct F.entry_all_loop ?_;rw[wcm wcl _];show wpAny _ A.in1 (pyNext (.ref I) >>= _) _ _ s
   refine waa (waz (item i s hlt hst) (fun r s' ⟨v,hr,hP,hst'⟩ =>?_) fun _ _ e=>e.elim);subst hr;refine waa (wbl (htr i v _ _ _ hP ?_));refine waa (wpAny_letGo ?_);cases hb:tr i with
   | true=>
     simp only[if_true];refine wag ⟨plainId_quiet wcl _,ih (i+1) _ (by omega) hlt hst' fun s'' hf=>?_⟩;have:=hR s'' hf
     rw[hd,List.all_cons,hb,Bool.true_and] at this;exact this
   | false=>
     simp only[wbC,if_false];refine waa (wpAny_rule (wag ?_));have:=hR s' (stop i s' hlt hb hst')
     rw[hd,List.all_cons,hb,Bool.false_and] at this;exact this
end
section
variable {prog:Program}{w:World}{A:Around}{E:Value->Shared->Prop}{s:Shared}{a:Addr}{n:Nat}{P:Nat->Value->Prop}{Wt:GP}{Fin:Shared->Prop}{tr:Nat->Bool}{Q:Value->Shared->Prop}
theorem zjy (htr:TruthOf prog w A.in1 P tr)
 (item:∀i s,i<n->Wt i s->wpAny (model prog w) A.in1 (pyNext (.ref a)) (fun r s'=>∃v,r=some v/\P i v/\Wt (i+1) s') (fun _ _=>False) s)
 (done:∀s,Wt n s->wpAny (model prog w) A.in1 (pyNext (.ref a)) (fun r s'=>r=none/\Fin s') (fun _ _=>False) s)
 (stop:∀i s,i<n->tr i=false->Wt (i+1) s->Fin s) {g:Nat}(hg:s.heap.IsGen a g) (h:Wt 0 s) (hQ:∀s',Fin s'->Q (.bool ((List.range n).all tr)) s') :
 wpAny (model prog w) A (call (.builtin "all") [.ref a]) Q E s:=by
 refine call_function_tree F.kind_all F.plain_all F.entry_all (F.args_all1 _) ?_;unfold Builtin.«all»;refine waa (m:=oneArg "all" _) (wag ?_);refine waa (wpAny_pyIter_gen hg ?_);exact wag ⟨plainId_quiet wcl _,zjx htr item done stop n 0 s rfl (wbo _) h fun s' hf=>by simpa using hQ s' hf⟩
end
def gcx (X:Cx)(scope:Scope)(cl:List (Str×Addr))(NC:List Str)(C:Addr)(code:Value)(bi:Addr)(A':Around)(s0:Shared)(H0:Hp)(ex:List Addr)(pn:List (Addr×Obj)):Cx where
 prog:=X.prog
 w:=X.w
 K:=X.K
 mg:=X.mg
 base:=X.base
 A:=A'
 N:=NC
 s₀:=s0
 Hz:=H0
 env:=genEnv scope cl C code bi X.env
 outer:=X.stack
 stack:=genEnv scope cl C code bi X.env::X.stack
 ex:=ex
 fn:=fun _=>false
 calm:=true
 pn:=pn
 xe:=fun _ _=>False
def frO:Obj:={cls:=.type "frame",data:=.dict #[]}
theorem zlw {X:Cx}{pins:List (Addr×Obj)}{s4:Shared}{σ:L2.St}{H1:Hp}{fp:List Addr}{scope:Scope}{cl:List (Str×Addr)}{NC:List Str}{fr:List (Option Nat)}{code:Value}{bi:Addr}{A':Around}{mm:Str->Option Value}{h':Heap}{gs:Array GenState}{tk:Nat}{og:Obj}
 (I:Inv X pins σ H1 s4) (f2:∀b∈fp,FpOk X pins H1 b) (obj:∀b∈fp,∃o,s4.heap.get? b=some o/\∀v,o.data≠.cell v) (hkind:scope.kind=.function) (hbi:bi=builtinsNs)
 (hcl:∀x c,cl.lookup x=some c->X.env.cells.lookup x=some c)
 (hhas:∀x,(scope.names.lookup x=some .cell\/scope.names.lookup x=some .free)->∃c,cl.lookup x=some c)
 (hfr:∀(i:Nat) (x:Str) (j:Nat),NC[i]?=some x->fr[i]?=some (some j)->X.N[j]?=some x/\Vis X.env.scope x/\X.env.kindOf x≠some .local/\(scope.names.lookup x=some .cell\/scope.names.lookup x=some .free))
 (hlen:fr.length=NC.length) (hA:A'.handled=none) (hAf:A'.frames=some (genEnv scope cl s4.heap.objs.size code bi X.env::X.stack))
 (hn':h'.Ns s4.heap.objs.size mm) (hs':Heap.SameBut s4.heap.objs.size (s4.heap.push frO) h') (hg:AllBare gs) (hog:∀v,og.data≠.cell v) (hfz:og.isFreed=false) :
 Inv (gcx X scope cl NC s4.heap.objs.size code bi A' s4 H1 fp (X.pn++pins)) [(h'.objs.size,og)] (pick σ fr) H1 {s4 with gens:=gs,toks:=tk,heap:=h'.push og}:=by
 have sz:h'.objs.size=s4.heap.objs.size+1:=by rw[hs'.1,wbN]
 generalize hC:s4.heap.objs.size=C at *;have ltC:∀{b:Addr}{o:Obj},s4.heap.get? b=some o->b<C:=fun e=>by rw[<-hC];exact wae e
 have k4:∀b o,s4.heap.get? b=some o->(h'.push og).get? b=some o:=fun b o e=>wab _ (hs'.extBut b o (wax (ltC e)) (wab _ e))
 have hCn:H1 C=none:=I.hok.fresh (waS hC)
 have stkNo:∀b,s4.heap.objs.size<=b->b∉frs X.stack:=fun b hb z=>by
  have f:=I.fpOk hb (I.hok.fresh hb)
  rcases wai.mp (I.stkSub b z) with z | z
  ·exact f.2.1 z
  ·exact f.2.2.1 z
 have okC:(gcx X scope cl NC C code bi A' s4 H1 fp (X.pn++pins)).Ok:=by
  refine⟨I.ok.mod,hkind,I.ok.glob,hbi,waS hC,fun x y c h1 h2=>I.ok.inj x y c (hcl x c h1) (hcl y c h2),fun x hx=>hhas x hx,fun x c hf _=>(by cases hf),fun _=>hA,hAf,.inr ⟨rfl,rfl⟩,fun b hb=>⟨?_,fun x c e=>?_⟩,fun b o e=>I.bs b o e,?_,fun b o e hb=>?_,fun b hb hf=>?_,?_,fun b hb=>I.stkFree b hb⟩
  ·obtain⟨o,eo,_⟩:=obj b hb;exact wax (ltC eo)
  ·exact(f2 b hb).2.2.2.2.1 x c (hcl x c e)
  ·exact wan I.ok.bsz I.sz
  ·obtain⟨e1,_⟩:=I.ok.bs b o e;have f:=f2 b hb
   rcases f.2.2.2.1 with z | z
   ·exact I.ok.noex b o e z
   ·exact absurd (wah (wae e1) z) (waN _)
  ·rcases wai.mp (I.stkSub b hf) with z | z
   ·exact(f2 b hb).2.1 z
   ·exact(f2 b hb).2.2.1 z
  ·exact I.stack
 refine⟨okC,rfl,hg,Un.kept k4,⟨_,hn'.push _,fun i x v hN hv hvis=>?_⟩,fun x c e=>?_,hCn,fun x c e=>I.freeC x c (hcl x c e),fun p hp=>?_,I.hok.kept k4,?_⟩
 ·have hfi:∃j,fr[i]?=some (some j)/\σ[j]?=some (some v):=by
   unfold pick at hv;rw[waw] at hv;cases e1:fr[i]? with
   | none=>rw[e1] at hv;cases hv
   | some o=>
     rw[e1] at hv;cases o with
     | none=>cases hv
     | some j=>
       refine⟨j,rfl,?_⟩;have hv':(σ[j]?).join=some v:=wav hv
       cases e2:σ[j]? with
       | none=>rw[e2] at hv';cases hv'
       | some w'=>rw[e2] at hv';exact waZ some hv'
  obtain⟨j,hj,hσ⟩:=hfi;obtain⟨q1,q2,q3,q4⟩:=hfr i x j hN hj;obtain⟨m,hm,hl⟩:=I.loc;obtain⟨u,ru,lk⟩:=hl j x v q1 hσ q2;refine⟨u,ru,?_⟩;rcases lk with⟨z,_⟩ | ⟨_,c,ec,ic⟩
  ·exact absurd z q3
  ·obtain⟨c',ec'⟩:=hhas x q4;have:c'=c:=by rw[hcl x c' ec'] at ec;exact wav ec
   subst this;obtain⟨oc,h1,h2⟩:=ic;exact .inr ⟨q4,c',ec',oc,k4 _ _ h1,h2⟩
 ·obtain⟨v,oc,h1,h2⟩:=I.cell x c (hcl x c e);exact⟨v,oc,k4 _ _ h1,h2⟩
 ·have hp':p∈(X.pn++pins)++[(h'.objs.size,og)]:=hp
  rcases way.mp hp' with hp' | hp'
  ·obtain⟨e1,e2,e3,e4,e5⟩:=I.pin p hp';refine⟨k4 _ _ e1,e2,wax (ltC e1),fun z=>?_,e5⟩;rcases wai.mp (I.stkSub p.1 z) with z' | z'
   ·exact e3 z'
   ·exact e4 z'
  ·rw[wak.mp hp'];have hle:s4.heap.objs.size<=h'.objs.size:=by omega
   exact⟨war _ hfz,I.hok.fresh hle,by show h'.objs.size≠C;omega,stkNo _ hle,hog⟩
 ·unfold pick;rw[wao];exact hlen
theorem zjz {X:Cx}{pins pins':List (Addr×Obj)}{s4 s':Shared}{σ σ':L2.St}{H1 H':Hp}{fp:List Addr}{scope:Scope}{cl:List (Str×Addr)}{NC:List Str}{C:Addr}{code:Value}{bi:Addr}{A':Around}{pn:List (Addr×Obj)}
 (I:Inv X pins σ H1 s4) (f2:∀b∈fp,FpOk X pins H1 b) (J:Inv (gcx X scope cl NC C code bi A' s4 H1 fp pn) pins' σ' H' s'):Inv X pins σ H' s':=
 I.call' J.os J.base J.hok J.bare fun b hb=>let f:=f2 b hb;⟨f.2.2.2.1,f.2.1,f.2.2.2.2.1,f.2.2.2.2.2⟩
theorem zee {X:Cx}{pins:List (Addr×Obj)}{σ:L2.St}{H:Hp}{s:Shared}{gs:Array GenState}(I:Inv X pins σ H s)(h:AllBare gs):Inv X pins σ H {s with gens:=gs}:=by
 obtain⟨a,b,c,d,e,f,g,h1,i,j,k⟩:=I;exact⟨a,b,h,d,e,f,g,h1,i,j,k⟩
theorem zaw {s:Shared}{g:Nat}{x:GenState}:(s.setGen g x).gens.size=s.gens.size:=by simp[Shared.setGen]
theorem zeY {M:Model}{Γ:PySem.Ctx}{p:Pos}{t:Sem Fin}{fs:List Frame}{s s':Shared}{e:End}(h:Runs M Γ p t fs s e s'):s.gens.size<=s'.gens.size:=by
 induction h <;> (try simp only[zaw,Array.size_push] at *) <;> omega
theorem zgF {M:Model}{Γ:PySem.Ctx}{p:Pos}{g:Nat}{r:Resume}{s s':Shared}{res:GenResult}(h:Wakes M Γ p g r s res s'):s.gens.size<=s'.gens.size:=by
 have key:∀{Δ:PySem.Ctx}{q:Pos}{u:Sem Fin}{fs:List Frame}{e:End}{s1:Shared}{x:GenState},Runs M Δ q u fs (s.setGen g .running) e s1->s.gens.size<=(s1.setGen g x).gens.size:=fun hr=>by
  have:=zeY hr
  rw[zaw] at this⊢;exact this
 unfold Wakes at h;split at h
 ·exact h.elim
 ·split at h
  ·obtain⟨_,_,hr,_,_,rfl⟩:=h;exact key hr
  ·exact waS (by rw[h.2];try rw[zaw])
  ·exact waS (by rw[h.2];try rw[zaw])
 ·obtain⟨_,_,hr,_,_,rfl⟩:=h;exact key hr
 ·exact waS (by rw[h.2];try rw[zaw])
 ·exact waS (by rw[h.2];try rw[zaw])
theorem zlx {α:Type}(M:Model)(Γ:PySem.Ctx)(n:Nat)(t:Sem α):∀(Q:α->Pos->Shared->Prop) (E:Value->Pos->Shared->Prop) (p:Pos) (s:Shared),n<=s.gens.size->Sem.wp M Γ t Q E p s->
 Sem.wp M Γ t (fun a p' s'=>n<=s'.gens.size/\Q a p' s') (fun e p' s'=>n<=s'.gens.size/\E e p' s') p s:=by
 induction t with
 | pure a=>exact fun Q E p s hn h=>⟨hn,h⟩
 | raise e=>exact fun Q E p s hn h=>⟨hn,h⟩
 | newGen c k ih=>exact fun Q E p s hn h=>ih _ Q E p _ (by show n<=(s.gens.push _).size;rw[Array.size_push];omega) h
 | resume g r _ k ih=>exact fun Q E p s hn h=>let ⟨res,s',hw,h⟩:=h;⟨res,s',hw,ih res Q E p s' (wan hn (zgF hw)) h⟩
 | call c hd _ _ k ih=>exact fun Q E p s hn h=>let ⟨r,s',hr,h⟩:=h;⟨r,s',hr,ih r Q E p s' (wan hn (zeY hr)) h⟩
 | load a _ k ih=>exact fun Q E p s hn h=>let ⟨o,ho,h⟩:=h;⟨o,ho,ih o Q E p s hn h⟩
 | genState g k ih=>exact fun Q E p s hn h=>let ⟨st,hs,h⟩:=h;⟨st,hs,ih _ Q E p s hn h⟩
 | update a _ f k ih=>exact fun Q E p s hn h=>⟨h.1,ih () Q E p _ hn h.2⟩
 | choose src m k ih=>exact fun Q E p s hn h=>⟨h.1,ih _ Q E p _ hn h.2⟩
 | rule _ k ih=>exact fun Q E p s hn h=>ih () Q E p s hn h
 | «at» p' k ih=>exact fun Q E p s hn h=>ih () Q E p' s hn h
 | point _ k ih=>exact fun Q E p s hn h=>ih () Q E p s hn h
 | loadIfAlive a k ih=>exact fun Q E p s hn h=>ih _ Q E p s hn h
 | alloc o k ih=>exact fun Q E p s hn h=>ih _ Q E p _ hn h
 | fresh k ih=>exact fun Q E p s hn h=>ih _ Q E p _ hn h
 | ask k ih=>exact fun Q E p s hn h=>ih _ Q E p s hn h
 | os q _ k ih=>exact fun Q E p s hn h=>ih _ Q E p _ hn h
 | handled own k ih=>exact fun Q E p s hn h=>ih _ Q E p s hn h
 | stack k ih=>exact fun Q E p s hn h=>ih _ Q E p s hn h
 | thread k ih=>exact fun Q E p s hn h=>ih _ Q E p s hn h
 | _=>exact fun Q E p s hn h=>h
theorem zbR {α:Type}{M:Model}{A:Around}{s:Shared}{t:Sem α}{Q:α->Shared->Prop}{E:Value->Shared->Prop}{n:Nat}(hn:n<=s.gens.size)(h:wpAny M A t Q E s) :
 wpAny M A t (fun a s'=>n<=s'.gens.size/\Q a s') (fun e s'=>n<=s'.gens.size/\E e s') s:=
 fun Γ p hΓ=>zlx M Γ n t _ _ p s hn (h Γ p hΓ)
end GX
namespace GX
open PySem PySem.Spec PyProof PyProof.Rows L2 PySem.W
theorem zjA {X:Cx}{pins:List (Addr×Obj)}{σ:L2.St}{H:Hp}{s:Shared}{A:Around}{tp:Array Value}{scope:Scope}{pos:Pos}{c P:Addr}{q:Str}{Q:Value->Shared->Prop}{E:Value->Shared->Prop}(I:Inv X pins σ H s)(hcd:X.env.code=.ref c)(hC:CodeK X.K c P)
 (hH:H P=some (.tbl tp)) (hps:tp[0]?=some (Value.str q 0)) (hq:X.env.qual++"<genexpr>"=q)
 (h:∀(code:Value) (H1:Hp) (s':Shared),(∀b o,H b=some o->H1 b=some o)->(∀b,H1 b=none->H b=none)->(∀b,b<s.heap.objs.size->H b=none->H1 b=none)->(∀b o,b≠P->s.heap.get? b=some o->s'.heap.get? b=some o)->s.gens.size<=s'.gens.size->Inv X pins σ H1 s'->Q code s') :
 wpAny (model X.prog X.w) A (genexprCode X.env pos (X.env.qual++"<genexpr>") scope) Q E s:=by
 obtain⟨ps,hP,ht⟩:=I.tblAt hH;have C:=hC.hd I.kIn
 rw[hq];cases e:codeAmong pos ps.toList with
 | none=>
   refine wpAny_genexprCodeX hcd (C.code hP ht.1) (C.tab hP) e fun c' h' tk hx hge hlt _ hrec htb _=>?_
   obtain⟨c2,oc,vs,t,e2,hoc,hd,hv⟩:=hrec;cases e2;have J:=I.grownC (t':=tk) hH hps ht (fun b o hb e=>hx b o hb e) htb.2 hge hoc hd hv
   have hn:H c'=none:=I.hok.fresh hge
   refine h (.ref c') _ _ (fun b o q=>by rw[zae (fun z=>by rw[z,hn] at q;cases q)];exact q) (fun b q=>?_) (fun b hb q=>by rw[zae (fun z=>by rw[z] at hb;exact absurd (wah hb hge) (waN _))];exact q) (fun b o hb e=>hx b o hb e) (wam _) J;by_cases z:b=c'
   ·rw[z];exact hn
   ·rw[zae z] at q;exact q
 | some cv=>
   refine wpAny_genexprCode_hit hcd (C.code hP ht.1) e ?_;exact h cv H s (fun _ _ q=>q) (fun _ q=>q) (fun _ _ q=>q) (fun _ _ _ e=>e) (wam _) I
theorem zeZ {X:Cx}{pins:List (Addr×Obj)}{σ:L2.St}{H:Hp}{s:Shared}{A:Around}{bm:Addr}{ob:Obj}{Q:Addr->Shared->Prop}{E:Value->Shared->Prop}(I:Inv X pins σ H s)(hB:BMod X.base mainGlobals X.mg bm ob)(h:Q builtinsNs s) :
 wpAny (model X.prog X.w) A (builtinsFor X.env.globals X.env.builtins) Q E s:=by
 have hg:=I.mod.glob.keeps I.bk
 rw[I.ok.glob];exact wpAny_builtinsFor hg hB.name hB.ne (I.bk _ _ hB.obj) hB.cls hB.dict hB.data h
section
variable {X:Cx}{elt tg iter:Expr}{scope:Scope}{gpos:Pos}{cl:List (Str×Addr)}{NC:List Str}{fr:List (Option Nat)}{g:TG}{te:TE}
def aG (X:Cx)(c:Code):Around:=X.A.in1.in1.over c []
def ogen (g:Nat)(x y:Value):Obj:={cls:=.type "generator",data:=.fields #[.int g 0,x,y]}
theorem zgG {X:Cx}{it:Value}{cenv:Env}(h:X.A.frames=some X.stack):(aG X (zaW elt tg iter scope gpos it cenv)).frames=some (cenv::X.stack):=by
 show pushEnvs (zaW elt tg iter scope gpos it cenv).envs (pushEnvs (envsOf ([].map Frame.where_)) X.A.frames)=_
 rw[h];rfl
def Sta (G:Cx)(fp:List Addr)(tn:Nat->Heap->Prop)(a:Addr)(og:Obj)(g:Nat)(W:Nat->L2.St->Hp->Prop):GP:=fun i s=>g<s.gens.size/\tn i s.heap/\∃σ H,Inv G [(a,og)] σ H s/\(∀b∈fp,H b=none)/\W i σ H
theorem ze0 {G:Cx}{fp:List Addr}{tn:Nat->Heap->Prop}{a:Addr}{x y:Value}{g:Nat}{W:Nat->L2.St->Hp->Prop}:Holds a g (Sta G fp tn a (ogen g x y) g W) (Sta G fp tn a (ogen g x y) g W) where
 bare:=fun i s ⟨_,_,σ,H,J,_,_⟩ =>J.bare
 gen:=fun i s ⟨_,_,σ,H,J,_,_⟩ =>⟨_,x,y,(J.pin (a,ogen g x y) (was _ (wak.mpr rfl))).1,rfl,rfl,rfl⟩
 lim:=fun i s ⟨_,_,σ,H,J,_,_⟩ =>J.nolimit
 size:=fun i s h=>h.1
 on:=fun i s gs hb ⟨h1,h2,σ,H,J,h3,h4⟩ =>by
  have b1:AllBare (s.setGen g gs).gens:=zcp J.bare hb rfl
  have b2:AllBare ((s.setGen g gs).setGen g .running).gens:=zcp b1 rfl rfl
  exact⟨by rw[zaw,zaw];exact h1,h2,σ,H,zee (s:=s) (gs:=((s.setGen g gs).setGen g .running).gens) J b2,h3,h4⟩
theorem zly {pins:List (Addr×Obj)}{σ:L2.St}{s4:Shared}{H1:Hp}{fp:List Addr}{it:Addr}{tn:Nat->Heap->Prop}{J:It}{code:Value}{Q:VK}{n:Nat}{tr:Nat->Bool}{W:Nat->L2.St->Hp->Prop}{mm:Str->Option Value}{h':Heap}{tk:Nat}{x y:Value}
 (I:Inv X pins σ H1 s4) (T:Turn X.prog X.w X.K tg J fp it tn) (st:tn 0 s4.heap) (f2:∀b∈fp,FpOk X pins H1 b) (hh:X.A.handled=none) (hroom:X.A.depth<recursionLimit) (hco:scope.isCoroutine=false) (hkind:scope.kind=.function)
 (hcl:∀x c,cl.lookup x=some c->X.env.cells.lookup x=some c)
 (hhas:∀x,(scope.names.lookup x=some .cell\/scope.names.lookup x=some .free)->∃c,cl.lookup x=some c)
 (hfr:∀(i:Nat) (x:Str) (j:Nat),NC[i]?=some x->fr[i]?=some (some j)->X.N[j]?=some x/\Vis X.env.scope x/\X.env.kindOf x≠some .local/\(scope.names.lookup x=some .cell\/scope.names.lookup x=some .free))
 (hlen:fr.length=NC.length)
 (hg:PG (gcx X scope cl NC s4.heap.objs.size code builtinsNs (aG X (zaW elt tg iter scope gpos (.ref it) (genEnv scope cl s4.heap.objs.size code builtinsNs X.env))) s4 H1 fp (X.pn++pins)) tg g)
 (he:PE (gcx X scope cl NC s4.heap.objs.size code builtinsNs (aG X (zaW elt tg iter scope gpos (.ref it) (genEnv scope cl s4.heap.objs.size code builtinsNs X.env))) s4 H1 fp (X.pn++pins)) elt te)
 (w0:W 0 (pick σ fr) H1) (step:∀i σ2 H2,i<n->W i σ2 H2->J.go i H2/\∀x H3,J.yld i H2 x H3->g x σ2 H3 fun σ4 H4=>te σ4 H4 fun v H6=>v=.bl (tr i)/\W (i+1) σ4 H6)
 (stop:∀i σ2 H2,i<n->tr i=false->W (i+1) σ2 H2->Q (.bl ((List.range n).all tr)) H2) (done:∀σ2 H2,W n σ2 H2->J.stop n H2/\Q (.bl ((List.range n).all tr)) H2)
 (hn':h'.Ns s4.heap.objs.size mm) (hs':Heap.SameBut s4.heap.objs.size (s4.heap.push frO) h') :
 wpAny (model X.prog X.w) X.A (call (.builtin "all") [.ref h'.objs.size]) (EP X pins σ Q) X.xe {s4 with gens:=s4.gens.push (.fresh (zdj elt tg iter scope gpos (.ref it) (genEnv scope cl s4.heap.objs.size code builtinsNs X.env))),toks:=tk,heap:=h'.push (ogen s4.gens.size x y)}:=by
 generalize hL:zaW elt tg iter scope gpos (.ref it) (genEnv scope cl s4.heap.objs.size code builtinsNs X.env)=L at hg he;generalize hG:gcx X scope cl NC s4.heap.objs.size code builtinsNs (aG X L) s4 H1 fp (X.pn++pins)=G at hg he;have gA:G.A=aG X L:=by rw[<-hG];rfl
 have gp:G.prog=X.prog:=by rw[<-hG];rfl
 have gw:G.w=X.w:=by rw[<-hG];rfl
 have gK:G.K=X.K:=by rw[<-hG];rfl
 have gc:G.calm=true:=by rw[<-hG];rfl
 have gE:G.env=genEnv scope cl s4.heap.objs.size code builtinsNs X.env:=by rw[<-hG];rfl
 have gx:G.xe=fun _ _=>False:=by rw[<-hG];rfl
 have gfs:∀{σ':L2.St}{H':Hp}{s':Shared},Inv G [(h'.objs.size,ogen s4.gens.size x y)] σ' H' s'->Inv X pins σ H' s':=fun {σ' H' s'} J'=>by
  subst hG;exact zjz I f2 J'
 have obj:∀b∈fp,∃o,s4.heap.get? b=some o/\∀v,o.data≠.cell v:=T.obj 0 _ st
 have start:∀gs:Array GenState,AllBare gs->Inv G [(h'.objs.size,ogen s4.gens.size x y)] (pick σ fr) H1 {s4 with gens:=gs,toks:=tk,heap:=h'.push (ogen s4.gens.size x y)}:=fun gs hb=>by
  subst hG;refine zlw I f2 obj hkind rfl hcl hhas hfr hlen hh ?_ hn' hs' hb (fun v e=>by cases e) rfl;subst hL;exact zgG I.ok.frames
 have fC:∀{H':Hp},(∀b∈fp,H' b=none)->∀b∈fp,FpOk G [(h'.objs.size,ogen s4.gens.size x y)] H' b:=fun {H'} hn b hb=>by
  obtain⟨q1,q2,q3,q4,q5,q6⟩:=f2 b hb;obtain⟨o,eo,_⟩:=obj b hb;have lt:b<s4.heap.objs.size:=wae eo
  subst hG;refine⟨hn b hb,wax lt,fun z=>?_,.inl hb,fun x c e=>q5 x c (hcl x c e),fun p hp z=>?_⟩
  ·rcases wai.mp (I.stkSub b z) with z' | z'
   ·exact q2 z'
   ·exact q3 z'
  ·have hp':p∈(X.pn++pins)++[(h'.objs.size,ogen s4.gens.size x y)]:=hp
   rcases way.mp hp' with hp' | hp'
   ·exact q6 p hp' z
   ·rw[wak.mp hp'] at z;have:h'.objs.size=s4.heap.objs.size+1:=by rw[hs'.1,wbN]
    have z:b=s4.heap.objs.size+1:=(show h'.objs.size=b from z).symm.trans this
    rw[z] at lt;exact absurd lt (Nat.not_lt.mpr (wcs _))
 have st5:tn 0 (h'.push (ogen s4.gens.size x y)):=T.keep _ _ _ st fun b hb o e=>wab _ (hs'.extBut b o (wax (wae e)) (wab _ e))
 have turn:∀i s,i<n->Sta G fp tn h'.objs.size (ogen s4.gens.size x y) s4.gens.size W i s->wpAny (model X.prog X.w) (aG X L) (pyNext (.ref it)) (fun r s1=>∃v,r=some v/\
  wpAny (model X.prog X.w) (aG X L) (letOwnedTupleGo tg (.ref it) v) (fun _ s2=>wpAny (model X.prog X.w) (aG X L) (assign tg G.env v) (fun _ s3=>
   wpAny (model X.prog X.w) (aG X L) (eval elt G.env) (fun y' s4'=>y'=.bool (tr i)/\Sta G fp tn h'.objs.size (ogen s4.gens.size x y) s4.gens.size W (i+1) s4') (fun _ _=>False) s3) (fun _ _=>False) s2) (fun _ _=>False) s1) (fun _ _=>False) s:=fun i s hi ⟨h1,h2,σ2,H2,J2,h3,h4⟩ =>by
  obtain⟨go,next⟩:=step i σ2 H2 hi h4;have q:=T.item G gp gw gK gc i _ s σ2 H2 (fun _ _=>False) J2 (fC h3) h2 go
  rw[gA] at q;refine waz (zbR (n:=s4.gens.size+1) h1 q) (fun r s1 ⟨n1,u,hr,q1⟩ =>⟨u,hr,?_⟩) fun _ _ z=>z.2
  refine waz (zbR n1 q1) (fun _ s2 ⟨n2,v,H3,J3,r3,y3,t3,f3⟩ =>?_) fun _ _ z=>z.2
  have J3':=J3.pinned (fC f3) (T.obj _ _ t3)
  have q2:=hg _ s2 σ2 H3 v u _ J3' r3 (next v H3 y3)
  rw[gp,gw,gA,gx] at q2;refine waz (zbR n2 q2) (fun _ s3 ⟨n3,σ4,H4,J4,q4⟩ =>?_) fun _ _ z=>z.2
  have q3:=he _ s3 σ4 H4 _ J4 q4
  rw[gp,gw,gA,gx] at q3;refine waz (zbR n3 q3) (fun y' s5 ⟨n5,v',H6,J6,r6,hv,w6⟩ =>?_) fun _ _ z=>z.2
  subst hv;refine⟨r6,n5,T.keep _ _ _ t3 fun b hb o e=>(J6.pin (b,o) (was _ (was _ (zaY hb e)))).1,σ4,H6,J6.unpinned,fun b hb=>?_,w6⟩;obtain⟨o,e,_⟩:=T.obj _ _ t3 b hb;exact(J6.pin (b,o) (was _ (was _ (zaY hb e)))).2.1
 have fin:∀s,Sta G fp tn h'.objs.size (ogen s4.gens.size x y) s4.gens.size W n s->wpAny (model X.prog X.w) (aG X L) (pyNext (.ref it)) (fun r s1=>r=none/\∃σ' H',Inv G [(h'.objs.size,ogen s4.gens.size x y)] σ' H' s1/\Q (.bl ((List.range n).all tr)) H') (fun _ _=>False) s:=fun s ⟨h1,h2,σ2,H2,J2,h3,h4⟩ =>by
  obtain⟨go,hq⟩:=done σ2 H2 h4;have q:=T.done G gp gw gK gc n _ s σ2 H2 (fun _ _=>False) J2 (fC h3) h2 go
  rw[gA] at q;exact waz q (fun r s1 ⟨hr,J3⟩ =>⟨hr,σ2,H2,J3,hq⟩) fun _ _ z=>z
 have wl:∀s₀ s,Sta G fp tn h'.objs.size (ogen s4.gens.size x y) s4.gens.size W 0 s->Seg (model X.prog X.w) X.A.in1.in1 (gend fun s1=>∃σ' H',Inv G [(h'.objs.size,ogen s4.gens.size x y)] σ' H' s1/\Q (.bl ((List.range n).all tr)) H') (zgE n (fun i v=>v=.bool (tr i)) (Sta G fp tn h'.objs.size (ogen s4.gens.size x y) s4.gens.size W) (Sta G fp tn h'.objs.size (ogen s4.gens.size x y) s4.gens.size W)) n s₀ L ((model X.prog X.w).den L) [] s:=fun s₀ s hs=>by
  rw[gE] at turn;subst hL;exact zjw hco turn fin n 0 s₀ s (Nat.sub_zero _) (wbo _) hs
 have self:∀(A':Around) s,Sta G fp tn h'.objs.size (ogen s4.gens.size x y) s4.gens.size W 0 s->wpAny (model X.prog X.w) A' (pyIter (.ref it)) (fun z s'=>z=.ref it/\Sta G fp tn h'.objs.size (ogen s4.gens.size x y) s4.gens.size W 0 s') (fun _ _=>False) s:=fun A' s hs=>T.self A' 0 s _ _ hs.2.1 ⟨rfl,hs⟩
 have ws:∀s₀ s,Sta G fp tn h'.objs.size (ogen s4.gens.size x y) s4.gens.size W 0 s->Seg (model X.prog X.w) X.A.in1.in1 (gend fun s1=>∃σ' H',Inv G [(h'.objs.size,ogen s4.gens.size x y)] σ' H' s1/\Q (.bl ((List.range n).all tr)) H') (zgE n (fun i v=>v=.bool (tr i)) (Sta G fp tn h'.objs.size (ogen s4.gens.size x y) s4.gens.size W) (Sta G fp tn h'.objs.size (ogen s4.gens.size x y) s4.gens.size W)) n s₀ (zdj elt tg iter scope gpos (.ref it) (genEnv scope cl s4.heap.objs.size code builtinsNs X.env)) ((model X.prog X.w).den (zdj elt tg iter scope gpos (.ref it) (genEnv scope cl s4.heap.objs.size code builtinsNs X.env))) [] s:=fun s₀ s hs=>by
  subst hL;exact zh5 wl self s₀ s hs
 have b0:AllBare (s4.gens.push (.fresh (zdj elt tg iter scope gpos (.ref it) (genEnv scope cl s4.heap.objs.size code builtinsNs X.env)))):=AllBare.push I.bare rfl
 have sta0:∀gs:Array GenState,AllBare gs->s4.gens.size<gs.size->Sta G fp tn h'.objs.size (ogen s4.gens.size x y) s4.gens.size W 0 {s4 with gens:=gs,toks:=tk,heap:=h'.push (ogen s4.gens.size x y)}:=fun gs hb hz=>⟨hz,st5,_,H1,start gs hb,fun b hb=>(f2 b hb).1,w0⟩
 have I5:=start _ b0
 have at0:At X.prog X.w X.A.in1 h'.objs.size s4.gens.size n (fun i v=>v=.bool (tr i)) (Sta G fp tn h'.objs.size (ogen s4.gens.size x y) s4.gens.size W) (Sta G fp tn h'.objs.size (ogen s4.gens.size x y) s4.gens.size W) (fun s1=>∃σ' H',Inv G [(h'.objs.size,ogen s4.gens.size x y)] σ' H' s1/\Q (.bl ((List.range n).all tr)) H') 0 {s4 with gens:=s4.gens.push (.fresh (zdj elt tg iter scope gpos (.ref it) (genEnv scope cl s4.heap.objs.size code builtinsNs X.env))),toks:=tk,heap:=h'.push (ogen s4.gens.size x y)}:=by
  refine⟨b0,⟨_,x,y,war _ rfl,rfl,rfl,rfl⟩,I5.nolimit,⟨_,Array.getElem?_push_size ..,fun s'' hs=>⟨rfl,?_⟩⟩,?_⟩
  ·rw[Nat.sub_zero];exact ws s'' s'' hs
  ·exact sta0 _ (zcp b0 rfl rfl) (by show s4.gens.size<((s4.gens.push _).setIfInBounds _ _).size;simp)
 refine zjy (P:=fun i v=>v=.bool (tr i)) (Wt:=fun i s=>At X.prog X.w X.A.in1 h'.objs.size s4.gens.size n (fun i v=>v=.bool (tr i)) (Sta G fp tn h'.objs.size (ogen s4.gens.size x y) s4.gens.size W) (Sta G fp tn h'.objs.size (ogen s4.gens.size x y) s4.gens.size W) (fun s1=>∃σ' H',Inv G [(h'.objs.size,ogen s4.gens.size x y)] σ' H' s1/\Q (.bl ((List.range n).all tr)) H') i s)
  (Fin:=fun s'=>∃H',Inv X pins σ H' s'/\Q (.bl ((List.range n).all tr)) H') (tr:=tr) (n:=n) ?_ ?_ ?_ ?_ at0.gen at0 fun s' ⟨H',J',q⟩ =>⟨.bl _,H',J',rfl,q⟩
 ·intro i v s Q' E' hv hq;subst hv;exact wag hq
 ·intro i s hi hs;refine zh7 hh hroom ze0 hi hs fun v s1 gs hP hM hb hA=>⟨v,rfl,hP,hA⟩
 ·intro s hs;refine zh8 hh hroom ze0 hs fun s1 h2 ⟨σ',H',J',hq⟩ hk=>⟨rfl,H',?_,hq⟩
  have J2:=gfs J'
  exact(zee (s:=s1) (gs:=(s1.setGen s4.gens.size .finished).gens) J2 (zcp J2.bare rfl rfl)).kept (t':=s1.toks) hk
 ·intro i s hi ht hs;obtain⟨h1,h2,σ',H',J',_,w'⟩:=hs.run;have J2:=gfs J'
  exact⟨H',zee (s:=s.setGen s4.gens.size .running) (gs:=s.gens) J2 hs.bare,stop i σ' H' hi ht w'⟩
end
def tAll (fr:List (Option Nat))(wi:TI)(g:TG)(te:TE):TE:=fun σ H Q=>wi σ H fun J H1=>∀H3:Hp,(∀b o,H1 b=some o->H3 b=some o)->(∀b,H3 b=none->H1 b=none)->∃(n:Nat) (tr:Nat->Bool) (W:Nat->L2.St->Hp->Prop),W 0 (pick σ fr) H3/\
 (∀i σ2 H2,i<n->W i σ2 H2->J.go i H2/\∀x H3,J.yld i H2 x H3->g x σ2 H3 fun σ4 H4=>te σ4 H4 fun v H6=>v=.bl (tr i)/\W (i+1) σ4 H6)/\
 (∀i σ2 H2,i<n->tr i=false->W (i+1) σ2 H2->Q (.bl ((List.range n).all tr)) H2)/\∀σ2 H2,W n σ2 H2->J.stop n H2/\Q (.bl ((List.range n).all tr)) H2
theorem znx {X:Cx}{elt tg iter:Expr}{scope:Scope}{gpos np cpos:Pos}{cl:List (Str×Addr)}{NC:List Str}{fr:List (Option Nat)}{wi:TI}{g:TG}{te:TE}{c P bm:Addr}{ob:Obj}{q:Str}
 (hcalm:X.calm=true) (B:Blt X.mg) (hi:PI X tg iter wi) (hclos:closureFor scope X.env=pure cl) (hcell:∀y∈scope.names,y.2≠.cell) (h0:scope.names.lookup (".0" : Str)=some NameKind.local) (hkind:scope.kind=.function) (hco:scope.isCoroutine=false) (hroom:X.A.depth<recursionLimit)
 (hcl:∀x c,cl.lookup x=some c->X.env.cells.lookup x=some c)
 (hhas:∀x,(scope.names.lookup x=some .cell\/scope.names.lookup x=some .free)->∃c,cl.lookup x=some c)
 (hfr:∀(i:Nat) (x:Str) (j:Nat),NC[i]?=some x->fr[i]?=some (some j)->X.N[j]?=some x/\Vis X.env.scope x/\X.env.kindOf x≠some .local/\(scope.names.lookup x=some .cell\/scope.names.lookup x=some .free))
 (hlen:fr.length=NC.length) (hcd:X.env.code=.ref c) (hC:CodeK X.K c P) (hB:BMod X.base mainGlobals X.mg bm ob) (hT:∀pins σ H s,Inv X pins σ H s->VD.TabH P q H) (hq:X.env.qual++"<genexpr>"=q)
 (hg:∀C code it s0 H0 ex pn,PG (gcx X scope cl NC C code builtinsNs (aG X (zaW elt tg iter scope gpos it (genEnv scope cl C code builtinsNs X.env))) s0 H0 ex pn) tg g)
 (he:∀C code it s0 H0 ex pn,PE (gcx X scope cl NC C code builtinsNs (aG X (zaW elt tg iter scope gpos it (genEnv scope cl C code builtinsNs X.env))) s0 H0 ex pn) elt te)
 (hgl:Gl X "all":=by rfl) (hs:∀x,genFold iter X.env x=pure x:=by intro _;rfl)
 (he1:starEach [.GeneratorExp elt [⟨tg,iter,[],0⟩] scope gpos] X.env=(false,eval (.GeneratorExp elt [⟨tg,iter,[],0⟩] scope gpos) X.env)::starEach [] X.env:=by rfl) :
 PE X (.Call (.Name "all" np) [.GeneratorExp elt [⟨tg,iter,[],0⟩] scope gpos] [] cpos) (tAll fr wi g te):=by
 intro pins s σ H Q I h;refine waG (zb0 I hgl (B "all" (by decide +kernel)) boot_all ?_ (by decide) (by decide));refine wbt ?_ he1 rfl;rw[he1];refine wbA ?_;refine wpAny_GeneratorExp_make hco hclos hcell h0 hkind hroom (thn (hi pins s σ H _ I h) fun v s1 h1=>thn h1 fun itv s2 h2=>?_) hs;obtain⟨it,fp,tn,J,H1,rfl,I2,T,st2,f2,hW⟩:=h2;obtain⟨tp,hH,hps⟩:=hT _ _ _ _ I2;refine⟨I2.nolimit,zjA I2 hcd hC hH hps hq fun code H3 s3 k1 k2 k3 k4 k5 I3=>zeZ I3 hB ?_⟩;intro h' hn' hs';obtain⟨n,tr,W,w0,step,stop,done⟩:=hW H3 k1 k2;have lt:∀b∈fp,b<s2.heap.objs.size:=fun b hb=>let ⟨o,e,_⟩:=T.obj _ _ st2 b hb;wae e
 have st3:tn 0 s3.heap:=T.keep _ _ _ st2 fun b hb o e=>k4 b o (fun z=>by
  have:=(f2 b hb).1
  rw[z,hH] at this;cases this) e
 have f3:∀b∈fp,FpOk X pins H3 b:=fun b hb=>⟨k3 b (lt b hb) (f2 b hb).1,(f2 b hb).2⟩
 have run:=fun tk=>zly (Q:=Q) (tk:=tk) (x:=.str "<genexpr>" (s3.toks+1)) (y:=.str (X.env.qual++"<genexpr>") (s3.toks+1+1)) I3 T st3 f3 (I.ok.hd hcalm) hroom hco hkind hcl hhas hfr hlen (hg _ code _ _ _ _ _) (he _ code _ _ _ _ _) w0 step stop done hn' hs'
 exact wag (run _)
end GX
namespace VD
open PySem PySem.Spec PyProof PyProof.Rows L2 PySem.W GX
def zh9 (f:D->Option Bool):List D->Option (List Bool)
 | []=>some []
 | d::ds=>(f d).bind fun b=>(zh9 f ds).bind fun bs=>some (b::bs)
theorem ze1 {f:D->Option Bool}:∀{ds:List D}{bs:List Bool},zh9 f ds=some bs->bs.length=ds.length/\∀(i:Nat) (d:D),ds[i]?=some d->f d=some (bs.getD i true)
 | [],bs,e=>by cases e;exact⟨rfl,fun i d h=>by simp at h⟩
 | d::ds,bs,e=>by
   obtain⟨b,e1,e⟩:=bind_some e;obtain⟨bs',e2,e⟩:=bind_some e;cases e;obtain⟨l,h⟩:=ze1 e2;refine⟨by simp[l],fun i x hx=>?_⟩;cases i with
   | zero=>cases hx;exact e1
   | succ i=>exact h i x (by simpa using hx)
theorem zia (bs:List Bool):(List.range bs.length).all (fun i=>bs.getD i true)=bs.all id:=by
 rw[wbb,waC,waC];constructor
 ·intro h b hb;obtain⟨i,hi,rfl⟩:=List.mem_iff_getElem.mp hb;have:=h i (wbm.mpr hi)
  simpa[List.getD,wap hi] using this
 ·intro h i hi;have hi:=wbm.mp hi
  have:=h bs[i] (List.getElem_mem hi)
  simpa[List.getD,wap hi] using this
def eAll (fr:List (Option Nat))(fi:FA)(g:FG)(fe:FE):FE:=fun ρ=>(fi ρ).bind fun ds=>(zh9 (fun d=>(g d (zaD ρ fr)).bind fun ρ1=>(fe ρ1).bind dB) ds).bind fun bs=>some (.bl (bs.all id))
theorem zny {K:W.Frag}{fr:List (Option Nat)}{wi:TI}{fi:FA}{g:FG}{is:List Nat}{fe:FE}(hi:GoI K wi fi)(hon:∀d ρ ρ',g d ρ=some ρ'->Only is ρ ρ')(hap:apart is fr=true) :
 GoE K (tAll fr wi (TGof K g) (TEof K fe)) (eAll fr fi g fe):=by
 intro Hz Jz O ρ σ H J out Q s e w;obtain⟨ds,e1,e⟩:=bind_some e;obtain⟨bs,e2,e⟩:=bind_some e;cases e;obtain⟨bl,bg⟩:=ze1 e2;refine hi Hz Jz O ρ σ H J ds _ s e1 fun I H1 J1 u1 src=>?_
 intro H3 k1 k2;have u0:Up H1 J1 H3 J1:=⟨fun b o h=>k1 b o h,fun _ h=>h,fun _ h=>.inl h,fun a h z=>u1.ja a h (k2 a z)⟩
 have fin:∀H2 J2,Up H1 J1 H2 J2->Q (.bl ((List.range ds.length).all fun i=>bs.getD i true)) H2:=fun H2 J2 u2=>by
  rw[<-bl,zia];exact w _ H2 J2 (u1.trans u2) (.bl _)
 refine⟨ds.length,fun i=>bs.getD i true,fun i σ2 H2=>i<=ds.length/\∃J2,ST K Hz Jz O.blk (zaD ρ fr) σ2 H2 J2/\Up H1 J1 H2 J2,⟨wbo _,J1,((s.up u1).up u0).pick fr,u0⟩,?_,?_,?_⟩
 ·rintro i σ2 H2 hlt ⟨_,J2,s2,u2⟩;obtain⟨_,turn⟩:=src H2 J2 u2.keep s2.ja;have hd:ds[i]?=some ds[i]:=wap hlt
  obtain⟨go,yl⟩:=turn i _ hd;obtain⟨ρ1,eg,ee⟩:=bind_some (bg i _ hd);obtain⟨xd,ex,eb⟩:=bind_some ee;refine⟨go,fun x H4 y=>?_⟩;obtain⟨J3,u3,r3⟩:=yl x H4 y;have wk:Weak (zaD ρ fr) ρ1:=zfr (hon _ _ _ eg) hap
  refine⟨Hz,Jz,O.blk,zaD ρ fr,J3,_,ρ1,s2.up u3,r3,eg,fun σ4 s4=>?_⟩;refine⟨Hz,Jz,O.blk,ρ1,J3,xd,s4,ex,fun v H6 J6 u6 r6=>?_⟩;have hxd:xd=.bl (bs.getD i true):=by
   cases xd with
   | bl b=>cases eb;rfl
   | _=>cases eb
  subst hxd;cases r6;exact⟨rfl,hlt,J6,(s4.up u6).weak wk rfl,u2.trans (u3.trans u6)⟩
 ·rintro i σ2 H2 _ _ ⟨_,J2,_,u2⟩;exact fin H2 J2 u2
 ·rintro σ2 H2 ⟨_,J2,s2,u2⟩;obtain⟨stop,_⟩:=src H2 J2 u2.keep s2.ja;exact⟨stop,fin H2 J2 u2⟩
theorem znz (N:List Str)(st:Stmt){X:Cx}{elt iter tg:Expr}{scope:Scope}{gpos np cpos:Pos}{NC:List Str}(fr:List (Option Nat)){fi:FA}{g:FG}{is:List Nat}{fe:FE}{q:Str}(hcalm:X.calm=true)(B:Blt X.mg)(hi:VI X tg iter fi)(TX:TabX X q)(hroom:X.A.depth<recursionLimit)
 (hcells:∀x,X.env.scope.names.lookup x=some .cell->∃c,X.env.cells.lookup x=some c) (hfk:X.env.scope.kind=.function) (hN:X.N=N) (hsc:X.env.scope.names=(zab st).names)
 (hfree':∀y∈scope.names,y.2=.free->(zab st).names.lookup y.1=some .cell) (hcell:∀y∈scope.names,y.2≠.cell) (hkind:scope.kind=.function) (hco:scope.isCoroutine=false) (h0:scope.names.lookup (".0" : Str)=some NameKind.local)
 (hfr':zcg N (zab st).names scope.names NC fr=true) (hlen:fr.length=NC.length) (hap:apart is fr=true) (hq:X.env.qual++"<genexpr>"=q)
 (hg:∀cl C code it s0 H0 ex pn,VG (gcx X scope cl NC C code builtinsNs (aG X (zaW elt tg iter scope gpos it (genEnv scope cl C code builtinsNs X.env))) s0 H0 ex pn) tg is g)
 (he:∀cl C code it s0 H0 ex pn,VE (gcx X scope cl NC C code builtinsNs (aG X (zaW elt tg iter scope gpos it (genEnv scope cl C code builtinsNs X.env))) s0 H0 ex pn) elt fe)
 (hgl:Gl X "all":=by rfl) (hs:∀x,genFold iter X.env x=pure x:=by intro _;rfl)
 (he1:starEach [.GeneratorExp elt [⟨tg,iter,[],0⟩] scope gpos] X.env=(false,eval (.GeneratorExp elt [⟨tg,iter,[],0⟩] scope gpos) X.env)::starEach [] X.env:=by rfl) :
 VE X (.Call (.Name "all" np) [.GeneratorExp elt [⟨tg,iter,[],0⟩] scope gpos] [] cpos) (eAll fr fi g fe):=by
 obtain⟨wi,pi,gi⟩:=hi;obtain⟨c,P,bm,ob,e1,e2,e3,hT⟩:=TX;obtain⟨_,_,hon,_⟩:=hg [] 0 .none .none X.s₀ X.Hz [] [];have hfree:∀y∈scope.names,y.2=.free->X.env.scope.names.lookup y.1=some .cell:=by rw[hsc];exact hfree'
 have hfr:zcg X.N X.env.scope.names scope.names NC fr=true:=by rw[hsc,hN];exact hfr'
 have hc:∀y∈scope.names,y.2=.free->∃c,X.env.cells.lookup y.1=some c:=fun y hy h=>hcells _ (hfree y hy h)
 refine⟨_,znx (fr:=fr) (NC:=NC) (cl:=clo X.env.cells scope.names []) hcalm B pi (zhh hc) hcell h0 hkind hco hroom (fun x c e=>zdV _ _ _ (fun _ _ z=>by cases z) hc x c e) (fun x hx=>?_) (fun i x j h1 h2=>?_) hlen e1 e2 e3 (fun pins σ H s I=>pers_T.st I.base hT) hq (fun C code it s0 H0 ex pn=>(hg _ C code it s0 H0 ex pn).of) (fun C code it s0 H0 ex pn=>(he _ C code it s0 H0 ex pn).of) hgl hs he1,zny gi hon hap⟩
 ·refine zdW _ _ _ x (.inr (zbj ?_));rcases hx with e | e
  ·exact absurd rfl (hcell _ (zbj e))
  ·exact e
 ·have hm:(x,some j)∈NC.zip fr:=by
   have:(NC.zip fr)[i]?=some (x,some j):=by rw[wbP];exact⟨h1,h2⟩
   exact waJ this
  have q:=waC.mp hfr _ hm
  have q':((X.N[j]? == some x)&&(X.env.scope.names.lookup x == some .cell)&&(scope.names.lookup x == some .free))=true:=q
  simp only[waA,beq_iff_eq] at q';obtain⟨⟨q1,q2⟩,q3⟩:=q';refine⟨q1,.inr (.inl q2),?_,.inr q3⟩;intro z;have z':X.env.scope.names.lookup x=some .local:=z
  rw[q2] at z';cases z'
theorem vgg (i:Nat){X:Cx}{scope:Scope}{cl:List (Str×Addr)}{NC:List Str}{C:Addr}{code:Value}{bi:Addr}{A':Around}{s0:Shared}{H0:Hp}{ex:List Addr}{pn:List (Addr×Obj)}{x:Str}{pos:Pos}(nd:NC.Nodup:=by decide +kernel)(hi:NC[i]?=some x:=by rfl)(hx:scope.names.lookup x=some .local:=by rfl) :
 VG (gcx X scope cl NC C code bi A' s0 H0 ex pn) (.Name x pos) [i] (gN i):=⟨_,zfj (X:=gcx X scope cl NC C code bi A' s0 H0 ex pn) nd hi (.inl hx) (.inr hx),zfq⟩
theorem zjB {X:Cx}{k:Nat}{elt tg iter:Expr}{scope:Scope}{gpos:Pos}{it:Value}{cenv:Env}(r:Room (k+1) X.A):Room k (aG X (zaW elt tg iter scope gpos it cenv)):=by
 have hd:=r.dp
 have hu:=r.un
 refine⟨r.hd,?_,?_,?_⟩
 ·show X.A.depth+0+(zaW elt tg iter scope gpos it cenv).weight+3*k+5<recursionLimit
  have:(zaW elt tg iter scope gpos it cenv).weight=1:=rfl
  omega
 ·show X.A.units+1+1+0+(zaW elt tg iter scope gpos it cenv).cUnits+16*k+200<cLine
  have:(zaW elt tg iter scope gpos it cenv).cUnits<=3:=by first | exact wam _ | decide
  omega
 ·show pushGuards (zaW elt tg iter scope gpos it cenv).guards (pushGuards [] X.A.guards)=some []
  rw[r.gd];rfl
theorem zor (N:List Str)(st:Stmt){X:Cx}{k:Nat}{elt iter tg:Expr}{scope:Scope}{gpos np cpos:Pos}{NC:List Str}(fr:List (Option Nat)){fi:FA}{g:FG}{is:List Nat}{fe:FE}{q:Str}(hr:Room k X.A)(B:Blt X.mg)(TX:TabX X q)(hi:VI X tg iter fi)
 (hg:∀{cl C code A' s0 H0 ex pn},VG (gcx X scope cl NC C code builtinsNs A' s0 H0 ex pn) tg is g)
 (he:∀{cl C code it s0 H0 ex pn},VE (gcx X scope cl NC C code builtinsNs (aG X (zaW elt tg iter scope gpos it (genEnv scope cl C code builtinsNs X.env))) s0 H0 ex pn) elt fe)
 (hcalm:X.calm=true:=by rfl) (hcells:∀x,X.env.scope.names.lookup x=some .cell->∃c,X.env.cells.lookup x=some c:=by exact fun x h=>zbp h) (hfk:X.env.scope.kind=.function:=by rfl) (hN:X.N=N:=by rfl) (hsc:X.env.scope.names=(zab st).names:=by rfl)
 (hfree':∀y∈scope.names,y.2=.free->(zab st).names.lookup y.1=some .cell:=by decide +kernel) (hcell:∀y∈scope.names,y.2≠.cell:=by decide +kernel) (hkind:scope.kind=.function:=by rfl) (hco:scope.isCoroutine=false:=by rfl) (h0:scope.names.lookup (".0" : Str)=some NameKind.local:=by rfl)
 (hfr':zcg N (zab st).names scope.names NC fr=true:=by decide +kernel) (hlen:fr.length=NC.length:=by rfl) (hap:apart is fr=true:=by decide) (hq:X.env.qual++"<genexpr>"=q:=by decide +kernel)
 (hgl:Gl X "all":=by rfl) (hs:∀x,genFold iter X.env x=pure x:=by intro _;rfl)
 (he1:starEach [.GeneratorExp elt [⟨tg,iter,[],0⟩] scope gpos] X.env=(false,eval (.GeneratorExp elt [⟨tg,iter,[],0⟩] scope gpos) X.env)::starEach [] X.env:=by rfl) :
 VE X (.Call (.Name "all" np) [.GeneratorExp elt [⟨tg,iter,[],0⟩] scope gpos] [] cpos) (eAll fr fi g fe):=
 znz N st fr hcalm B hi TX hr.depth hcells hfk hN hsc hfree' hcell hkind hco h0 hfr' hlen hap hq (fun _ _ _ _ _ _ _ _=>hg) (fun _ _ _ _ _ _ _ _=>he) hgl hs he1
end VD
namespace VD
open PySem PySem.Spec PyProof PyProof.Rows L2 PySem.W GX EX
theorem zlz {X:Cx}{k:Nat}{elt tg iter:Expr}{scope:Scope}{gpos np cpos:Pos}{cl:List (Str×Addr)}{f:FE}(hr:Room k X.A)(B:Blt X.mg)(h:VQ X iter f)(hclos:closureFor scope X.env=pure cl:=by rfl)(hcell:∀y∈scope.names,y.2≠.cell:=by decide +kernel)(h0:scope.names.lookup (".0" : Str)=some NameKind.local:=by rfl)(hkind:scope.kind=.function:=by rfl)(hco:scope.isCoroutine=false:=by rfl)
 (hgl:Gl X "all":=by rfl) (hs:∀x,genFold iter X.env x=pure x:=by intro _;rfl)
 (he1:starEach [.GeneratorExp elt [⟨tg,iter,[],0⟩] scope gpos] X.env=(false,eval (.GeneratorExp elt [⟨tg,iter,[],0⟩] scope gpos) X.env)::starEach [] X.env:=by rfl):VQ X (.Call (.Name "all" np) [.GeneratorExp elt [⟨tg,iter,[],0⟩] scope gpos] [] cpos) f:=by
 obtain⟨t,p,q⟩:=h;refine⟨fun σ H _ E=>t σ H (fun _ _=>False) E,fun pins s σ H Q E I h=>?_,fun Hz Jz O ρ σ H J x Q E s e w=>q Hz Jz O ρ σ H J x _ E s e w⟩;refine waG (zb0 I hgl (B "all" (by decide +kernel)) boot_all ?_ (by decide) (by decide));refine wbt ?_ he1 rfl;rw[he1];refine wbA ?_;exact wpAny_GeneratorExp_make hco hclos hcell h0 hkind hr.depth (waz (PEX.no p I h) (fun _ _ z=>z.elim) fun _ _ z=>z) hs
end VD
namespace GB
open PySem PySem.Spec PyProof PyProof.Rows L2 VD GM
def Po {A:Type}(o:Option A)(R:A->Prop):Prop:=∃a,o=some a/\R a
section
variable {A B:Type}{o:Option A}{k:A->Option B}{P:A->Prop}{R:B->Prop}{a:A}
theorem sx (e:o=some a)(h:Po (k a) R):Po (o.bind k) R:=by rw[e];exact h
theorem asc {C:Type}{g:B->Option C}{R:C->Prop}(h:Po (o.bind fun x=>(k x).bind g) R):Po ((o.bind k).bind g) R:=by
 cases o with
 | none=>exact h
 | some x=>exact h
theorem Po.bind (h:Po o P)(hk:∀a,P a->Po (k a) R):Po (o.bind k) R:=by
 obtain⟨a,e,p⟩:=h;exact sx e (hk a p)
end
theorem zlA {S A:Type}{f:S->D->Option S}{ds:List D}{s0:S}{k:S->Option A}{R:A->Prop}(I:Nat->S->Prop)(h0:I 0 s0)(hs:∀i s d,ds[i]?=some d->I i s->Po (f s d) (I (i+1)))(hk:∀s,I ds.length s->Po (k s) R):Po ((zaN f s0 ds).bind k) R:=by
 have key:∀(ds:List D) (b:Nat) (s:S),(∀i s d,ds[i]?=some d->I (b+i) s->Po (f s d) (I (b+i+1)))->I b s->Po (zaN f s ds) (I (b+ds.length)):=by
  intro ds;induction ds with
  | nil=>intro b s _ h;exact⟨s,rfl,h⟩
  | cons d ds ih=>
    intro b s hf h;obtain⟨s1,e1,h1⟩:=hf 0 s d rfl h;show Po ((f s d).bind fun s=>zaN f s ds) _
    refine sx e1 ?_;rw[waV,show b+(ds.length+1)=b+1+ds.length by omega];exact ih (b+1) s1 (fun i s d hd hI=>by
     rw[show b+1+i=b+(i+1) by omega] at hI⊢;exact hf (i+1) s d hd hI) h1
 have:=key ds 0 s0 (fun i s d hd hI=>by rw[wci] at hI⊢;exact hs i s d hd hI) h0
 rw[wci] at this;exact this.bind hk
structure Itm where
 nm:Str
 wd:Str
 rk:Int
instance:Inhabited Itm:=⟨⟨"","",0⟩⟩
def Itm.d (x:Itm):D:=.tup [.str x.nm,.str x.wd]
def zbM (l:List Itm):D:=.lst (l.map Itm.d)
def zib (L:List (List Itm)):D:=.lst (L.map zbM)
inductive Lines:List Itm->List (List Itm)->Prop
 | nil {p:List Itm}:Lines p []
 | cons {p:List Itm}{L:List (List Itm)}(c:Nat) (x:Itm) (hc:c<=p.length) (h4:c<=4) (t:Lines (p.take c++[x]) L):Lines p ((p.take c++[x])::L)
def zbD (p:List Itm):List (List Itm)->List Itm
 | []=>p
 | l::L=>zbD l L
theorem Lines.snoc {c:Nat}{x:Itm}:∀{p:List Itm}{L:List (List Itm)},Lines p L->c<=(zbD p L).length->c<=4->Lines p (L++[(zbD p L).take c++[x]])
 | _,_,.nil,hc,h4=>.cons c x hc h4 .nil
 | _,_,.cons c' x' hc' h4' t,hc,h4=>.cons c' x' hc' h4' (Lines.snoc t hc h4)
theorem zdI {l:List Itm}:∀{p:List Itm}{L:List (List Itm)},zbD p (L++[l])=l
 | _,[]=>rfl
 | _,_::L=>zdI (L:=L)
theorem Lines.mem:∀{p:List Itm}{L:List (List Itm)},Lines p L->∀l∈L,l.length<=5/\l≠[]
 | _,_,.nil,_,h=>by cases h
 | _,_,.cons c x hc h4 t,l,h=>by
   rcases wai.mp h with rfl | h
   ·exact⟨by simp;omega,by simp⟩
   ·exact t.mem l h
theorem zic {p:List Itm}{L:List (List Itm)}(t:Lines p L)(hp:p.length<=5):(zbD p L).length<=5:=by
 induction t with
 | nil=>exact hp
 | cons c x hc h4 t ih=>exact ih (by simp;omega)
def zaj (l:List Itm):Itm:=l.getLast?.getD default
def part (x:Itm)(dp:Nat)(inn:List D):D:=.tup [.str x.nm,.tup [.int dp,.int 0,.int 1,.int 2],.str x.wd,.int x.rk,.non,.tup inn]
def fo:List (List Itm)->Nat->List D
 | [],_=>[]
 | l::S,d=>if d+1=l.length then part (zaj l) d (fo S (d+1))::fo S d else if d=l.length then[] else fo S d
def ot (fr:Str->Bool):Nat->List D->List D
 | 0,_=>[]
 | n+1,ds=>ds.flatMap fun d=>match d with
   | .tup [_,_,.str w,_,_,.tup inn]=>if fr w then d::ot fr n inn else[]
   | _=>[]
def al (fr:Str->Bool)(p:List Itm)(d:Nat):Bool:=(p.take d).all fun x=>fr x.wd
def sm (a:Nat->Bool)(G:Nat->List D):Nat->List D
 | 0=>[]
 | d+1=>(if a d then G d else[])++sm a G d
theorem zid {a:Nat->Bool}{G:Nat->List D}{m:Nat}(h:∀d,m<=d->G d = []):∀k,sm a G (m+k)=sm a G m
 | 0=>rfl
 | k+1=>by
   show(if a (m+k) then G (m+k) else[])++sm a G (m+k)=_
   rw[h _ (by omega),zid h k];simp
theorem zge {a b:Nat->Bool}{G K:Nat->List D}:∀{m:Nat},(∀d,d<m->a d=b d/\G d=K d)->sm a G m=sm b K m
 | 0,_=>rfl
 | m+1,h=>by
   show(if a m then G m else[])++sm a G m=(if b m then K m else[])++sm b K m
   rw[(h m (by omega)).1,(h m (by omega)).2,zge fun d hd=>h d (by omega)]
theorem zfA:∀{p:List Itm}{S:List (List Itm)},Lines p S->∀d,p.length<d->fo S d = []
 | _,_,.nil,_,_=>rfl
 | p,_,.cons (L:=S) c x hc h4 t,d,hd=>by
   have hl:(p.take c++[x]).length=c+1:=by simp;omega
   show(if d+1=(p.take c++[x]).length then _ else if d=(p.take c++[x]).length then[] else fo S d) = []
   rw[hl,if_neg (by omega)];by_cases e:d=c+1
   ·rw[if_pos e]
   ·rw[if_neg e];exact zfA t d (by rw[hl];omega)
def nr:D->Int×Str
 | .tup [.str n,_,_,.int r,_,_]=>(r,n)
 | _=>(0,"")
def opn (fr:Str->Bool)(S:List (List Itm)):List (Int×Str):=(S.filter fun l=>l.all fun x=>fr x.wd).map fun l=>((zaj l).rk,(zaj l).nm)
theorem zef {fr:Str->Bool}{n:Nat}{x:Itm}{dp:Nat}{inn ds:List D}:ot fr (n+1) (part x dp inn::ds)=(if fr x.wd then part x dp inn::ot fr n inn else[])++ot fr (n+1) ds:=by
 show(List.flatMap _ (_::ds))=_
 rw[wbJ];rfl
theorem zkg (fr:Str->Bool):∀{p:List Itm}{S:List (List Itm)},Lines p S->opn fr S=(sm (al fr p) (fun d=>ot fr (8 - d) (fo S d)) (p.length+1)).map nr
 | p,_,.nil=>by
   have:∀m,sm (al fr p) (fun d=>ot fr (8 - d) (fo [] d)) m = []:=fun m=>by
    induction m with
    | zero=>rfl
    | succ m ih=>
      show(if al fr p m then ot fr (8 - m) [] else[])++sm _ _ m = []
      rw[ih];have:ot fr (8 - m) [] = []:=by cases 8 - m <;> rfl
      rw[this];simp
   rw[this];rfl
 | p,_,.cons (L:=S) c x hc h4 t=>by
   have hl:(p.take c++[x]).length=c+1:=by simp;omega
   have ih:=zkg fr t
   rw[hl] at ih;have f1:fo ((p.take c++[x])::S) c=part x c (fo S (c+1))::fo S c:=by
    show(if c+1=(p.take c++[x]).length then part (zaj (p.take c++[x])) c (fo S (c+1))::fo S c else _)=_
    rw[if_pos hl.symm];congr 1;simp[zaj]
   have f2:∀d,d<c->fo ((p.take c++[x])::S) d=fo S d:=fun d hd=>by
    show(if d+1=(p.take c++[x]).length then _ else if d=(p.take c++[x]).length then[] else fo S d)=_
    rw[hl,if_neg (by omega),if_neg (by omega)]
   have f3:∀d,c+1<=d->fo ((p.take c++[x])::S) d = []:=fun d hd=>by
    show(if d+1=(p.take c++[x]).length then _ else if d=(p.take c++[x]).length then[] else fo S d)=_
    rw[hl,if_neg (by omega)];by_cases e:d=c+1
    ·rw[if_pos e]
    ·rw[if_neg e];exact zfA t d (by rw[hl];omega)
   have o0:∀n,ot fr n [] = []:=fun n=>by cases n <;> rfl
   have e1:sm (al fr p) (fun d=>ot fr (8 - d) (fo ((p.take c++[x])::S) d)) (p.length+1)=sm (al fr p) (fun d=>ot fr (8 - d) (fo ((p.take c++[x])::S) d)) (c+1):=by
    have:=zid (a:=al fr p) (G:=fun d=>ot fr (8 - d) (fo ((p.take c++[x])::S) d)) (m:=c+1) (fun d hd=>by show ot fr (8 - d) _ = [];rw[f3 d hd,o0]) (p.length - c)
    rw[show c+1+(p.length - c)=p.length+1 by omega] at this;exact this
   have a1:∀d,d<=c->al fr (p.take c++[x]) d=al fr p d:=fun d hd=>by
    unfold al;rw[List.take_append_of_le_length (by simp;omega),List.take_take,wcv hd]
   have a2:al fr (p.take c++[x]) (c+1)=(al fr p c&&fr x.wd):=by
    unfold al;rw[List.take_of_length_le (waS hl)];simp
   have lower:sm (al fr (p.take c++[x])) (fun d=>ot fr (8 - d) (fo S d)) c=sm (al fr p) (fun d=>ot fr (8 - d) (fo ((p.take c++[x])::S) d)) c:=zge fun d hd=>⟨a1 d (by omega),by rw[f2 d hd]⟩
   have lhs:opn fr ((p.take c++[x])::S)=(if(al fr p c&&fr x.wd) then[(x.rk,x.nm)] else[])++opn fr S:=by
    unfold opn;rw[List.filter_cons];have:((p.take c++[x]).all fun x=>fr x.wd)=(al fr p c&&fr x.wd):=by unfold al;simp
    rw[this];cases(al fr p c&&fr x.wd) <;> simp[zaj]
   rw[lhs,ih,e1];show _=((if al fr p c then ot fr (8 - c) (fo ((p.take c++[x])::S) c) else[])++sm _ _ c).map nr
   have ihs:sm (al fr (p.take c++[x])) (fun d=>ot fr (8 - d) (fo S d)) (c+1+1)=(if(al fr p c&&fr x.wd) then ot fr (8 - (c+1)) (fo S (c+1)) else[])++((if al fr p c then ot fr (8 - c) (fo S c) else[])++sm (al fr (p.take c++[x])) (fun d=>ot fr (8 - d) (fo S d)) c):=by
    show(if al fr (p.take c++[x]) (c+1) then ot fr (8 - (c+1)) (fo S (c+1)) else[])++((if al fr (p.take c++[x]) c then ot fr (8 - c) (fo S c) else[])++sm (al fr (p.take c++[x])) (fun d=>ot fr (8 - d) (fo S d)) c)=_
    rw[a1 c (wam _),a2]
   rw[ihs,lower,f1,show 8 - c=(8 - (c+1))+1 by omega,zef];cases al fr p c <;> cases fr x.wd <;> simp[nr,part]
theorem zeg {fr:Str->Bool}{L:List (List Itm)}(t:Lines [] L):opn fr L=(ot fr 8 (fo L 0)).map nr:=by
 rw[zkg fr t];show((if al fr [] 0 then ot fr (8 - 0) (fo L 0) else[])++[]).map nr=_
 simp[al]
theorem znA {fr:Str->Bool}:∀{n:Nat}{ds:List D},(ot fr n ds).length<=(ot (fun _=>true) n ds).length
 | 0,ds=>by simp[ot]
 | n+1,ds=>by
   induction ds with
   | nil=>simp[ot]
   | cons d ds ih=>
     show(List.flatMap _ (d::ds)).length<=(List.flatMap _ (d::ds)).length
     rw[wbJ,wbJ,wat,wat];have ih:(List.flatMap _ ds).length<=(List.flatMap _ ds).length:=ih
     refine Nat.add_le_add ?_ ih;split
     ·rename_i w _ _ inn
      cases fr w
      ·simp
      ·simpa using znA (n:=n) (ds:=inn)
     ·simp
def Ok:Nat->List D->Prop
 | 0,ds=>ds = []
 | n+1,ds=>∀d∈ds,∃x dp inn,d=part x dp inn/\Ok n inn
theorem Ok.nil:∀{n:Nat},Ok n []
 | 0=>rfl
 | _+1=>fun d h=>by cases h
theorem zfB:∀{p:List Itm}{S:List (List Itm)},Lines p S->∀d,Ok (6 - d) (fo S d)
 | _,_,.nil,_=>Ok.nil
 | p,_,.cons (L:=S) c x hc h4 t,d=>by
   have hl:(p.take c++[x]).length=c+1:=by simp;omega
   show Ok (6 - d) (if d+1=(p.take c++[x]).length then part (zaj (p.take c++[x])) d (fo S (d+1))::fo S d else if d=(p.take c++[x]).length then[] else fo S d)
   rw[hl];by_cases e:d+1=c+1
   ·rw[if_pos e];have h1:=zfB t (d+1)
    have h2:=zfB t d
    rw[show 6 - d=(6 - (d+1))+1 by omega] at h2⊢;intro y hy;rcases wai.mp hy with rfl | hy
    ·exact⟨_,_,_,rfl,h1⟩
    ·exact h2 y hy
   ·rw[if_neg e];by_cases e2:d=c+1
    ·rw[if_pos e2];exact Ok.nil
    ·rw[if_neg e2];exact zfB t d
theorem Ok.up:∀{n:Nat}{ds:List D},Ok n ds->Ok (n+1) ds
 | 0,ds,h=>by rw[show ds = [] from h];exact Ok.nil
 | n+1,ds,h=>fun d hd=>by
   obtain⟨x,dp,inn,e,o⟩:=h d hd;exact⟨x,dp,inn,e,o.up⟩
end GB
namespace Pg
open PySem L2
def top (i:Nat):Stmt:=PySem.Challenge.pw_focuswalk_k11_seen_and_open.main.body.getD i (.Pass ⟨0,0,0,0⟩)
abbrev zbS:Stmt:=top 8
abbrev zbT:Stmt:=top 9
abbrev zbh:Stmt:=top 10
abbrev za6:Stmt:=top 11
abbrev zaJ:Stmt:=top 13
abbrev zcq:Stmt:=top 14
abbrev zcr:Stmt:=top 15
abbrev zbc:Stmt:=top 16
abbrev zbr:Stmt:=top 17
abbrev zb8:Stmt:=top 19
abbrev zb9:Stmt:=top 20
abbrev zca:Stmt:=top 21
abbrev zbs:Stmt:=top 22
abbrev zbN:Stmt:=top 23
abbrev zbi:Stmt:=top 24
abbrev zcU:Stmt:=top 25
end Pg
namespace Pg
open PySem PySem.Spec PyProof PyProof.Rows L2 VD EX
section
variable {P:Program}{w:World}{K:W.Frag}{mg:Str->Option Value}{base:Heap}{f g:Addr}{fd gd:FuncData}
def zaK (self:List D->Option D)(p_parts p_outer_place:D):Option D:=
 (Option.bind (some ([]:List D)) fun(x1:List D)=>(Option.bind (Option.bind (zoh [p_parts]) (zaN (fun(s2:List D) (d8:D)=>Option.bind (un2 d8) fun(y3:D×D)=>(Option.bind (dAdd p_outer_place (.tup [y3.1])) fun(x4:D)=>(Option.bind (appL s2 (.tup [x4,y3.2])) fun(x5:List D)=>(Option.bind (Option.bind (Option.bind (aC (dIx y3.2 (.int 5)) (aC (some x4) aN)) self) (extL x5)) fun(x6:List D)=>(some x6))))) x1)) fun(s2:List D)=>(Option.bind (some (.lst s2)) fun(r7:D)=>(some r7))))
def za7 (self:List D->Option D):List D->Option D:=c2 (zaK self)
def zaq:Nat->List D->Option D
 | 0=>fun _=>none
 | n+1=>za7 (zaq n)
theorem sc_placed_within:FnScope ["parts","outer_place","pairs","number","part","place"] ["parts","outer_place"] (zab za6):=fsc
theorem zcV (F:Fun K "placed_within" "placed_within" za6 f fd)(B:Blt mg){n:Nat}{self:List D->Option D}(C_placed_within:Cal P w K mg base n "placed_within" ["parts","outer_place"] (spF K self))(G_PARTS:GlobD K mg "PARTS" (.int 5)):FnOk P w K mg base CX0 (n+1) f fd ["parts","outer_place"] (spF K (za7 self)):=
 zb1 F sc_placed_within c2_len fun cdv A outer s H E hr=>by
  have nd:=sc_placed_within.nd
  refine⟨_,(zad (vsO 2 nd (zaI zah)) (zad (zbC (zkP B (zac (vv 0) zah)) (zfY rfl (zba (vgN 3 nd) (zba (vgN 4 nd) zdY))) (zad (vsS 5 nd (zav zbG zaS (vr 1) (VE.w (zc8 (zac (vv 3) zah))))) (zad (zdA 2 (zc8 (zac (vv 5) (zac (vv 4) zah)))) (zad (zj0 2 (zaC (hk:=wam _) C_placed_within hr (zac (zay (vr 4) (VE.w (zbf G_PARTS))) (zac (vv 5) zah)))) (zaA [3,4,5] zao))))) (zdZ 2 (zan (zaG (vv 2)))))),zcS ?_⟩;intro p_parts p_outer_place;unfold zaK;exact(zai (zdB rfl) fun x1=>(zai (zhw (emb:=(fun(s2:List D)=>[.val p_parts,.val p_outer_place,.own 1 (.lst s2),.un,.un,.un])) rfl (fun _=>rfl) (fun _ _=>rfl) fun s2 y3=>(zai (zaH rfl) fun x4=>(zai (zdC rfl) fun x5=>(zai (zj9 rfl) fun x6=>(zaM [3,4,5] (zaT fun _ h=>h)))))) fun s2=>(zf1 2 (zat fun _ _ h=>h))))
def zau (p_sheet:D):Option D:=
 (Option.bind ((zaq 8) [p_sheet,(.tup [])]) fun(r1:D)=>(some r1))
def zar:List D->Option D:=c1 zau
theorem zdk:FnScope ["sheet"] ["sheet"] (zab zbh):=fsc
theorem zdl (F:Fun K "placed_parts" "placed_parts" zbh f fd)(B:Blt mg)(C_placed_within:Cal P w K mg base 8 "placed_within" ["parts","outer_place"] (spF K (zaq 8))):FnOk P w K mg base CX0 (8+1) f fd ["sheet"] (spF K zar):=
 zb1 F zdk zdD fun cdv A outer s H E hr=>by
  refine⟨_,(zan (zaG (zaC C_placed_within hr (zac (vv 0) (zac (zc8 zah) zah))))),zhx ?_⟩;intro p_sheet;unfold zau;exact(zat fun _ _ h=>h)
def zbU (p_sheet p_name:D):Option D:=
 (Option.bind (Option.bind (zar [p_sheet]) dSeq) fun ds7=>Option.bind ((zbg (fun(s1:Unit) (d6:D)=>Option.bind (un2 d6) fun(y2:D×D)=>(Option.bind (Option.bind (Option.bind (dIx y2.2 (.int 0)) fun v4=>((dEqG false) v4 p_name)) dB) fun k3=>if k3 then(Option.bind (some y2.1) fun(r5:D)=>(some (Fl.ret r5:Fl (Unit) (D)))) else(some (Fl.nx ():Fl (Unit) (D))))) ()) ds7) (flK fun(s1:Unit)=>none))
def zbV:List D->Option D:=c2 zbU
theorem sc_place_of:FnScope ["sheet","name","place","part"] ["sheet","name"] (zab zbS):=fsc
theorem zfC (F:Fun K "place_of" "place_of" zbS f fd)(B:Blt mg)(C_placed_parts:Cal P w K mg base 9 "placed_parts" ["sheet"] (spF K zar))(G_NAME:GlobD K mg "NAME" (.int 0)):FnOk P w K mg base CX0 (10+1) f fd ["sheet","name"] (spF K zbV):=
 zb1 F sc_place_of c2_len fun cdv A outer s H E hr=>by
  have nd:=sc_place_of.nd
  refine⟨_,(zad (zbC (zbl (zaC C_placed_parts hr (zac (vv 0) zah))) (zfY rfl (zba (vgN 2 nd) (zba (vgN 3 nd) zdY))) (zad (zds (zcM (zfy hr) (zcl false) (VE.w (zay (vr 3) (VE.w (zbf G_NAME)))) (vr 1) (zbB _)) (zan (zaG (vv 2))) zao) (zaA [2,3] zao))) (zan zfZ)),zcS ?_⟩;intro p_sheet p_name;unfold zbU;exact(zk4 (emb:=(fun(s1:Unit)=>[.val p_sheet,.val p_name,.un,.un])) rfl (fun _=>rfl) (fun _ _=>rfl) (fun s1 y2=>(zck (zat fun _ _ h=>h) (zd3 (zaM [2,3] (zaT fun _ h=>h))))) fun s1=>(zk3 rfl))
def zbW (p_sheet p_name:D):Option D:=
 (Option.bind (Option.bind (Option.bind (zar [p_sheet]) dSeq) (zaN (fun(s1:Unit) (d6:D)=>Option.bind (un2 d6) fun(y2:D×D)=>(Option.bind (Option.bind (Option.bind (dIx y2.2 (.int 0)) fun v4=>((dEqG false) v4 p_name)) dB) fun k3=>if k3 then none else some ())) ())) fun(s1:Unit)=>(Option.bind (rz "NoPart" "name" zh3 p_name) fun(r5:D)=>(some r5)))
def zbX:List D->Option D:=VD.c2 zbW
theorem zeh (F:Fun K "place_of" "place_of" zbS f fd)(B:Blt mg)(C_placed_parts:Cal P w K mg base 9 "placed_parts" ["sheet"] (spF K zar))(G_NAME:GlobD K mg "NAME" (.int 0))(X_NoPart:XCl P w K mg "NoPart" "name" zh3):FnOk P w K mg base (CXE P w) (10+1) f fd ["sheet","name"] (spX K zbX):=
 zeW F sc_place_of VD.c2_len fun cdv A outer s H E hr L=>by
  have nd:=sc_place_of.nd
  refine⟨_,(zc1 (znq (zbl (zaC C_placed_parts hr (zac (vv 0) zah))) (zfY rfl (zba (vgN 2 nd) (zba (vgN 3 nd) zdY))) (zc1 (zoq (zcM (zfy hr) (zcl false) (VE.w (zay (vr 3) (VE.w (zbf G_NAME)))) (vr 1) (zbB _)) (zh1 zjk) zhZ) (zjl [2,3] zhZ))) (zh1 (zjm X_NoPart hr L (vv 1)))),zcS ?_⟩;intro p_sheet p_name;unfold zbW;exact(zai (zhw (emb:=(fun(s1:Unit)=>[.val p_sheet,.val p_name,.un,.un])) rfl (fun _=>rfl) (fun _ _=>rfl) fun s1 y2=>(zck (zk3 rfl) (zd3 (zaM [2,3] (zaT fun _ h=>h))))) fun s1=>(zat fun _ _ h=>h))
def zbY (p_sheet p_name:D):Option D:=
 (Option.bind (some ([]:List D)) fun(x1:List D)=>(Option.bind (some p_sheet) fun(x2:D)=>(Option.bind (Option.bind (Option.bind (zbV [p_sheet,p_name]) dSeq) (zaN (fun(s3:List D×D) (d4:D)=>(Option.bind (Option.bind (dIx s3.2 d4) (appL s3.1)) fun(x5:List D)=>(Option.bind (Option.bind (dIx s3.2 d4) fun v6=>(dIx v6 (.int 5))) fun(x7:D)=>(some (x5,x7))))) (x1,x2))) fun(s3:List D×D)=>(Option.bind (some (.lst s3.1)) fun(r8:D)=>(some r8)))))
def zaZ:List D->Option D:=c2 zbY
theorem sc_chain_of:FnScope ["sheet","name","chain","parts","number"] ["sheet","name"] (zab zbT):=fsc
theorem zfD (F:Fun K "chain_of" "chain_of" zbT f fd)(B:Blt mg)(C_place_of:Cal P w K mg base 11 "place_of" ["sheet","name"] (spF K zbV))(G_PARTS:GlobD K mg "PARTS" (.int 5)):FnOk P w K mg base CX0 (11+1) f fd ["sheet","name"] (spF K zaZ):=
 zb1 F sc_chain_of c2_len fun cdv A outer s H E hr=>by
  have nd:=sc_chain_of.nd
  refine⟨_,(zad (vsO 2 nd (zaI zah)) (zad (vsS 3 nd (vv 0)) (zad (zbC (zbl (zaC C_place_of hr (zac (vv 0) (zac (vv 1) zah)))) (vgN 4 nd) (zad (zdA 2 (zay (vr 3) (vr 4))) (zad (vsS 3 nd (zay (VE.w (zay (vr 3) (vr 4))) (VE.w (zbf G_PARTS)))) (zaA [4] zao)))) (zdZ 2 (zan (zaG (vv 2))))))),zcS ?_⟩;intro p_sheet p_name;unfold zbY;exact(zai (zdB rfl) fun x1=>(zai (zaH rfl) fun x2=>(zai (zd4 (emb:=(fun(s3:List D×D)=>[.val p_sheet,.val p_name,.own 1 (.lst s3.1),.val s3.2,.un])) rfl (fun _=>rfl) fun s3 d4=>(zai (zdC rfl) fun x5=>(zai (zaH rfl) fun x7=>(zaM [4] (zaT fun _ h=>h))))) fun s3=>(zf1 2 (zat fun _ _ h=>h)))))
def za0 (p_sheet p_name:D):Option D:=
 (Option.bind (some ([]:List D)) fun(x1:List D)=>(Option.bind (some p_sheet) fun(x2:D)=>(Option.bind (zbX [p_sheet,p_name]) fun(r8:D)=>(some r8))))
def za1:List D->Option D:=VD.c2 za0
theorem zei (F:Fun K "chain_of" "chain_of" zbT f fd)(B:Blt mg)(X_place_of:CalX P w K mg base 11 "place_of" ["sheet","name"] (spX K zbX)):FnOk P w K mg base (CXE P w) (11+1) f fd ["sheet","name"] (spX K za1):=
 zeW F sc_chain_of VD.c2_len fun cdv A outer s H E hr L=>by
  have nd:=sc_chain_of.nd
  refine⟨_,(zc1 (znp (vsO 2 nd (zaI zah))) (zc1 (znp (vsS 3 nd (vv 0))) (zgd (zls (zec X_place_of hr (zac (vv 0) (zac (vv 1) zah))) L)))),zcS ?_⟩;intro p_sheet p_name;unfold za0;exact(zai (zdB rfl) fun x1=>(zai (zaH rfl) fun x2=>(zjt (zat fun _ _ h=>h))))
def zcs (p_sheet p_name:D):Option D:=
 (Option.bind (Option.bind (Option.bind (zaZ [p_sheet,p_name]) dSeq) fun ds=>Option.bind (zh9 (fun d1=>Option.bind (Option.bind (dIx d1 (.int 2)) fun v2=>((dEqG true) v2 (.str "hidden"))) dB) ds) fun bs=>some (D.bl (bs.all id))) fun(r3:D)=>(some r3))
def zct:List D->Option D:=c2 zcs
theorem zdJ:FnScope ["sheet","name"] ["sheet","name"] (zab zaJ):=fsc
theorem zgH (F:Fun K "is_seen" "is_seen" zaJ f fd)(B:Blt mg){Pc:Hp->Prop}(pe:Pers Pc){tP:Addr}(T:TabF K mg base fd tP)(hT:∀H,Pc H->TabH tP "is_seen.<locals>.<genexpr>" H)(C_chain_of:Cal P w K mg base 12 "chain_of" ["sheet","name"] (spF K zaZ))(G_WORD:GlobD K mg "WORD" (.int 2)):FnOk P w K mg base CX0 (12+1) f fd ["sheet","name"] (pcS Pc (spF K zct)):=
 zfz pe F zdJ c2_len fun cdv A outer s H E hcv hr hPc hp=>by
  have TX:TabX (cxOf CX0 P w K mg base ["sheet","name"] "is_seen" (zab zaJ) f cdv A outer s H E).nox "is_seen.<locals>.<genexpr>":=zlf T hcv (hT _ hPc)
  refine⟨_,(zan (zaG (zor ["sheet","name"] zaJ (NC:=["part"]) [none] hr B TX (zbl (zaC C_chain_of hr (zac (vv 0) (zac (vv 1) zah)))) (vgg 0) (hq:=by show((("is_seen" : Str)++".<locals>." : Str))++"<genexpr>"=_;decide +kernel) (zc5 (zmZ (zjB hr)) (zcl true) (VE.w (zay (vr 0) (VE.w (zbf G_WORD)))) (VE.w zaz) (zbB _))))),zcS ?_⟩;intro p_sheet p_name;unfold zcs;exact(zat fun _ _ h=>h)
def zcu (p_sheet p_name:D):Option D:=
 (Option.bind (za1 [p_sheet,p_name]) fun(r8:D)=>(some r8))
def zdm:List D->Option D:=VD.c2 zcu
theorem ze2 (F:Fun K "is_seen" "is_seen" zaJ f fd)(B:Blt mg)(X_chain_of:CalX P w K mg base 12 "chain_of" ["sheet","name"] (spX K za1)):FnOk P w K mg base (CXE P w) (12+1) f fd ["sheet","name"] (spX K zdm):=
 zeW F zdJ VD.c2_len fun cdv A outer s H E hr L=>by
  refine⟨_,(zgd (zh2 (zlz hr B (zec X_chain_of hr (zac (vv 0) (zac (vv 1) zah)))) L)),zcS ?_⟩;intro p_sheet p_name;unfold zcu;exact(zjt (zat fun _ _ h=>h))
def zcv (p_sheet p_name:D):Option D:=
 (Option.bind (zaZ [p_sheet,p_name]) fun(x1:D)=>(Option.bind (some [(.str "hidden"),(.str "shut")]) fun ds11=>Option.bind ((zbg (fun(s2:Unit) (d3:D)=>(Option.bind (dSeq x1) fun ds9=>Option.bind ((zbg (fun(s4:Unit) (d5:D)=>(Option.bind (Option.bind (Option.bind (dIx d5 (.int 2)) fun v7=>((dEqG false) v7 d3)) dB) fun k6=>if k6 then(Option.bind (Option.bind (aC (some d3) (aC (dIx d5 (.int 0)) aN)) mkT) fun(r8:D)=>(some (Fl.ret (Fl.ret r8:Fl (Unit) (D)):Fl (Unit) (Fl (Unit) (D))))) else(some (Fl.nx ():Fl (Unit) (Fl (Unit) (D)))))) ()) ds9) (flK fun(s4:Unit)=>(some (Fl.nx ():Fl (Unit) (D)))))) ()) ds11) (flK fun(s2:Unit)=>(Option.bind (some D.non) fun(r10:D)=>(some r10)))))
def zcw:List D->Option D:=c2 zcv
theorem sc_why_not:FnScope ["sheet","name","chain","word","part"] ["sheet","name"] (zab zcr):=fsc
theorem zgI (F:Fun K "why_not" "why_not" zcr f fd)(B:Blt mg)(C_chain_of:Cal P w K mg base 12 "chain_of" ["sheet","name"] (spF K zaZ))(G_WORD:GlobD K mg "WORD" (.int 2))(G_NAME:GlobD K mg "NAME" (.int 0)):FnOk P w K mg base CX0 (12+1) f fd ["sheet","name"] (spF K zcw):=
 zb1 F sc_why_not c2_len fun cdv A outer s H E hr=>by
  have nd:=sc_why_not.nd
  refine⟨_,(zad (vsS 2 nd (zaC C_chain_of hr (zac (vv 0) (zac (vv 1) zah)))) (zad (zbC (zbl (zc8 (zac zaz (zac zaz zah)))) (vgN 3 nd) (zad (zbC (zbl (vv 2)) (vgN 4 nd) (zad (zds (zcM (zfy hr) (zcl false) (VE.w (zay (vr 4) (VE.w (zbf G_WORD)))) (vr 3) (zbB _)) (zan (zaG (zc8 (zac (vv 3) (zac (zay (vr 4) (VE.w (zbf G_NAME))) zah))))) zao) (zaA [4] zao))) (zaA [3,4] zao))) (zan (zaG zfT)))),zcS ?_⟩;intro p_sheet p_name;unfold zcv;exact(zai (zaH rfl) fun x1=>(zcF (emb:=(fun(s2:Unit)=>[.val p_sheet,.val p_name,.val x1,.un,.un])) rfl (fun _=>rfl) (fun s2 d3=>(zcF (emb:=(fun(s4:Unit)=>[.val p_sheet,.val p_name,.val x1,.val d3,.un])) rfl (fun _=>rfl) (fun s4 d5=>(zck (zat fun _ _ h=>h) (zd3 (zaM [4] (zaT fun _ h=>h))))) fun s4=>(zaM [3,4] (zaT fun _ h=>h)))) fun s2=>(zat fun _ _ h=>h)))
def zcx (p_sheet p_name:D):Option D:=
 (Option.bind (za1 [p_sheet,p_name]) fun(r8:D)=>(some r8))
def zbo:List D->Option D:=VD.c2 zcx
theorem ze3 (F:Fun K "why_not" "why_not" zcr f fd)(B:Blt mg)(X_chain_of:CalX P w K mg base 12 "chain_of" ["sheet","name"] (spX K za1)):FnOk P w K mg base (CXE P w) (12+1) f fd ["sheet","name"] (spX K zbo):=
 zeW F sc_why_not VD.c2_len fun cdv A outer s H E hr L=>by
  have nd:=sc_why_not.nd
  refine⟨_,(zgd (zlo 2 nd (zec X_chain_of hr (zac (vv 0) (zac (vv 1) zah))) L)),zcS ?_⟩;intro p_sheet p_name;unfold zcx;exact(zjt (zat fun _ _ h=>h))
def zcy (p_sheet p_name:D):Option D:=
 (Option.bind (Option.bind (zcw [p_sheet,p_name]) fun v1=>((dIs false) v1 D.non)) fun(r2:D)=>(some r2))
def zcz:List D->Option D:=c2 zcy
theorem zdK:FnScope ["sheet","name"] ["sheet","name"] (zab zcq):=fsc
theorem zgJ (F:Fun K "is_open" "is_open" zcq f fd)(B:Blt mg)(C_why_not:Cal P w K mg base 13 "why_not" ["sheet","name"] (spF K zcw)):FnOk P w K mg base CX0 (13+1) f fd ["sheet","name"] (spF K zcz):=
 zb1 F zdK c2_len fun cdv A outer s H E hr=>by
  refine⟨_,(zan (zaG (zc5 zmd zn9 (VE.w (zaC C_why_not hr (zac (vv 0) (zac (vv 1) zah)))) (VE.w zfT) (zbB _)))),zcS ?_⟩;intro p_sheet p_name;unfold zcy;exact(zat fun _ _ h=>h)
def zcA (p_sheet p_name:D):Option D:=
 (Option.bind (zbo [p_sheet,p_name]) fun(r8:D)=>(some r8))
def zdn:List D->Option D:=VD.c2 zcA
theorem ze4 (F:Fun K "is_open" "is_open" zcq f fd)(B:Blt mg)(X_why_not:CalX P w K mg base 13 "why_not" ["sheet","name"] (spX K zbo)):FnOk P w K mg base (CXE P w) (13+1) f fd ["sheet","name"] (spX K zdn):=
 zeW F zdK VD.c2_len fun cdv A outer s H E hr L=>by
  refine⟨_,(zgd (zh2 (znv (zec X_why_not hr (zac (vv 0) (zac (vv 1) zah)))) L)),zcS ?_⟩;intro p_sheet p_name;unfold zcA;exact(zjt (zat fun _ _ h=>h))
def zaX (self:List D->Option D)(p_parts:D):Option D:=
 (Option.bind (some ([]:List D)) fun(x1:List D)=>(Option.bind (Option.bind (dSeq p_parts) (zaN (fun(s2:List D) (d3:D)=>(Option.bind (Option.bind (Option.bind (Option.bind (dIx d3 (.int 2)) fun v5=>((dEqG false) v5 (.str "free"))) dB) fun k4=>if k4 then(Option.bind (appL s2 d3) fun(x6:List D)=>(Option.bind (Option.bind (Option.bind (aC (dIx d3 (.int 5)) aN) self) (extL x6)) fun(x7:List D)=>(some x7))) else(some s2)) fun(s8:List D)=>(some s8))) x1)) fun(s2:List D)=>(Option.bind (some (.lst s2)) fun(r9:D)=>(some r9))))
def zbt (self:List D->Option D):List D->Option D:=c1 (zaX self)
def zak:Nat->List D->Option D
 | 0=>fun _=>none
 | n+1=>zbt (zak n)
theorem sc_open_tuples:FnScope ["parts","tuples","part"] ["parts"] (zab zbr):=fsc
theorem zdw (F:Fun K "open_tuples" "open_tuples" zbr f fd)(B:Blt mg){n:Nat}{self:List D->Option D}(C_open_tuples:Cal P w K mg base n "open_tuples" ["parts"] (spF K self))(G_WORD:GlobD K mg "WORD" (.int 2))(G_PARTS:GlobD K mg "PARTS" (.int 5)):FnOk P w K mg base CX0 (n+1) f fd ["parts"] (spF K (zbt self)):=
 zb1 F sc_open_tuples zdD fun cdv A outer s H E hr=>by
  have nd:=sc_open_tuples.nd
  refine⟨_,(zad (vsO 1 nd (zaI zah)) (zad (zbC (zbl (vv 0)) (vgN 2 nd) (zad (zds (zcM (zfy hr) (zcl false) (VE.w (zay (vr 2) (VE.w (zbf G_WORD)))) (VE.w zaz) (zbB _)) (zad (zdA 1 (vv 2)) (zad (zj0 1 (zaC (hk:=wam _) C_open_tuples hr (zac (zay (vr 2) (VE.w (zbf G_PARTS))) zah))) zao)) zao) (zaA [2] zao))) (zdZ 1 (zan (zaG (vv 1)))))),zhx ?_⟩;intro p_parts;unfold zaX;exact(zai (zdB rfl) fun x1=>(zai (zd4 (emb:=(fun(s2:List D)=>[.val p_parts,.own 1 (.lst s2),.un])) rfl (fun _=>rfl) fun s2 d3=>(zai (zmT (emb:=(fun(s8:List D)=>[.val p_parts,.own 1 (.lst s8),.val d3])) (zai (zdC rfl) fun x6=>(zai (zj9 rfl) fun x7=>(zaT fun _ h=>h))) (zaT fun _ h=>h)) fun s8=>(zaM [2] (zaT fun _ h=>h)))) fun s2=>(zf1 1 (zat fun _ _ h=>h))))
def zbd (p_sheet:D):Option (RV×List D):=
 (Option.bind (Option.bind (Option.bind ((zak 8) [p_sheet]) dSeq) (zfx (fun d1=>(Option.bind (dIx d1 (.int 0)) fun z=>some (some z))))) fun(r2:List D)=>(some ((.new 1 (.lst r2)),[.non])))
def zaU:List D->Option (RV×List D):=g1 zbd
theorem zej:FnScope ["sheet"] ["sheet"] (zab zbc):=fsc
theorem zek (F:Fun K "open_parts" "open_parts" zbc f fd)(B:Blt mg)(C_open_tuples:Cal P w K mg base 8 "open_tuples" ["parts"] (spF K (zak 8)))(G_NAME:GlobD K mg "NAME" (.int 0)):FnOk P w K mg base CX0 (9+1) f fd ["sheet"] (spG K [none] zaU):=
 zhF [none] F zej rfl fun cdv A outer s H E hr=>by
  refine⟨_,(zan (zda (vnC ["sheet"] zbc (NC:=["part"]) [none] (zbl (zaC C_open_tuples hr (zac (vv 0) zah))) ((vgc 0)) (zc9) ((zay (vr 0) (VE.w (zbf G_NAME))))))),zom ?_⟩;intro p_sheet;unfold zbd;exact(zfw fun _ _ h=>h)
def zbu (S:Scr)(pLscript pLk:D):Option (RV×List D):=
 (Option.bind (Option.bind (Option.bind ((lenS S) pLscript) fun v2=>((dEqG false) v2 (.int 0))) dB) fun k1=>if k1 then(Option.bind (some ([(.int 0),(.int 0),pLk]:List D)) fun(r3:List D)=>(some ((.new 1 (.lst r3)),[.non,.non]))) else(Option.bind (Option.bind (aC (Option.bind (Option.bind ((lenS S) pLscript) fun v4=>(dMod pLk v4)) fun v5=>(ixS S pLscript v5)) (aC (some (.int 0)) (aC (some pLk) aN))) mkLs) fun(r6:List D)=>(some ((.new 1 (.lst r6)),[.non,.non]))))
def zaE (S:Scr):List D->Option (RV×List D):=g2 (zbu S)
theorem ze5:FnScope ["_law_script","_law_k"] ["_law_script","_law_k"] (zab zb8):=fsc
theorem ze6 (F:Fun K "_law_feed" "_law_feed" zb8 f fd)(B:Blt mg){Pc:Hp->Prop}(pe:Pers Pc){S:Scr}(hSq:∀H,Pc H->SqF K S H):FnOk P w K mg base CX0 (0+1) f fd ["_law_script","_law_k"] (pcS Pc (spG K [none,none] (zaE S))):=
 zle pe [none,none] F ze5 rfl fun cdv A outer s H E hcv hr hPc hp=>by
  have hS:Prs _ (SqF K S):=fun p σ H s I=>hSq _ (hp p σ H s I)
  refine⟨_,(zad (zds (zcM (zfy hr) (zcl false) (VE.w (zhK hS B (vv 0))) (VE.w zag) (zbB _)) (zan (zda (zaI (zac zag (zac zag (zac (vv 1) zah)))))) zao) (zan (zda (zaI (zac (zm8 hS (vv 0) (zav zcK zcN (vr 1) (VE.w (zhK hS B (vv 0))))) (zac zag (zac (vv 1) zah))))))),zm3 ?_⟩;intro pLscript pLk;unfold zbu;exact(zck (zfw fun _ _ h=>h) (zd3 (zfw fun _ _ h=>h)))
def zbv (pLfeed_here pLmany:D):Option (RV×List D):=
 (Option.bind (Option.bind (Option.bind (dIx pLfeed_here (.int 1)) fun v1=>(dAdd v1 (.int 1))) fun v2=>(zi8 pLfeed_here (.int 1) v2)) fun(x3:D)=>(Option.bind (Option.bind (Option.bind (dIx x3 (.int 0)) fun v5=>(Option.bind (dPow (.int 10) (.int 18)) fun v6=>(dGe v5 v6))) dB) fun k4=>if k4 then(Option.bind (Option.bind (dIx x3 (.int 0)) fun v7=>(dMod v7 pLmany)) fun(x8:D)=>(Option.bind (Option.bind (Option.bind (dIx x3 (.int 0)) fun v9=>(dFdiv v9 pLmany)) fun v10=>(zi8 x3 (.int 0) v10)) fun(x11:D)=>(Option.bind (some x8) fun(r12:D)=>(some (.told r12,[x11,.non]))))) else(Option.bind (Option.bind (Option.bind (Option.bind (dIx x3 (.int 0)) fun v13=>(dMod v13 (.int 1000003))) fun v15=>(Option.bind (Option.bind (dIx x3 (.int 2)) fun v14=>(dMul (.int 7919) v14)) fun v16=>(dAdd v15 v16))) fun v18=>(Option.bind (Option.bind (dIx x3 (.int 1)) fun v17=>(dMul (.int 104729) v17)) fun v19=>(dAdd v18 v19))) fun(x20:D)=>(Option.bind (Option.bind (dMul x20 (.int 48271)) fun v21=>(dMod v21 (.int 2147483647))) fun(x22:D)=>(Option.bind (Option.bind (Option.bind (Option.bind (Option.bind (dMod x22 (.int 65521)) fun v23=>(Option.bind (dIx x3 (.int 1)) fun v24=>(dAdd v23 v24))) fun v25=>(dMul x22 v25)) fun v26=>(dMod v26 (.int 2147483629))) fun v27=>(dMod v27 pLmany)) fun(r28:D)=>(some (.told r28,[x3,.non])))))))
def zal:List D->Option (RV×List D):=g2 zbv
theorem scLnext:FnScope ["_law_feed_here","_law_many","_law_digit","_law_mixed"] ["_law_feed_here","_law_many"] (zab zb9):=fsc
theorem ze7 (F:Fun K "_law_next" "_law_next" zb9 f fd)(B:Blt mg):FnOk P w K mg base CX0 (0+1) f fd ["_law_feed_here","_law_many"] (spG K [some 1,none] zal):=
 zhF [some 1,none] F scLnext rfl fun cdv A outer s H E hr=>by
  have nd:=scLnext.nd
  refine⟨_,(zad (zhv 0 (VE.x (zav zbG zaS (VE.w (zay (vr 0) (VE.w zag))) (VE.w zag))) zag) (zad (zds (zcM znW zn8 (VE.w (zay (vr 0) (VE.w zag))) (VE.w (zav zma zmE (VE.w zag) (VE.w zag))) (zbB _)) (zad (vsS 2 nd (zav zcK zcN (VE.w (zay (vr 0) (VE.w zag))) (vr 1))) (zad (zhv 0 (VE.x (zav zgV zhm (VE.w (zay (vr 0) (VE.w zag))) (vr 1))) zag) (zan (zaG (vv 2))))) zao) (zad (vsS 3 nd (zav zbG zaS (VE.w (zav zbG zaS (VE.w (zav zcK zcN (VE.w (zay (vr 0) (VE.w zag))) (VE.w zag))) (VE.w (zav zeI zcO (VE.w zag) (VE.w (zay (vr 0) (VE.w zag))))))) (VE.w (zav zeI zcO (VE.w zag) (VE.w (zay (vr 0) (VE.w zag))))))) (zad (vsS 3 nd (zav zcK zcN (VE.w (zav zeI zcO (vr 3) (VE.w zag))) (VE.w zag))) (zan (zaG (zav zcK zcN (VE.w (zav zcK zcN (VE.w (zav zeI zcO (vr 3) (VE.w (zav zbG zaS (VE.w (zav zcK zcN (vr 3) (VE.w zag))) (VE.w (zay (vr 0) (VE.w zag))))))) (VE.w zag))) (vr 1)))))))),zm3 ?_⟩;intro pLfeed_here pLmany;unfold zbv;exact(zai (zf8 rfl) fun x3=>(zck (zai (zaH rfl) fun x8=>(zai (zf8 rfl) fun x11=>(zat fun _ _ h=>h))) (zd3 (zai (zaH rfl) fun x20=>(zai (zaH rfl) fun x22=>(zat fun _ _ h=>h))))))
def zbw (S:Scr)(pLscript:D):Option D:=
 (Option.bind (some (.str "abcdefghijklmnopqrstuvwxyz")) fun(x1:D)=>(Option.bind (Option.bind (Option.bind (Option.bind (some [pLscript,(.int 0)]) fun d=>some (d,())) fun q3=>Option.bind ((zaE S) q3.1) fun r4=>if q3.1.length=2 then some (r4.1,q3.2) else none) newD) fun(q5:D×Unit)=>(Option.bind (Option.bind (Option.bind (Option.bind (Option.bind (Option.bind (zd9 zal ((fun(s:D) e=>e) q5.1) [q5.1,(.int 6)]) fun q7=>some (q7.1.d,q7.2)) fun q8=>Option.bind (Option.bind (Option.bind (zd9 zal ((fun(s:D) e=>e) q8.2) [q8.2,(.int 17)]) fun q9=>some (q9.1.d,q9.2)) fun q10=>Option.bind (Option.bind (Option.bind (some (.int 40)) fun d=>some (d,q10.2)) fun q11=>Option.bind (some ([],q11.2)) fun q12=>some (q11.1::q12.1,q12.2)) fun q13=>some (q10.1::q13.1,q13.2)) fun q14=>some (q8.1::q14.1,q14.2)) fun q15=>Option.bind (mkLs q15.1) fun ds=>some (RV.new 1 (.lst ds),q15.2)) fun q16=>some (q16.1.d,q16.2)) fun q17=>Option.bind (Option.bind (Option.bind (some (.lst [(.int 0),(.int 1),(.int 1),(.int 1),(.int 1),(.int 1),(.int 1),(.int 2)])) fun d=>some (d,q17.2)) fun q18=>Option.bind (Option.bind (zd9 zal ((fun(s:D) e=>e) q18.2) [q18.2,(.int 8)]) fun q19=>some (q19.1.d,q19.2)) fun q20=>Option.bind (dIx q18.1 q20.1) fun d21=>some (d21,q20.2)) fun q22=>Option.bind (dIx q17.1 q22.1) fun d23=>some (d23,q22.2)) fun(q24:D×D)=>(Option.bind (Option.bind (zd9 zal ((fun(s:D) e=>e) q24.2) [q24.2,(.int 26)]) fun q26=>some (q26.1.d,q26.2)) fun(q27:D×D)=>(Option.bind (Option.bind (Option.bind (some (.int 1)) fun d=>some (d,q27.2)) fun q29=>Option.bind (Option.bind (zd9 zal ((fun(s:D) e=>e) q29.2) [q29.2,(.int 7)]) fun q30=>some (q30.1.d,q30.2)) fun q31=>Option.bind (dAdd q29.1 q31.1) fun d32=>some (d32,q31.2)) fun(q33:D×D)=>(Option.bind (Option.bind (Option.bind (aC (dMul (.lst [(.str "free")]) (.int 12)) (aC (Option.bind (dMul (.lst [(.str "free")]) (.int 9)) fun v34=>(dAdd v34 (.lst [(.str "shut"),(.str "shut"),(.str "hidden")]))) aN)) mkLs) fun ds=>some (.lst ds)) fun(x35:D)=>(Option.bind (Option.bind (Option.bind (Option.bind (Option.bind (Option.bind (aC (dMul (.lst [(.str "free"),(.str "shut"),(.str "hidden")]) (.int 4)) aN) mkLs) fun ds=>some (.lst ds)) fun v37=>(dAdd x35 v37)) fun d=>some (d,q33.2)) fun q38=>Option.bind (Option.bind (zd9 zal ((fun(s:D) e=>e) q38.2) [q38.2,(.int 3)]) fun q39=>some (q39.1.d,q39.2)) fun q40=>Option.bind (dIx q38.1 q40.1) fun d41=>some (d41,q40.2)) fun(q42:D×D)=>(Option.bind (some ([]:List D)) fun(x43:List D)=>(Option.bind (some (.lst [])) fun(x44:D)=>(Option.bind (Option.bind (rngA [q24.1]) (zaN (fun(s45:D×List D×D) (d46:D)=>(Option.bind (Option.bind (Option.bind (Option.bind (aC (some pLscript) (aC (dAdd (.int 1) d46) aN)) fun d=>some (d,())) fun q48=>Option.bind ((zaE S) q48.1) fun r49=>if q48.1.length=2 then some (r49.1,q48.2) else none) newD) fun(q50:D×Unit)=>(Option.bind (Option.bind (Option.bind (some s45.2.2) fun d=>some (d,q50.1)) fun q52=>Option.bind (some ((none:Option Int),q52.2)) fun l53=>Option.bind (Option.bind (Option.bind (zk9 zal [some 1,none] 0 1 (fun(s:D)=>s) (fun(s:D) e=>e) (Option.bind (Option.bind (Option.bind (Option.bind (aC (some (.int 5)) (aC (Option.bind (bLen [s45.2.2]) fun v57=>(dAdd v57 (.int 1))) aN)) bMin) fun d=>some (d,l53.2)) fun q58=>Option.bind (some ([],q58.2)) fun q59=>some (some q58.1::q59.1,q59.2)) fun q60=>some (none::q60.1,q60.2))) fun q61=>some (q61.1.d,q61.2)) fun q62=>Option.bind (dInt q62.1) fun i=>some (some i,q62.2)) fun h54=>Option.bind (dSl q52.1 l53.1 h54.1) fun d55=>some (d55,h54.2)) fun(q63:D×D)=>(Option.bind (Option.bind (Option.bind (some q63.1) fun d=>some (d,q63.2)) fun q65=>Option.bind (Option.bind (Option.bind (Option.bind (Option.bind (Option.bind (Option.bind (Option.bind (Option.bind (Option.bind (dAdd q27.1 d46) fun v66=>(dMod v66 (.int 26))) fun v67=>(dIx x1 v67)) fun v69=>(Option.bind (Option.bind (dFdiv d46 (.int 26)) fun v68=>(dAdd q33.1 v68)) fun v70=>(dMul v69 v70))) fun d=>some (d,q65.2)) fun q71=>Option.bind (Option.bind (Option.bind (Option.bind (some q42.1) fun d=>some (d,q71.2)) fun q72=>Option.bind (Option.bind (zd9 zal ((fun(s:D) e=>e) q72.2) [q72.2,(.int 12)]) fun q73=>some (q73.1.d,q73.2)) fun q74=>Option.bind (dIx q72.1 q74.1) fun d75=>some (d75,q74.2)) fun q76=>Option.bind (some ([],q76.2)) fun q77=>some (q76.1::q77.1,q77.2)) fun q78=>some (q71.1::q78.1,q78.2)) fun q79=>Option.bind (mkT q79.1) fun d80=>some (d80,q79.2)) fun q81=>Option.bind (some ([],q81.2)) fun q82=>some (q81.1::q82.1,q82.2)) fun q83=>Option.bind (mkLs q83.1) fun ds=>some (RV.new 1 (.lst ds),q83.2)) fun q84=>some (q84.1.d,q84.2)) fun q85=>Option.bind (dAdd q65.1 q85.1) fun d86=>some (d86,q85.2)) fun(q87:D×D)=>(Option.bind (appL s45.2.1 q87.1) fun(x88:List D)=>(some (q87.2,x88,q87.1))))))) (q42.2,x43,x44))) fun(s45:D×List D×D)=>(Option.bind (some (.lst s45.2.1)) fun(r89:D)=>(some r89))))))))))))
def zbx (S:Scr):List D->Option D:=c1 (zbw S)
theorem scLrows:FnScope ["_law_script","_law_letters","_law_feed_here","_law_many","_law_turn","_law_size","_law_menu","_law_rows_here","_law_line","_law_k"] ["_law_script"] (zab zca):=fsc
theorem ze8 (F:Fun K "_law_rows" "_law_rows" zca f fd)(B:Blt mg){Pc:Hp->Prop}(pe:Pers Pc){S:Scr}(CLfeed:Cal P w K mg base 1 "_law_feed" ["_law_script","_law_k"] (pcS Pc (spG K [none,none] (zaE S))))(CLnext:Cal P w K mg base 1 "_law_next" ["_law_feed_here","_law_many"] (spG K [some 1,none] zal)):FnOk P w K mg base CX0 (4+1) f fd ["_law_script"] (pcS Pc (spF K (zbx S))):=
 zfz pe F scLrows zdD fun cdv A outer s H E hcv hr hPc hp=>by
  have nd:=scLrows.nd
  refine⟨_,(zad (vsS 1 nd zaz) (zad (zfv (i:=2) nd rfl (Or.inl rfl) (zeR CLfeed hp hr (VA.x (zac (vv 0) (zac zag zah))))) (zad (zcE (i:=3) nd rfl (Or.inl rfl) (ziK (VR.x (zj3 (zbQ (VR.x (zbJ 0 2 1 CLnext hr (zbI (zeN (VE.x zag) zbH)))) (zbQ (VR.x (zbJ 0 2 1 CLnext hr (zbI (zeN (VE.x zag) zbH)))) (zbQ (VE.x zag) zft))))) (ziK (VE.x (VN.ve (zaI (zac zag (zac zag (zac zag (zac zag (zac zag (zac zag (zac zag (zac zag zah))))))))))) (VR.x (zbJ 0 2 1 CLnext hr (zbI (zeN (VE.x zag) zbH))))))) (zad (zcE (i:=4) nd rfl (Or.inl rfl) (VR.x (zbJ 0 2 1 CLnext hr (zbI (zeN (VE.x zag) zbH))))) (zad (zcE (i:=5) nd rfl (Or.inl rfl) (zmO zbG zaS (VE.x zag) (VR.x (zbJ 0 2 1 CLnext hr (zbI (zeN (VE.x zag) zbH)))))) (zad (vsS 6 nd (VN.ve (zaI (zac (zav zeI zcO (VE.w (VN.ve (zaI (zac zaz zah)))) (VE.w zag)) (zac (zav zbG zaS (VE.w (zav zeI zcO (VE.w (VN.ve (zaI (zac zaz zah)))) (VE.w zag))) (VE.w (VN.ve (zaI (zac zaz (zac zaz (zac zaz zah))))))) zah))))) (zad (zcE (i:=6) nd rfl (Or.inl rfl) (ziK (VE.x (zav zbG zaS (vr 6) (VE.w (VN.ve (zaI (zac (zav zeI zcO (VE.w (VN.ve (zaI (zac zaz (zac zaz (zac zaz zah)))))) (VE.w zag)) zah)))))) (VR.x (zbJ 0 2 1 CLnext hr (zbI (zeN (VE.x zag) zbH)))))) (zad (vsO 7 nd (zaI zah)) (zad (vsS 8 nd (VN.ve (zaI zah))) (zad (zbC (zch B (zac (vv 3) zah)) (vgN 9 nd) (zad (zfv (i:=2) nd rfl (Or.inl rfl) (zeR CLfeed hp hr (VA.x (zac (vv 0) (zac (zav zbG zaS (VE.w zag) (vr 9)) zah))))) (zad (zcE (i:=8) nd rfl (Or.inl rfl) (ziN (VE.x (vv 8)) ziL (ziM (VR.x (zbJ 0 2 1 CLnext hr (zbI (zeN (VE.x (ve_b (zgW rfl) zmH B boot_min (zbP (VE.w zag) (zbP (VE.w (zav zbG zaS (VE.w (ve_b zfJ zjX B boot_len (zbP (vr 8) zc7))) (VE.w zag))) zc7)))) zbH))))))) (zad (zcE (i:=8) nd rfl (Or.inl rfl) (zmO zbG zaS (VE.x (vv 8)) (VR.x (zj3 (zbQ (zmP (zbQ (VE.x (zav zeI zcO (VE.w (zay (vr 1) (VE.w (zav zcK zcN (VE.w (zav zbG zaS (vr 4) (vr 9))) (VE.w zag))))) (VE.w (zav zbG zaS (vr 5) (VE.w (zav zgV zhm (vr 9) (VE.w zag))))))) (zbQ (ziK (VE.x (vv 6)) (VR.x (zbJ 0 2 1 CLnext hr (zbI (zeN (VE.x zag) zbH))))) zft))) zft))))) (zad (zdA 7 (vv 8)) (zaA [9] zao)))))) (zdZ 7 (zan (zaG (vv 7)))))))))))))),zhx ?_⟩;intro pLscript;unfold zbw;exact(zai (zaH rfl) fun x1=>(zai (zhL (emb:=(fun(s2:Unit)=>[.val pLscript,.val x1,.un,.un,.un,.un,.un,.un,.un,.un])) (zde (zhD rfl)) fun _=>rfl) fun q5=>(zai (zcG (emb:=(fun(s6:D)=>[.val pLscript,.val x1,.own 1 s6,.un,.un,.un,.un,.un,.un,.un])) (zgx (zdu (zhE (zbn (zdu (za5 (put:=((fun(s:D) e=>e) q5.1)) (as:=[none,some (.int 6)]) (d:=q5.1) rfl rfl rfl fun _=>rfl)) fun q8=>(zbn (zdu (za5 (put:=((fun(s:D) e=>e) q8.2)) (as:=[none,some (.int 17)]) (d:=q8.2) rfl rfl rfl fun _=>rfl)) fun q10=>(zbn (zd7 rfl) fun q11=>(zd8 rfl)))))) fun q17=>(zgx (zd7 rfl) fun q18=>(zdu (za5 (put:=((fun(s:D) e=>e) q18.2)) (as:=[none,some (.int 8)]) (d:=q18.2) rfl rfl rfl fun _=>rfl)))) fun _=>rfl) fun q24=>(zai (zcG (emb:=(fun(s25:D)=>[.val pLscript,.val x1,.own 1 s25,.val q24.1,.un,.un,.un,.un,.un,.un])) (zdu (za5 (put:=((fun(s:D) e=>e) q24.2)) (as:=[none,some (.int 26)]) (d:=q24.2) rfl rfl rfl fun _=>rfl)) fun _=>rfl) fun q27=>(zai (zcG (emb:=(fun(s28:D)=>[.val pLscript,.val x1,.own 1 s28,.val q24.1,.val q27.1,.un,.un,.un,.un,.un])) (zgx (zd7 rfl) fun q29=>(zdu (za5 (put:=((fun(s:D) e=>e) q29.2)) (as:=[none,some (.int 7)]) (d:=q29.2) rfl rfl rfl fun _=>rfl))) fun _=>rfl) fun q33=>(zai (zaH rfl) fun x35=>(zai (zcG (emb:=(fun(s36:D)=>[.val pLscript,.val x1,.own 1 s36,.val q24.1,.val q27.1,.val q33.1,.val x35,.un,.un,.un])) (zgx (zd7 rfl) fun q38=>(zdu (za5 (put:=((fun(s:D) e=>e) q38.2)) (as:=[none,some (.int 3)]) (d:=q38.2) rfl rfl rfl fun _=>rfl))) fun _=>rfl) fun q42=>(zai (zdB rfl) fun x43=>(zai (zaH rfl) fun x44=>(zai (zd4 (emb:=(fun(s45:D×List D×D)=>[.val pLscript,.val x1,.own 1 s45.1,.val q24.1,.val q27.1,.val q33.1,.val q42.1,.own 1 (.lst s45.2.1),.val s45.2.2,.un])) rfl (fun _=>rfl) fun s45 d46=>(zai (zhL (emb:=(fun(s47:Unit)=>[.val pLscript,.val x1,.own 1 s45.1,.val q24.1,.val q27.1,.val q33.1,.val q42.1,.own 1 (.lst s45.2.1),.val s45.2.2,.val d46])) (zde (zhD rfl)) fun _=>rfl) fun q50=>(zai (zcG (emb:=(fun(s51:D)=>[.val pLscript,.val x1,.own 1 s51,.val q24.1,.val q27.1,.val q33.1,.val q42.1,.own 1 (.lst s45.2.1),.val s45.2.2,.val d46])) (znb (zd7 rfl) (fun q52=>(zm9 rfl)) fun q52 l53=>(zna (zdu (zi1 (get:=(fun(s:D)=>s)) (put:=(fun(s:D) e=>e)) (zi0 rfl (zm0 (zd7 rfl) fun q58=>(ziZ rfl))) (fun _=>rfl) fun _ _=>rfl)))) fun _=>rfl) fun q63=>(zai (zcG (emb:=(fun(s64:D)=>[.val pLscript,.val x1,.own 1 s64,.val q24.1,.val q27.1,.val q33.1,.val q42.1,.own 1 (.lst s45.2.1),.val q63.1,.val d46])) (zgx (zd7 rfl) fun q65=>(zdu (zhE (zbn (zk8 (zbn (zd7 rfl) fun q71=>(zbn (zgx (zd7 rfl) fun q72=>(zdu (za5 (put:=((fun(s:D) e=>e) q72.2)) (as:=[none,some (.int 12)]) (d:=q72.2) rfl rfl rfl fun _=>rfl))) fun q76=>(zd8 rfl)))) fun q81=>(zd8 rfl))))) fun _=>rfl) fun q87=>(zai (zdC rfl) fun x88=>(zaM [9] (zaT fun _ h=>h))))))) fun s45=>(zf1 7 (zat fun _ _ h=>h))))))))))))
def zby (pLrows_here:D):Option D:=
 (Option.bind (some ()) fun(u1:Unit)=>(Option.bind (Option.bind (zoi [pLrows_here]) (zaN (fun(s2:List D) (d3:D)=>(Option.bind (Option.bind (bLen [d3]) fun v4=>(dSub v4 (.int 1))) fun(x5:D)=>(Option.bind (Option.bind (aC (Option.bind (Option.bind (dNeg (.int 1)) fun v6=>(dIx d3 v6)) fun v7=>(dIx v7 (.int 0))) (aC (some (.tup [x5,(.int 0),(.int 1),(.int 2)])) (aC (Option.bind (Option.bind (dNeg (.int 1)) fun v8=>(dIx d3 v8)) fun v9=>(dIx v9 (.int 1))) (aC (some x5) (aC (some D.non) (aC (Option.bind (aC (Option.bind (Option.bind (Option.bind (dAdd x5 (.int 1)) fun v10=>(ix2C s2 v10)) fun v11=>(Option.bind (dLst v11) fun ds=>some ds.reverse)) fun ds=>some (.lst ds)) aN) bTuple) aN)))))) mkT) fun(x12:D)=>(Option.bind (Option.bind (dAdd x5 (.int 1)) fun v13=>(zlg s2 [] v13)) fun(x14:List D)=>(Option.bind (zi7 x14 x5 x12) fun(x15:List D)=>(some x15)))))) [D.lst [],D.lst [],D.lst [],D.lst [],D.lst [],D.lst []])) fun(s2:List D)=>(Option.bind (Option.bind (aC (Option.bind (Option.bind (ix2C s2 (.int 0)) fun v16=>(Option.bind (dLst v16) fun ds=>some ds.reverse)) fun ds=>some (.lst ds)) aN) bTuple) fun(r17:D)=>(some r17))))
def zbz:List D->Option D:=c1 zby
theorem scLhung:FnScope ["_law_rows_here","_law_waiting","_law_line","_law_deep","_law_part"] ["_law_rows_here"] (zab zbs):=fsc
theorem ze9 (F:Fun K "_law_hung" "_law_hung" zbs f fd)(B:Blt mg):FnOk P w K mg base CX0 (1+1) f fd ["_law_rows_here"] (spF K zbz):=
 zb1 F scLhung zdD fun cdv A outer s H E hr=>by
  have nd:=scLhung.nd
  refine⟨_,(zad (ziU ["_law_rows_here","_law_waiting","_law_line","_law_deep","_law_part"] zbs (i:=1) (NC:=["_law_deep"]) [none] nd rfl (Or.inl rfl) rfl (zch B (zac zag zah)) (fun x h=>zbp h) rfl rfl rfl (by decide +kernel) (by decide +kernel) rfl (by decide +kernel) (by decide +kernel) rfl (by decide) (fun cl C s0 H0 ex pn=>(vgc 0)) (fun cl C s0 H0 ex pn=>(zaI zah))) (zad (zbC (zkZ B (zac (vv 0) zah)) (vgN 2 nd) (zad (vsS 3 nd (zav zl9 zmD (VE.w (ve_b zfJ zjX B boot_len (zbP (vr 2) zc7))) (VE.w zag))) (zad (vsS 4 nd (zc8 (zac (zay (VE.w (zay (vr 2) (VE.w (zdz zag)))) (VE.w zag)) (zac (zc8 (zac (vv 3) (zac zag (zac zag (zac zag zah))))) (zac (zay (VE.w (zay (vr 2) (VE.w (zdz zag)))) (VE.w zag)) (zac (vv 3) (zac zfT (zac (zmA zce zfX B boot_tuple (zbP (VE.w (VN.ve (zjW (zj5 1 (zav zbG zaS (vr 3) (VE.w zag)))))) zc7)) zah)))))))) (zad (zkX 1 (zaI zah) (zav zbG zaS (vr 3) (VE.w zag))) (zad (zkV 1 (vv 3) (vv 4)) (zaA [2,3,4] zao)))))) (zan (zaG (zmA zce zfX B boot_tuple (zbP (VE.w (VN.ve (zjW (zj5 1 zag)))) zc7)))))),zhx ?_⟩;intro pLrows_here;unfold zby;exact(zai (zk6 (n:=2) (x:=.lst [D.lst [],D.lst [],D.lst [],D.lst [],D.lst [],D.lst []]) rfl rfl) fun u1=>(zai (zd4 (emb:=(fun(s2:List D)=>[.val pLrows_here,.own 2 (.lst s2),.un,.un,.un])) rfl (fun _=>rfl) fun s2 d3=>(zai (zaH rfl) fun x5=>(zai (zaH rfl) fun x12=>(zai (zlh rfl) fun x14=>(zai (zli rfl) fun x15=>(zaM [2,3,4] (zaT fun _ h=>h))))))) fun s2=>(zat fun _ _ h=>h)))
def zcP (pLfound pLdue:D):Option D:=
 (Option.bind (Option.bind (Option.bind ((isD "bool") pLfound) dB) fun k1=>if k1 then((dEqG false) pLfound pLdue) else some (.bl false)) fun(r2:D)=>(some r2))
def zbe:List D->Option D:=c2 zcP
theorem zel:FnScope ["_law_found","_law_due"] ["_law_found","_law_due"] (zab zbN):=fsc
theorem zem (F:Fun K "_law_truth" "_law_truth" zbN f fd)(B:Blt mg)(K_bool:Kit K "bool"):FnOk P w K mg base CX0 (0+1) f fd ["_law_found","_law_due"] (spF K zbe):=
 zb1 F zel c2_len fun cdv A outer s H E hr=>by
  refine⟨_,(zan (zaG (zfV (zht K_bool B boot_bool (vr 0)) (zhl (zc5 (zfy hr) (zcl false) (vr 0) (vr 1) (zbB _)))))),zcS ?_⟩;intro pLfound pLdue;unfold zcP;exact(zat fun _ _ h=>h)
theorem scLrefused:FnScope ["_law_sheet","_law_name","_law_way","_law_got","e"] ["_law_sheet","_law_name","_law_way"] (zab zbi):=fsc
def zjC (pLname x:D):Option D:=
 (Option.bind (Option.bind (Option.bind (isX [("NoPart",true)] x) dB) fun k2=>if k2 then(Option.bind (Option.bind (Option.bind (Option.bind (isX [("NoPart",false)] x) dB) fun k3=>some (D.bl (!k3))) dB) fun k4=>if k4 then(Option.bind (zjq "name" ["NoPart"] x) fun v7=>((dEqG false) v7 pLname)) else some (.bl false)) else some (.bl false)) fun(r8:D)=>(some r8))
def znB (p_sheet p_name p_way:D):Option D:=
 Option.bind (some p_way) fun d=>Option.bind (dInt d) fun i=>Option.bind (atI [zdm,zdn,zbo] i) fun F=>Option.bind (aC (some p_sheet) (aC (some p_name) aN)) F
def zaQ (p_sheet p_name p_way:D):Option D:=
 (Option.bind (some D.non) fun(x1:D)=>(Option.bind (match znB p_sheet p_name p_way with | some x=>if zdi ["NoPart"] x then(Option.bind (some x) fun(x9:D)=>some x9) else none | none=>none) fun(x10:D)=>zjC p_name x10))
def zaR:List D->Option D:=VD.c3 zaQ
theorem zdo {c0 c1:Addr}(F:Fun K "_law_refused" "_law_refused" zbi f fd)(B:Blt mg)(X_is_seen:CalX P w K mg base 13 "is_seen" ["sheet","name"] (spX K zdm))(X_is_open:CalX P w K mg base 14 "is_open" ["sheet","name"] (spX K zdn))(X_why_not:CalX P w K mg base 13 "why_not" ["sheet","name"] (spX K zbo))(TY:XTy K mg "FocusError" ["NoPart"])
 (m0:mg "NoPart"=some (.ref c0)) (m1:mg "NotOpen"=some (.ref c1))
 (i0:XInst K (.ref c0) [("NoPart",true)]) (i1:XInst K (.ref c1) [("NoPart",false)]) (XF:XFld K "name" ["NoPart"]):FnOk P w K mg base CX0 (15+1) f fd ["_law_sheet","_law_name","_law_way"] (spF K zaR):=
 zb1 F scLrefused VD.c3_len fun cdv A outer s H E hr=>by
  have nd:=scLrefused.nd
  refine⟨_,(zad (vsS 3 nd zfT) (zad (zns 4 TY nd (zjn (znw (k:=14) (zed X_is_seen (zed X_is_open (zed X_why_not zlu))) hr (vv 2) (zac (vv 0) (zac (vv 1) zah)))) (zan zfZ) (fun ev=>zan (vsS 3 nd (vv 4)))) (zan (zaG (zfV (zkf i0 m0 B (vv 3)) (zfV (zmy (zkf i1 m1 B (vv 3))) (zhl (zc5 (zfy hr) (zcl false) (VE.w (zlr XF (vv 3))) (vr 1) (zbB _))))))))),zol ?_⟩;intro p_sheet p_name p_way;unfold zaQ;exact(zai (zaH rfl) fun x1=>(zai (znt (emb:=fun x10=>[.val p_sheet,.val p_name,.val p_way,.val x10,.un]) rfl (fun x=>(zmS (zaH rfl) fun _ _ h=>h)) (fun _=>zk3 rfl)) fun x10=>(by unfold zjC;exact(zat fun _ _ h=>h))))
def zjD (S:Scr)(pLscript:D):Option D:=
 (Option.bind ((zbx S) [pLscript]) fun(x1:D)=>(Option.bind (zbz [x1]) fun(x2:D)=>(Option.bind (some ([]:List D)) fun(x3:List D)=>(Option.bind (dSeq x1) fun ds53=>Option.bind ((zbg (fun(s4:List D) (d5:D)=>(Option.bind (Option.bind (Option.bind (dSeq d5) (zfx (zbq [.un,.un] (gT 2 (gCons' (gN 0) (gCons' (gN 1) gNil'))) tTrue (eVar 1)))) fun ds=>some (.lst ds)) fun(x6:D)=>(Option.bind (Option.bind (Option.bind ((dInG true) (.str "shut") x6) dB) fun k7=>if k7 then((dInG true) (.str "hidden") x6) else some (.bl false)) fun(x8:D)=>(Option.bind (Option.bind (dTru x8) fun k9=>if k9 then(Option.bind (Option.bind (Option.bind (Option.bind (dNeg (.int 1)) fun v10=>(dIx d5 v10)) fun v11=>(dIx v11 (.int 0))) (appL s4)) fun(x12:List D)=>(some x12)) else(some s4)) fun(s13:List D)=>(Option.bind (Option.bind (Option.bind (Option.bind (aC (Option.bind (aC (some x2) (aC (Option.bind (Option.bind (dNeg (.int 1)) fun v16=>(dIx d5 v16)) fun v17=>(dIx v17 (.int 0))) aN)) zct) (aC ((dInG true) (.str "hidden") x6) aN)) zbe) dTru) fun k15=>some (!k15)) fun k14=>if k14 then(Option.bind (some (.bl false)) fun(r18:D)=>(some (Fl.ret r18:Fl (List D) (D)))) else(Option.bind (Option.bind (Option.bind (Option.bind (aC (Option.bind (aC (some x2) (aC (Option.bind (Option.bind (dNeg (.int 1)) fun v21=>(dIx d5 v21)) fun v22=>(dIx v22 (.int 0))) aN)) zcz) (aC (some x8) aN)) zbe) dTru) fun k20=>some (!k20)) fun k19=>if k19 then(Option.bind (some (.bl false)) fun(r23:D)=>(some (Fl.ret r23:Fl (List D) (D)))) else(some (Fl.nx s13:Fl (List D) (D))))))))) x3) ds53) (flK fun(s4:List D)=>(Option.bind (rngA [(.int 2)]) fun ds52=>Option.bind ((zbg (fun(s24:Unit) (d25:D)=>(Option.bind (Option.bind (Option.bind (Option.bind (some [x2]) fun d=>some (d,())) fun q27=>Option.bind (zaU q27.1) fun r28=>if q27.1.length=1 then some (r28.1,q27.2) else none) newL) fun(q29:List D×Unit)=>(Option.bind (Option.bind (Option.bind (Option.bind ((isD "list") (.lst q29.1)) dTru) fun k32=>some (!k32)) fun k31=>if k31 then some true else(Option.bind ((dEqG true) (.lst q29.1) (.lst s4)) dB)) fun k30=>if k30 then(Option.bind (some (.bl false)) fun(r33:D)=>(some (Fl.ret r33:Fl (Unit) (D)))) else(Option.bind (appL q29.1 (.str "a")) fun(x34:List D)=>(some (Fl.nx ():Fl (Unit) (D))))))) ()) ds52) (flK fun(s24:Unit)=>(Option.bind (Option.bind (Option.bind (dSeq x1) (zfx (fun d35=>(Option.bind (Option.bind (Option.bind (dNeg (.int 1)) fun v36=>(dIx d35 v36)) fun v37=>(dIx v37 (.int 0))) fun z=>some (some z))))) fun ds=>some (.lst ds)) fun(x38:D)=>(Option.bind (Option.bind (Option.bind (Option.bind (Option.bind (Option.bind (dSl x38 none (some 1)) dSeq) (zfx (fun d39=>(Option.bind (dAdd d39 (.str "q")) fun z=>some (some z))))) fun ds=>some (.lst ds)) fun v40=>(dAdd (.lst [(.str ""),(.str "zzzzzzzzz"),(.str "A")]) v40)) dSeq) fun ds51=>Option.bind ((zbg (fun(s41:Unit) (d42:D)=>(Option.bind (rngA [(.int 3)]) fun ds49=>Option.bind ((zbg (fun(s43:Unit) (d44:D)=>(Option.bind (Option.bind (Option.bind ((dInG true) d42 x38) dB) fun k47=>if k47 then(Option.bind (Option.bind (zaR [x2,d42,d44]) dTru) fun k46=>some (!k46)) else some false) fun k45=>if k45 then(Option.bind (some (.bl false)) fun(r48:D)=>(some (Fl.ret (Fl.ret r48:Fl (Unit) (D)):Fl (Unit) (Fl (Unit) (D))))) else(some (Fl.nx ():Fl (Unit) (Fl (Unit) (D)))))) ()) ds49) (flK fun(s43:Unit)=>(some (Fl.nx ():Fl (Unit) (D)))))) ()) ds51) (flK fun(s41:Unit)=>(Option.bind (some (.bl true)) fun(r50:D)=>(some r50))))))))))))
def znC (S:Scr):List D->Option D:=c1 (zjD S)
theorem sc_law:FnScope ["_law_script","_law_rows_here","_law_sheet","_law_opened","_law_line","_law_words","_law_due","_law_turn","_law_found","_law_names","_law_name","_law_way"] ["_law_script"] (zab zcU):=fsc
theorem znD (F:Fun K "law" "law" zcU f fd)(B:Blt mg){Pc:Hp->Prop}(pe:Pers Pc){S:Scr}(CLrows:Cal P w K mg base 5 "_law_rows" ["_law_script"] (pcS Pc (spF K (zbx S))))(CLhung:Cal P w K mg base 2 "_law_hung" ["_law_rows_here"] (spF K zbz))(CLtruth:Cal P w K mg base 1 "_law_truth" ["_law_found","_law_due"] (spF K zbe))(C_is_seen:Cal P w K mg base 13 "is_seen" ["sheet","name"] (pcS Pc (spF K zct)))(C_is_open:Cal P w K mg base 14 "is_open" ["sheet","name"] (spF K zcz))(C_open_parts:Cal P w K mg base 10 "open_parts" ["sheet"] (spG K [none] zaU))(CLrefused:Cal P w K mg base 16 "_law_refused" ["_law_sheet","_law_name","_law_way"] (spF K zaR))(K_list:Kit K "list"):FnOk P w K mg base CX0 (17+1) f fd ["_law_script"] (pcS Pc (spF K (znC S))):=
 zfz pe F sc_law zdD fun cdv A outer s H E hcv hr hPc hp=>by
  have nd:=sc_law.nd
  refine⟨_,(zad (vsS 1 nd (zf7 CLrows hp hr (zac (vv 0) zah))) (zad (vsS 2 nd (zaC CLhung hr (zac (vv 1) zah))) (zad (vsO 3 nd (zaI zah)) (zad (zbC (zbl (vv 1)) (vgN 4 nd) (zad (And.left (zhr ["_law_script","_law_rows_here","_law_sheet","_law_opened","_law_line","_law_words","_law_due","_law_turn","_law_found","_law_names","_law_name","_law_way"] zcU (i:=5) (NC:=["_law_name","_law_word"]) [none,none] nd rfl (Or.inl rfl) rfl (zbl (vv 4)) (fun x h=>zbp h) rfl rfl rfl (by decide +kernel) (by decide +kernel) rfl (by decide +kernel) (by decide +kernel) rfl (by decide) (fun cl C s0 H0 ex pn=>(zfY (n:=2) rfl (zba (vgc 0) (zba (vgc 1) zdY)))) (fun cl C s0 H0 ex pn=>zc9) (fun cl C s0 H0 ex pn=>(vv 1)))) (zad (vsS 6 nd (zfV (zc5 (zc0 hr) (zf5 true) (VE.w zaz) (vr 5) rfl) (zhl (zc5 (zc0 hr) (zf5 true) (VE.w zaz) (vr 5) rfl)))) (zad (zds (zeH (vr 6)) (zad (zdA 3 (zay (VE.w (zay (vr 4) (VE.w (zdz zag)))) (VE.w zag))) zao) zao) (zad (zds (zfU (zeH (VE.w (zaC CLtruth hr (zac (zf7 C_is_seen hp hr (zac (vv 2) (zac (zay (VE.w (zay (vr 4) (VE.w (zdz zag)))) (VE.w zag)) zah))) (zac (zc5 (zc0 hr) (zf5 true) (VE.w zaz) (vr 5) rfl) zah)))))) (zan (zaG zhk)) zao) (zad (zds (zfU (zeH (VE.w (zaC CLtruth hr (zac (zaC C_is_open hr (zac (vv 2) (zac (zay (VE.w (zay (vr 4) (VE.w (zdz zag)))) (VE.w zag)) zah))) (zac (vv 6) zah)))))) (zan (zaG zhk)) zao) (zaA [4,5,6] zao))))))) (zad (zbC (zch B (zac zag zah)) (vgN 7 nd) (zad (zfv (i:=8) nd rfl (Or.inl rfl) (ziQ C_open_parts hr (VA.x (zac (vv 2) zah)))) (zad (zds (VP.t (zn7 (zfU (zeH (VE.w (zht K_list B boot_list (vr 8))))) (zmw (zcM (zmZ hr) (zcl true) (vr 8) (vr 3) (zbB _))))) (zan (zaG zhk)) zao) (zad (zdA 8 zaz) (zaA [7,8] zao))))) (zad (And.left (zhr ["_law_script","_law_rows_here","_law_sheet","_law_opened","_law_line","_law_words","_law_due","_law_turn","_law_found","_law_names","_law_name","_law_way"] zcU (i:=9) (NC:=["_law_line"]) [none] nd rfl (Or.inl rfl) rfl (zbl (vv 1)) (fun x h=>zbp h) rfl rfl rfl (by decide +kernel) (by decide +kernel) rfl (by decide +kernel) (by decide +kernel) rfl (by decide) (fun cl C s0 H0 ex pn=>(vgc 0)) (fun cl C s0 H0 ex pn=>zc9) (fun cl C s0 H0 ex pn=>(zay (VE.w (zay (vr 0) (VE.w (zdz zag)))) (VE.w zag))))) (zad (zbC (zbl (zav zbG zaS (VE.w (VN.ve (zaI (zac zaz (zac zaz (zac zaz zah)))))) (VE.w (VN.ve (vnC ["_law_script","_law_rows_here","_law_sheet","_law_opened","_law_line","_law_words","_law_due","_law_turn","_law_found","_law_names","_law_name","_law_way"] zcU (NC:=["_law_one"]) [none] (zbl (ziE (vr 9) zkN (zkO zag))) ((vgc 0)) (zc9) ((zav zbG zaS (vr 0) (VE.w zaz)))))))) (vgN 10 nd) (zad (zbC (zch B (zac zag zah)) (vgN 11 nd) (zad (zds (VP.t (zmx (zcM (zc0 hr) (zf5 true) (vr 10) (vr 9) rfl) (zkL (zfU (zeH (VE.w (zaC CLrefused hr (zac (vv 2) (zac (vv 10) (zac (vv 11) zah)))))))))) (zan (zaG zhk)) zao) (zaA [11] zao))) (zaA [10,11] zao))) (zan (zaG zhk))))))))),zhx ?_⟩;intro pLscript;unfold zjD;exact(zai (zaH rfl) fun x1=>(zai (zaH rfl) fun x2=>(zai (zdB rfl) fun x3=>(zcF (emb:=(fun(s4:List D)=>[.val pLscript,.val x1,.val x2,.own 1 (.lst s4),.un,.un,.un,.un,.un,.un,.un,.un])) rfl (fun _=>rfl) (fun s4 d5=>(zai (zaH rfl) fun x6=>(zai (zaH rfl) fun x8=>(zai (zmT (emb:=(fun(s13:List D)=>[.val pLscript,.val x1,.val x2,.own 1 (.lst s13),.val d5,.val x6,.val x8,.un,.un,.un,.un,.un])) (zai (zdC rfl) fun x12=>(zaT fun _ h=>h)) (zaT fun _ h=>h)) fun s13=>(zck (zat fun _ _ h=>h) (zd3 (zck (zat fun _ _ h=>h) (zd3 (zaM [4,5,6] (zaT fun _ h=>h)))))))))) fun s4=>(zcF (emb:=(fun(s24:Unit)=>[.val pLscript,.val x1,.val x2,.own 1 (.lst s4),.un,.un,.un,.un,.un,.un,.un,.un])) rfl (fun _=>rfl) (fun s24 d25=>(zai (zla (emb:=(fun(s26:Unit)=>[.val pLscript,.val x1,.val x2,.own 1 (.lst s4),.un,.un,.un,.val d25,.un,.un,.un,.un])) (zde (zhD rfl)) fun _=>rfl) fun q29=>(zck (zat fun _ _ h=>h) (zd3 (zai (zdC rfl) fun x34=>(zaM [7,8] (zaT fun _ h=>h))))))) fun s24=>(zai (zaH rfl) fun x38=>(zcF (emb:=(fun(s41:Unit)=>[.val pLscript,.val x1,.val x2,.own 1 (.lst s4),.un,.un,.un,.un,.un,.val x38,.un,.un])) rfl (fun _=>rfl) (fun s41 d42=>(zcF (emb:=(fun(s43:Unit)=>[.val pLscript,.val x1,.val x2,.own 1 (.lst s4),.un,.un,.un,.un,.un,.val x38,.val d42,.un])) rfl (fun _=>rfl) (fun s43 d44=>(zck (zat fun _ _ h=>h) (zd3 (zaM [11] (zaT fun _ h=>h))))) fun s43=>(zaM [10,11] (zaT fun _ h=>h)))) fun s41=>(zat fun _ _ h=>h))))))))
end
end Pg
namespace Pg
open PySem PyProof PyProof.Rows L2 VD GM GB
def frS (w:Str):Bool:=decide (w = "free")
theorem zbA (x:Itm)(dp:Nat)(inn:List D):dIx (part x dp inn) (.int 0)=some (.str x.nm)/\dIx (part x dp inn) (.int 2)=some (.str x.wd)/\dIx (part x dp inn) (.int 3)=some (.int x.rk)/\dIx (part x dp inn) (.int 5)=some (.tup inn):=
 ⟨zaL (j:=0) rfl,zaL (j:=2) rfl,zaL (j:=3) rfl,zaL (j:=5) rfl⟩
theorem zlB:∀{n:Nat}{ds:List D},Ok n ds->(ot (fun _=>true) (n+1) ds).length<=1000->zak (n+1) [.tup ds]=some (.lst (ot frS (n+1) ds)):=by
 intro n;induction n with
 | zero=>intro ds o _;rw[show ds = [] from o];rfl
 | succ n ih=>
   intro ds o hl;show zaX (zak (n+1)) (.tup ds)=_
   unfold zaX;rw[zOB];show Option.bind (Option.bind (some ds) _) _=_
   rw[zOB];have key:∀(ds:List D) (acc:List D),Ok (n+1) ds->acc.length+(ot (fun _=>true) (n+1+1) ds).length<=1000->zaN (fun(s2:List D) (d3:D)=>(Option.bind (Option.bind (Option.bind (Option.bind (dIx d3 (.int 2)) fun v5=>((dEqG false) v5 (.str "free"))) dB) fun k4=>if k4 then(Option.bind (appL s2 d3) fun(x6:List D)=>(Option.bind (Option.bind (Option.bind (aC (dIx d3 (.int 5)) aN) (zak (n+1))) (extL x6)) fun(x7:List D)=>(some x7))) else(some s2)) fun(s8:List D)=>(some s8))) acc ds=some (acc++ot frS (n+1+1) ds):=by
    intro ds;induction ds with
    | nil=>intro acc _ _;show some acc=some (acc++[]);rw[waF]
    | cons d ds ih2=>
      intro acc o hl;obtain⟨x,dp,inn,rfl,oi⟩:=o d waj;have od:Ok (n+1) ds:=fun y hy=>o y (waf _ hy)
      obtain⟨p0,p2,p3,p5⟩:=zbA x dp inn;rw[zef,if_pos rfl,wat,waV] at hl;have li:(ot (fun _=>true) (n+1) inn).length<=1000:=by omega
      have lf:=znA (fr:=frS) (n:=n+1) (ds:=inn)
      have e:=ih oi li
      have step:(Option.bind (Option.bind (Option.bind (Option.bind (dIx (part x dp inn) (.int 2)) fun v5=>((dEqG false) v5 (.str "free"))) dB) fun k4=>if k4 then(Option.bind (appL acc (part x dp inn)) fun(x6:List D)=>(Option.bind (Option.bind (Option.bind (aC (dIx (part x dp inn) (.int 5)) aN) (zak (n+1))) (extL x6)) fun(x7:List D)=>(some x7))) else(some acc)) fun(s8:List D)=>(some s8))=some (acc++if frS x.wd then part x dp inn::ot frS (n+1) inn else[]):=by
       rw[p2,zOB,zcn,zOB,show dB (.bl (decide (x.wd = "free")))=some (decide (x.wd = "free")) from rfl,zOB];show(Option.bind (if frS x.wd=true then _ else _) _)=_
       cases hf:frS x.wd with
       | false=>show some acc=some (acc++[]);rw[waF]
       | true=>
         rw[if_pos rfl,if_pos rfl,zcI (waM (by omega:acc.length<=1000) (by decide)),zOB,p5];show Option.bind (Option.bind (Option.bind (zak (n+1) [.tup inn]) (extL (acc++[part x dp inn]))) _) _=_
         rw[e,zOB];show Option.bind (Option.bind (if((acc++[part x dp inn])++ot frS (n+1) inn).length<=lim then some ((acc++[part x dp inn])++ot frS (n+1) inn) else none) _) _=_
         rw[if_pos (wan (by simp;omega:_<=1001) (by decide))];simp
      show Option.bind (Option.bind (Option.bind (Option.bind (Option.bind (dIx (part x dp inn) (.int 2)) fun v5=>((dEqG false) v5 (.str "free"))) dB) fun k4=>if k4 then(Option.bind (appL acc (part x dp inn)) fun(x6:List D)=>(Option.bind (Option.bind (Option.bind (aC (dIx (part x dp inn) (.int 5)) aN) (zak (n+1))) (extL x6)) fun(x7:List D)=>(some x7))) else(some acc)) fun(s8:List D)=>(some s8)) _=_
      rw[step,zOB,ih2 _ od ?_,zef,wbr];rw[wat];cases frS x.wd
      ·simp;omega
      ·simp;omega
   rw[key ds [] o (by simpa using hl)];simp
theorem zlC {L:List (List Itm)}(t:Lines [] L)(h:L.length<=1000):zak 8 [.tup (fo L 0)]=some (.lst (ot frS 8 (fo L 0))):=by
 have o:Ok 7 (fo L 0):=(zfB t 0).up
 refine zlB o ?_;have e:=waZ List.length (zeg (fr:=fun _=>true) t)
 rw[wao] at e;show(ot (fun _=>true) 8 (fo L 0)).length<=1000
 rw[<-e];unfold opn;rw[wao];exact wan (wcj _ _) h
theorem zie {fr:Str->Bool}:∀{n:Nat}{ds:List D},Ok n ds->∀d∈ot fr (n+1) ds,∃x dp inn,d=part x dp inn
 | 0,ds,o,d,h=>by rw[show ds = [] from o] at h;cases h
 | n+1,ds,o,d,h=>by
   obtain⟨y,hy,hd⟩:=List.mem_flatMap.mp (show d∈List.flatMap _ ds from h);obtain⟨x,dp,inn,rfl,oi⟩:=o y hy;have hd:d∈(if fr x.wd then part x dp inn::ot fr (n+1) inn else[]):=hd
   split at hd
   ·rcases wai.mp hd with rfl | hd
    ·exact⟨_,_,_,rfl⟩
    ·exact zie oi d hd
   ·cases hd
def innD:D->List D
 | .tup [_,_,_,_,_,.tup l]=>l
 | _=>[]
def plI (rc:List D->List D->List D->List (List D×List D))(pre ch:List D):Nat->List D->List (List D×List D)
 | _,[]=>[]
 | i,d::ds=>(pre++[.int (i:Int)],ch++[d])::(rc (innD d) (pre++[.int (i:Int)]) (ch++[d])++plI rc pre ch (i+1) ds)
theorem zen (rc:List D->List D->List D->List (List D×List D))(pre ch:List D)(b:Nat)(x:Itm)(dp:Nat)(inn es:List D):plI rc pre ch b (part x dp inn::es)=(pre++[.int (b:Int)],ch++[part x dp inn])::(rc inn (pre++[.int (b:Int)]) (ch++[part x dp inn])++plI rc pre ch (b+1) es):=rfl
def pl:Nat->List D->List D->List D->List (List D×List D)
 | 0,_,_,_=>[]
 | n+1,ds,pre,ch=>plI (pl n) pre ch 0 ds
def zcB (c:List D):D:=c.getLast?.getD .non
theorem zbZ (c:List D)(d:D):zcB (c++[d])=d:=by unfold zcB;simp
def ent (q:List D×List D):D:=.tup [.tup q.1,zcB q.2]
theorem zlD {pre:List D}{d:D}(h:pre.length<=100):dAdd (.tup pre) (.tup [d])=some (.tup (pre++[d])):=by
 rw[dAdd,if_neg (by simp)];unfold mkT;rw[if_pos (wan (by simp;omega:_<=101) (by decide))]
theorem znE {xs es:List D}(h:xs.length+es.length<=1000):extL xs (.lst es)=some (xs++es):=by
 show(if(xs++es).length<=lim then _ else _)=_
 rw[if_pos (wan (by rw[wat];omega:_<=1000) (by decide))]
theorem ac2 (a b:D):aC (some a) (aC (some b) aN)=some [a,b]:=rfl
theorem zlE {S:Type}(f:S->D->Option S)(s:S)(d:D)(ds:List D):zaN f s (d::ds)=(f s d).bind fun s=>zaN f s ds:=rfl
theorem zfa:∀{n:Nat}{ds pre ch:List D},Ok n ds->(pl (n+1) ds pre ch).length<=1000->pre.length+n<=100->zaq (n+1) [.tup ds,.tup pre]=some (.lst ((pl (n+1) ds pre ch).map ent)):=by
 intro n;induction n with
 | zero=>intro ds pre ch o _ _;rw[show ds = [] from o];rfl
 | succ n ih=>
   intro ds pre ch o hl hp;show zaK (zaq (n+1)) (.tup ds) (.tup pre)=_
   unfold zaK;rw[zOB];show Option.bind (Option.bind (some (zeJ ds)) _) _=_
   rw[zOB];generalize hf:(fun(s2:List D) (d8:D)=>Option.bind (un2 d8) _)=f;have stp:∀(acc:List D) (i:Nat) (x:Itm) (dp:Nat) (inn:List D),Ok n inn->acc.length+1+(pl (n+1) inn (pre++[.int (i:Int)]) (ch++[part x dp inn])).length<=1000->
    f acc (.tup [.int (i:Int),part x dp inn])=some (acc++ent (pre++[.int (i:Int)],ch++[part x dp inn])::(pl (n+1) inn (pre++[.int (i:Int)]) (ch++[part x dp inn])).map ent):=by
    intro acc i x dp inn oi ha;rw[<-hf];show Option.bind (dAdd (.tup pre) (.tup [.int (i:Int)])) _=_
    rw[zlD (by omega),zOB,zcI (waM (by omega:_<=1000) (by decide)),zOB,(zbA x dp inn).2.2.2,ac2,zOB,ih (ch:=ch++[part x dp inn]) oi (by omega) (by simp;omega),zOB,znE (by simp;omega),zOB];unfold ent;rw[zbZ];simp
   have key:∀(ds:List D) (b:Nat) (acc:List D),(∀d∈ds,∃x dp inn,d=part x dp inn/\Ok n inn)->acc.length+(plI (pl (n+1)) pre ch b ds).length<=1000->zaN f acc ((ds.zipIdx b).map fun p=>.tup [.int (p.2:Nat),p.1])=some (acc++(plI (pl (n+1)) pre ch b ds).map ent):=by
    intro ds;induction ds with
    | nil=>intro b acc _ _;show some acc=some (acc++[]);rw[waF]
    | cons d ds ih2=>
      intro b acc o ha;obtain⟨x,dp,inn,rfl,oi⟩:=o d waj;rw[zen] at ha⊢;rw[waV,wat] at ha;rw[List.zipIdx_cons,wbf,zlE,stp acc b x dp inn oi (by omega),zOB,ih2 _ _ (fun y hy=>o y (waf _ hy)) (by simp;omega)];simp
   have e9:=key ds 0 [] o (by rw[List.length_nil,wci];exact hl)
   rw[show(zaN f [] (zeJ ds))=_ from e9];rfl
def gC (s:List D×D)(d:D):Option (List D×D):=(Option.bind (Option.bind (dIx s.2 d) (appL s.1)) fun(x5:List D)=>(Option.bind (Option.bind (dIx s.2 d) fun v6=>(dIx v6 (.int 5))) fun(x7:D)=>(some (x5,x7))))
theorem znF {acc ds:List D}{i:Nat}{x:Itm}{dp:Nat}{inn:List D}(h:ds[i]?=some (part x dp inn))(ha:acc.length<=100):gC (acc,.tup ds) (.int (i:Int))=some (acc++[part x dp inn],.tup inn):=by
 have e:dIx (.tup ds) (.int (i:Int))=some (part x dp inn):=zaL h
 unfold gC;dsimp only[];rw[e,zOB,zOB,zcI (waM ha (by decide)),zOB,(zbA x dp inn).2.2.2];rfl
def IsP (d:D):Prop:=∃x dp inn,d=part x dp inn
theorem zkh:∀{n:Nat}{ds pre ch:List D},Ok n ds->∀q∈pl (n+1) ds pre ch,∃p c,q=(pre++p,ch++c)/\c≠[]/\(∀d∈c,IsP d)/\∀acc:List D,acc.length+n<=100->∃z,zaN gC (acc,.tup ds) p=some (acc++c,z):=by
 intro n;induction n with
 | zero=>intro ds pre ch o q hq;rw[show ds = [] from o] at hq;cases hq
 | succ n ih=>
   intro ds pre ch o;have key:∀(es:List D) (b:Nat),(∀j d,es[j]?=some d->ds[b+j]?=some d)->∀q∈plI (pl (n+1)) pre ch b es,∃p c,q=(pre++p,ch++c)/\c≠[]/\(∀d∈c,IsP d)/\∀acc:List D,acc.length+(n+1)<=100->∃z,zaN gC (acc,.tup ds) p=some (acc++c,z):=by
    intro es;induction es with
    | nil=>intro b _ q hq;cases hq
    | cons d es ih2=>
      intro b hb q hq;have hd:=hb 0 d rfl
      rw[Nat.add_zero] at hd;obtain⟨x,dp,inn,rfl,oi⟩:=o d (waJ hd);rw[zen] at hq;rcases wai.mp hq with rfl | hq
      ·refine⟨[.int (b:Int)],[part x dp inn],rfl,by simp,fun d h=>by rw[wak.mp h];exact⟨_,_,_,rfl⟩,fun acc ha=>⟨.tup inn,?_⟩⟩;show(gC (acc,.tup ds) (.int (b:Int))).bind _=_
       rw[znF hd (by omega)];rfl
      ·rcases way.mp hq with hq | hq
       ·obtain⟨p,c,rfl,h0,hp,hf⟩:=ih oi q hq;refine⟨.int (b:Int)::p,part x dp inn::c,by simp,by simp,fun d h=>?_,fun acc ha=>?_⟩
        ·rcases wai.mp h with rfl | h
         ·exact⟨_,_,_,rfl⟩
         ·exact hp d h
        ·obtain⟨z,e⟩:=hf (acc++[part x dp inn]) (by simp;omega);refine⟨z,?_⟩;show(gC (acc,.tup ds) (.int (b:Int))).bind _=_
         rw[znF hd (by omega),zOB,e];simp
       ·exact ih2 (b+1) (fun j d h=>by rw[show b+1+j=b+(j+1) by omega];exact hb (j+1) d h) q hq
   exact key ds 0 (fun j d h=>by rw[wci];exact h)
theorem zeo:∀{n:Nat}{ds pre ch:List D},Ok n ds->(pl (n+1) ds pre ch).map (fun q=>zcB q.2)=ot (fun _=>true) (n+1) ds:=by
 intro n;induction n with
 | zero=>intro ds pre ch o;rw[show ds = [] from o];rfl
 | succ n ih=>
   intro ds pre ch o;have key:∀(es:List D) (b:Nat),(∀d∈es,∃x dp inn,d=part x dp inn/\Ok n inn)->(plI (pl (n+1)) pre ch b es).map (fun q=>zcB q.2)=ot (fun _=>true) (n+1+1) es:=by
    intro es;induction es with
    | nil=>intro b _;rfl
    | cons d es ih2=>
      intro b o;obtain⟨x,dp,inn,rfl,oi⟩:=o d waj;rw[zen,zef,wbf,waU,ih oi,ih2 _ fun y hy=>o y (waf _ hy),zbZ];rfl
   exact key ds 0 o
def nmQ (q:List D×List D):Str:=(nr (zcB q.2)).2
theorem zgf {f:Unit->D->Option (Fl Unit D)}{nm:Str}:∀{l:List (List D×List D)}{q:List D×List D},(∀q∈l,f () (ent q)=some (if nmQ q=nm then .ret (.tup q.1) else .nx ()))->(l.map nmQ).Nodup->q∈l->nmQ q=nm->zbg f () (l.map ent)=some (.ret (.tup q.1))
 | [],q,_,_,h,_=>by cases h
 | a::l,q,hf,nd,h,hn=>by
   rw[wbf,waI] at nd;show(f () (ent a)).bind _=_
   rw[hf a waj,zOB];by_cases ha:nmQ a=nm
   ·rw[if_pos ha];rcases wai.mp h with rfl | h
    ·rfl
    ·exact absurd (ha.trans hn.symm▸waT.mpr ⟨q,h,rfl⟩) nd.1
   ·rw[if_neg ha];rcases wai.mp h with rfl | h
    ·exact absurd hn ha
    ·exact zgf (fun q hq=>hf q (waf _ hq)) nd.2 h hn
theorem zcX {ds:List D}{nm:Str}{q:List D×List D}(o:Ok 7 ds)(hl:(ot (fun _=>true) 8 ds).length<=1000)(nd:((ot (fun _=>true) 8 ds).map fun d=>(nr d).2).Nodup)(hq:q∈pl 8 ds [] [])(hn:nmQ q=nm):zbV [.tup ds,.str nm]=some (.tup q.1):=by
 have pll:=zeo (pre:=[]) (ch:=[]) o
 have l1:(pl 8 ds [] []).length<=1000:=by
  have:=waZ List.length pll
  rw[wao] at this;show(pl (7+1) ds [] []).length<=1000
  rw[this];exact hl
 have e1:zar [.tup ds]=some (.lst ((pl 8 ds [] []).map ent)):=by
  show zau (.tup ds)=_
  unfold zau;rw[zfa (n:=7) (ch:=[]) o l1 (by decide)];rfl
 show zbU (.tup ds) (.str nm)=_
 unfold zbU;rw[e1,zOB];show Option.bind (some _) _=_
 have nd2:((pl 8 ds [] []).map nmQ).Nodup:=by
  have:(pl 8 ds [] []).map nmQ=(ot (fun _=>true) 8 ds).map fun d=>(nr d).2:=by
   rw[<-pll,wbd];rfl
  rw[this];exact nd
 rw[zOB,zgf (nm:=nm) (l:=pl 8 ds [] []) (q:=q) ?_ nd2 hq hn]
 ·rfl
 ·intro r hr;obtain⟨p,c,rfl,h0,hp,_⟩:=zkh o r hr;have hx:IsP (zcB ([]++c)):=by
   rw[wcr];obtain⟨c0,d0,rfl⟩:∃c0 d0,c=c0++[d0]:=⟨c.dropLast,c.getLast h0,(List.dropLast_concat_getLast h0).symm⟩
   rw[zbZ];exact hp d0 (by simp)
  obtain⟨x,dp,inn,ex⟩:=hx;show(Option.bind (Option.bind (Option.bind (dIx (zcB ([]++c)) (.int 0)) _) dB) _)=_
  unfold nmQ;dsimp only[];rw[ex,(zbA x dp inn).1,zOB,zcn];show(if decide (x.nm=nm)=true then _ else _)=some (if x.nm=nm then _ else _)
  by_cases z:x.nm=nm
  ·rw[if_pos (waB z),if_pos z];rfl
  ·rw[if_neg (by simp[z]),if_neg z]
theorem zdL {S:Type}{f:S->D->Option S}{d:D}:∀{ds:List D}{s:S},zaN f s (ds++[d])=(zaN f s ds).bind fun s=>f s d
 | [],s=>by
   show(f s d).bind (fun s=>some s)=f s d
   cases f s d <;> rfl
 | x::ds,s=>by
   show(f s x).bind _=Option.bind ((f s x).bind _) _
   cases f s x with
   | none=>rfl
   | some s1=>exact zdL (ds:=ds)
theorem zfE {l:List Itm}(h:l≠[]):dIx (zbM l) (.int (-1))=some (zaj l).d:=by
 have hl:0<l.length:=List.length_pos_iff.mpr h
 show(ixN (l.map Itm.d).length (-1)).bind (fun j=>(l.map Itm.d)[j]?)=_
 have:ixN (l.map Itm.d).length (-1)=some (l.length - 1):=by
  unfold ixN;rw[if_neg (by omega),if_pos (by rw[wao];omega),wao];congr 1;omega
 rw[this,zOB,waw];unfold zaj;rw[List.getLast?_eq_getElem?,wap (by omega)];rfl
def wt (S:List (List Itm)):List D:=[.lst (fo S 0).reverse,.lst (fo S 1).reverse,.lst (fo S 2).reverse,.lst (fo S 3).reverse,.lst (fo S 4).reverse,.lst (fo S 5).reverse]
theorem zif:∀{S:List (List Itm)}{d:Nat},(fo S d).length<=S.length
 | [],_=>by simp[fo]
 | l::S,d=>by
   unfold fo;split
   ·simpa using zif (S:=S) (d:=d)
   ·split
    ·simp
    ·exact Nat.le_succ_of_le zif
theorem zlF {l:List Itm}{S:List (List Itm)}{e:Nat}(h:l.length=e+1)(d:Nat):fo (l::S) d=if d=e then part (zaj l) d (fo S (d+1))::fo S d else if d=e+1 then[] else fo S d:=by
 show(if d+1=l.length then _ else if d=l.length then[] else fo S d)=_
 rw[h];by_cases z:d=e
 ·rw[if_pos z,if_pos (by omega)]
 ·rw[if_neg z,if_neg (by omega)]
theorem znG {S:List (List Itm)}{e:Nat}(he:e<=4):zlg (wt S) [] (.int (e+1))=some ((wt S).set (e+1) (.lst [])):=by
 match e,he with
 | 0,_=>rfl
 | 1,_=>rfl
 | 2,_=>rfl
 | 3,_=>rfl
 | 4,_=>rfl
theorem zos {S:List (List Itm)}{e:Nat}(he:e<=4):ix2C (wt S) (.int (e+1))=some (.lst (fo S (e+1)).reverse):=by
 match e,he with
 | 0,_=>rfl
 | 1,_=>rfl
 | 2,_=>rfl
 | 3,_=>rfl
 | 4,_=>rfl
theorem znH {l:List Itm}{S:List (List Itm)}{e:Nat}(he:e<=4)(h:l.length=e+1)(hs:S.length<=1000):zi7 ((wt S).set (e+1) (.lst [])) (.int e) (part (zaj l) e (fo S (e+1)))=some (wt (l::S)):=by
 have hb:∀d,(fo S d).reverse.length<lim:=fun d=>waM (by rw[wbh];exact wan zif hs:_<=1000) (by decide)
 have fc:=zlF (S:=S) h
 have key:∀(d:Nat),(fo S d).reverse++[part (zaj l) d (fo S (d+1))]=(part (zaj l) d (fo S (d+1))::fo S d).reverse:=fun d=>by simp
 match e,he with
 | 0,_=>
   show(if(fo S 0).reverse.length<lim then _ else none)=_
   rw[if_pos (hb 0)];simp[wt,fc]
 | 1,_=>
   show(if(fo S 1).reverse.length<lim then _ else none)=_
   rw[if_pos (hb 1)];simp[wt,fc]
 | 2,_=>
   show(if(fo S 2).reverse.length<lim then _ else none)=_
   rw[if_pos (hb 2)];simp[wt,fc]
 | 3,_=>
   show(if(fo S 3).reverse.length<lim then _ else none)=_
   rw[if_pos (hb 3)];simp[wt,fc]
 | 4,_=>
   show(if(fo S 4).reverse.length<lim then _ else none)=_
   rw[if_pos (hb 4)];simp[wt,fc]
theorem _root_.GB.Lines.tail {p:List Itm}{l:List Itm}{S:List (List Itm)}(t:Lines p (l::S)):Lines l S:=by
 cases t with | cons c x hc h4 t=>exact t
theorem zlG {L:List (List Itm)}(t:Lines [] L)(hl:L.length<=1000)(hR:∀l∈L,(zaj l).rk=(l.length:Int) - 1):zbz [zib L]=some (.tup (fo L 0)):=by
 show zby (.lst (L.map zbM))=_
 unfold zby;rw[zOB];show Option.bind (Option.bind (some (L.map zbM).reverse) _) _=_
 rw[zOB];generalize hf:(fun(s2:List D) (d3:D)=>(Option.bind (Option.bind (bLen [d3]) fun v4=>(dSub v4 (.int 1))) fun(x5:D)=>_))=f;have stp:∀(l:List Itm) (S:List (List Itm)),l≠[]->l.length<=5->(zaj l).rk=(l.length:Int) - 1->S.length<=1000->f (wt S) (zbM l)=some (wt (l::S)):=by
  intro l S h0 h5 hrk hs;obtain⟨e,he⟩:∃e,l.length=e+1:=⟨l.length - 1,by have:=List.length_pos_iff.mpr h0;omega⟩
  have e4:e<=4:=by omega
  have hk:(zaj l).rk=(e:Int):=by rw[hrk,he];omega
  have hpt:∀z,D.tup [.str (zaj l).nm,.tup [.int (e:Int),.int 0,.int 1,.int 2],.str (zaj l).wd,.int (e:Int),.non,.tup z]=part (zaj l) e z:=fun z=>by unfold part;rw[hk]
  rw[<-hf];have b1:bLen [zbM l]=some (.int ((e+1:Nat):Int)):=by show some (D.int ((l.map Itm.d).length:Int))=_;rw[wao,he]
  have b2:dSub (.int ((e+1:Nat):Int)) (.int 1)=some (.int (e:Int)):=by show some (D.int (((e+1:Nat):Int) - 1))=_;congr 2;omega
  have b3:dAdd (.int (e:Int)) (.int 1)=some (.int ((e:Int)+1)):=rfl
  have i0:∀x:Itm,dIx x.d (.int 0)=some (.str x.nm):=fun x=>zaL (j:=0) rfl
  have i1:∀x:Itm,dIx x.d (.int 1)=some (.str x.wd):=fun x=>zaL (j:=1) rfl
  have ng:dNeg (.int 1)=some (.int (-1)):=rfl
  dsimp only[];rw[b1,zOB,b2,zOB,ng,zOB,zfE h0,zOB,zOB,i0,i1,b3,zOB,zos e4,zOB,zOB];show(Option.bind (Option.bind (some _) mkT) _)=_
  rw[zOB];show(Option.bind (if _<=lim then some (D.tup _) else none) _)=_
  rw[if_pos (by show 6<=lim;decide),zOB,znG e4,zOB];show Option.bind (zi7 _ _ (D.tup [.str (zaj l).nm,.tup [.int (e:Int),.int 0,.int 1,.int 2],.str (zaj l).wd,.int (e:Int),.non,.tup (fo S (e+1)).reverse.reverse])) _=_
  rw[List.reverse_reverse,hpt,znH e4 he hs];rfl
 have key:∀(p:List Itm) (S:List (List Itm)),Lines p S->S.length<=1000->(∀l∈S,(zaj l).rk=(l.length:Int) - 1)->zaN f (wt []) (S.map zbM).reverse=some (wt S):=by
  intro p S;induction S generalizing p with
  | nil=>intro _ _ _;rfl
  | cons l S ih=>
    intro t hl hR;have:=t.mem l waj
    rw[waV] at hl;rw[wbf,wbH,zdL,ih l t.tail (by omega) (fun l h=>hR l (waf _ h)),zOB];exact stp l S this.2 this.1 (hR l waj) (by omega)
 show Option.bind (zaN f (wt []) (L.map zbM).reverse) _=_
 rw[key [] L t hl hR,zOB];show Option.bind (bTuple [.lst (fo L 0).reverse.reverse]) _=_
 rw[List.reverse_reverse];rfl
def itm:D->Itm
 | .tup [.str n,_,.str w,.int r,_,_]=>⟨n,w,r⟩
 | _=>default
theorem zep (x:Itm)(dp:Nat)(inn:List D):itm (part x dp inn)=x:=rfl
def cs:Nat->List D->List Itm->List (List Itm)
 | 0,_,_=>[]
 | n+1,ds,pre=>ds.flatMap fun d=>(pre++[itm d])::cs n (innD d) (pre++[itm d])
theorem zot:∀{n:Nat}{ds pre ch:List D},(pl n ds pre ch).map (fun q=>q.2.map itm)=cs n ds (ch.map itm):=by
 intro n;induction n with
 | zero=>intro ds pre ch;rfl
 | succ n ih=>
   intro ds pre ch;have key:∀(es:List D) (b:Nat),(plI (pl n) pre ch b es).map (fun q=>q.2.map itm)=cs (n+1) es (ch.map itm):=by
    intro es;induction es with
    | nil=>intro b;rfl
    | cons d es ih2=>
      intro b;show((ch++[d]).map itm)::(pl n (innD d) (pre++[.int (b:Int)]) (ch++[d])++plI (pl n) pre ch (b+1) es).map (fun q=>q.2.map itm)=List.flatMap _ (d::es)
      rw[waU,waU,ih,ih2,wbJ,waU];rfl
   exact key ds 0
def sl (G:Nat->List (List Itm)):Nat->List (List Itm)
 | 0=>[]
 | d+1=>G d++sl G d
theorem zig {G:Nat->List (List Itm)}{m:Nat}(h:∀d,m<=d->G d = []):∀k,sl G (m+k)=sl G m
 | 0=>rfl
 | k+1=>by
   show G (m+k)++sl G (m+k)=_
   rw[h _ (by omega),zig h k];simp
theorem zgg {G K:Nat->List (List Itm)}:∀{m:Nat},(∀d,d<m->G d=K d)->sl G m=sl K m
 | 0,_=>rfl
 | m+1,h=>by
   show G m++sl G m=K m++sl K m
   rw[h m (by omega),zgg fun d hd=>h d (by omega)]
theorem zgh:∀{p:List Itm}{S:List (List Itm)},Lines p S->S=sl (fun d=>cs (8 - d) (fo S d) (p.take d)) (p.length+1)
 | p,_,.nil=>by
   have:∀m,sl (fun d=>cs (8 - d) (fo [] d) (p.take d)) m = []:=fun m=>by
    induction m with
    | zero=>rfl
    | succ m ih=>
      show cs (8 - m) [] _++sl _ m = []
      rw[ih];have:cs (8 - m) [] (p.take m) = []:=by cases 8 - m <;> rfl
      rw[this];simp
   rw[this]
 | p,_,.cons (L:=S) c x hc h4 t=>by
   have hl:(p.take c++[x]).length=c+1:=by simp;omega
   have ih:=zgh t
   rw[hl] at ih;have f1:fo ((p.take c++[x])::S) c=part x c (fo S (c+1))::fo S c:=by
    show(if c+1=(p.take c++[x]).length then part (zaj (p.take c++[x])) c (fo S (c+1))::fo S c else _)=_
    rw[if_pos hl.symm];congr 1;simp[zaj]
   have f2:∀d,d<c->fo ((p.take c++[x])::S) d=fo S d:=fun d hd=>by
    show(if d+1=(p.take c++[x]).length then _ else if d=(p.take c++[x]).length then[] else fo S d)=_
    rw[hl,if_neg (by omega),if_neg (by omega)]
   have f3:∀d,c+1<=d->fo ((p.take c++[x])::S) d = []:=fun d hd=>by
    show(if d+1=(p.take c++[x]).length then _ else if d=(p.take c++[x]).length then[] else fo S d)=_
    rw[hl,if_neg (by omega)];by_cases e:d=c+1
    ·rw[if_pos e]
    ·rw[if_neg e];exact zfA t d (by rw[hl];omega)
   have o0:∀n q,cs n [] q = []:=fun n q=>by cases n <;> rfl
   have e1:sl (fun d=>cs (8 - d) (fo ((p.take c++[x])::S) d) (p.take d)) (p.length+1)=sl (fun d=>cs (8 - d) (fo ((p.take c++[x])::S) d) (p.take d)) (c+1):=by
    have:=zig (G:=fun d=>cs (8 - d) (fo ((p.take c++[x])::S) d) (p.take d)) (m:=c+1) (fun d hd=>by show cs (8 - d) _ _ = [];rw[f3 d hd,o0]) (p.length - c)
    rw[show c+1+(p.length - c)=p.length+1 by omega] at this;exact this
   have a1:∀d,d<=c->(p.take c++[x]).take d=p.take d:=fun d hd=>by
    rw[List.take_append_of_le_length (by simp;omega),List.take_take,wcv hd]
   have lower:sl (fun d=>cs (8 - d) (fo S d) ((p.take c++[x]).take d)) c=sl (fun d=>cs (8 - d) (fo ((p.take c++[x])::S) d) (p.take d)) c:=zgg fun d hd=>by rw[f2 d hd,a1 d (by omega)]
   rw[e1];show _=cs (8 - c) (fo ((p.take c++[x])::S) c) (p.take c)++sl _ c
   rw[f1,<-lower,show 8 - c=(8 - (c+1))+1 by omega];show _=List.flatMap _ (part x c (fo S (c+1))::fo S c)++_
   rw[wbJ,zep];show _=(p.take c++[x])::(cs (8 - (c+1)) (fo S (c+1)) (p.take c++[x])++cs (8 - (c+1)+1) (fo S c) (p.take c))++_
   rw[List.cons_append];refine waZ _ ?_;refine ih.trans ?_;show cs (8 - (c+1)) (fo S (c+1)) ((p.take c++[x]).take (c+1))++(cs (8 - c) (fo S c) ((p.take c++[x]).take c)++sl (fun d=>cs (8 - d) (fo S d) ((p.take c++[x]).take d)) c)=_
   rw[a1 c (wam _),List.take_of_length_le (waS hl),wbr,show 8 - c=8 - (c+1)+1 by omega]
theorem zjE {L:List (List Itm)}(t:Lines [] L):(pl 8 (fo L 0) [] []).map (fun q=>q.2.map itm)=L:=by
 rw[zot];have:=zgh t
 rw[show sl (fun d=>cs (8 - d) (fo L d) (([]:List Itm).take d)) (([]:List Itm).length+1)=cs 8 (fo L 0) []++[] from rfl,waF] at this;exact this.symm
theorem zeq {L:List (List Itm)}(t:Lines [] L):(ot (fun _=>true) 8 (fo L 0)).map (fun d=>(nr d).2)=L.map fun l=>(zaj l).nm:=by
 have e:=zeg (fr:=fun _=>true) t
 have ea:opn (fun _=>true) L=L.map fun l=>((zaj l).rk,(zaj l).nm):=by
  unfold opn;rw[List.filter_eq_self.mpr fun l _=>by simp]
 have:=waZ (List.map Prod.snd) e
 rw[ea,wbd,wbd] at this;exact this.symm
theorem zfb {L:List (List Itm)}(t:Lines [] L):(ot (fun _=>true) 8 (fo L 0)).length=L.length:=by
 have:=waZ List.length (zeq t)
 rw[wao,wao] at this;exact this
theorem znI {d:D}(h:IsP d):(nr d).2=(itm d).nm:=by obtain⟨x,dp,inn,rfl⟩:=h;rfl
theorem zgi {L:List (List Itm)}{l:List Itm}(t:Lines [] L)(hl:L.length<=40)(nd:(L.map fun l=>(zaj l).nm).Nodup)(h:l∈L):∃c,zaZ [.tup (fo L 0),.str (zaj l).nm]=some (.lst c)/\c.map itm=l/\∀d∈c,IsP d:=by
 obtain⟨q,hq,e0⟩:=waT.mp (show l∈(pl 8 (fo L 0) [] []).map (fun q=>q.2.map itm) by rw[zjE t];exact h);have o:Ok 7 (fo L 0):=(zfB t 0).up
 obtain⟨p',c',e2,h0,hp,hf⟩:=zkh o q hq;obtain⟨p,c⟩:=q;obtain rfl:p=p':=waZ Prod.fst e2;obtain rfl:c=c':=waZ Prod.snd e2;have hn:nmQ (p,c)=(zaj l).nm:=by
  obtain⟨c0,d0,rfl⟩:∃c0 d0,c=c0++[d0]:=⟨c.dropLast,c.getLast h0,(List.dropLast_concat_getLast h0).symm⟩
  unfold nmQ;rw[zbZ,znI (hp d0 (by simp)),<-e0];simp[zaj]
 have e1:=zcX (nm:=(zaj l).nm) (q:=(p,c)) o (by rw[zfb t];omega) (by rw[zeq t];exact nd) hq hn
 obtain⟨z,e3⟩:=hf [] (by decide);refine⟨c,?_,e0,hp⟩;show zbY _ _=_
 unfold zbY;rw[zOB,zOB,e1,zOB];show Option.bind (Option.bind (some p) (zaN gC ([],.tup (fo L 0)))) _=_
 rw[zOB,e3];rfl
def fst1 (w:Str):List (Str×Str)->Option D
 | []=>none
 | x::l=>if x.2=w then some (.tup [.str w,.str x.1]) else fst1 w l
def dueP (l:List (Str×Str)):D:=match fst1 "hidden" l with
 | some d=>d
 | none=>match fst1 "shut" l with
   | some d=>d
   | none=>.non
def pr2 (x:Itm):Str×Str:=(x.nm,x.wd)
def dueD (l:List Itm):D:=dueP (l.map pr2)
theorem zfF {w:Str}:∀{l:List (Str×Str)}{d:D},fst1 w l=some d->∃x∈l,d=.tup [.str w,.str x.1]
 | [],d,h=>by cases h
 | x::l,d,h=>by
   unfold fst1 at h;split at h
   ·cases h;exact⟨x,waj,rfl⟩
   ·obtain⟨y,hy,e⟩:=zfF h;exact⟨y,waf _ hy,e⟩
def inR (w:Str)(l:List (Str×Str)):Fl Unit (Fl Unit D):=match fst1 w l with
 | some d=>.ret (.ret d)
 | none=>.nx ()
def ouR (w:Str)(l:List (Str×Str)):Fl Unit D:=match fst1 w l with
 | some d=>.ret d
 | none=>.nx ()
theorem zih {g:D->Str×Str}{w:Str}{f:Unit->D->Option (Fl Unit (Fl Unit D))}:∀{c:List D},(∀d∈c,f () d=some (if(g d).2=w then .ret (.ret (.tup [.str w,.str (g d).1])) else .nx ()))->zbg f () c=some (inR w (c.map g))
 | [],_=>rfl
 | d::c,h=>by
   show(f () d).bind _=_
   rw[h d waj,zOB];unfold inR;rw[wbf];unfold fst1;by_cases z:(g d).2=w
   ·rw[if_pos z,if_pos z]
   ·rw[if_neg z,if_neg z];exact zih fun d hd=>h d (waf _ hd)
theorem zou (w:Str)(l:List (Str×Str)):flK (fun(_:Unit)=>(some (Fl.nx ():Fl Unit D))) (inR w l)=some (ouR w l):=by
 unfold inR ouR;cases fst1 w l <;> rfl
theorem zlH {l:List (Str×Str)}{f:Unit->D->Option (Fl Unit D)}(h:∀w,f () (.str w)=some (ouR w l)):(Option.bind (some [D.str "hidden",.str "shut"]) fun ds=>Option.bind (zbg f () ds) (flK fun(_:Unit)=>(Option.bind (some D.non) fun(r10:D)=>(some r10))))=some (dueP l):=by
 rw[zOB];unfold zbg;rw[h,zOB];unfold ouR dueP;cases fst1 "hidden" l with
 | some d=>rfl
 | none=>
   dsimp only[];unfold zbg;rw[h,zOB];unfold ouR;cases fst1 "shut" l <;> rfl
theorem mkT2 (a b:D):mkT [a,b]=some (.tup [a,b]):=if_pos (by show 2<=lim;decide)
theorem zlI {L:List (List Itm)}{l:List Itm}(t:Lines [] L)(hl:L.length<=40)(nd:(L.map fun l=>(zaj l).nm).Nodup)(h:l∈L):zcw [.tup (fo L 0),.str (zaj l).nm]=some (dueD l):=by
 obtain⟨c,e1,e2,hp⟩:=zgi t hl nd h;show zcv _ _=_
 unfold zcv;rw[e1,zOB];refine zlH (l:=l.map pr2) fun w=>?_
 show Option.bind (some c) _=_
 rw[zOB,zih (g:=fun d=>pr2 (itm d)) (w:=w) fun d hd=>?_]
 ·rw[zOB,<-e2,wbd];exact zou w _
 ·obtain⟨x,dp,inn,rfl⟩:=hp d hd;rw[(zbA x dp inn).2.1,zOB,zcn,(zbA x dp inn).1,ac2,zep,zOB];rw[show(Option.bind (some [D.str w,D.str x.nm]) mkT)=some (.tup [.str w,.str x.nm]) from mkT2 _ _];by_cases z:x.wd=w
  ·rw[waB z,if_pos (show(pr2 x).2=w from z)];rfl
  ·rw[wau z,if_neg (show ¬(pr2 x).2=w from z)];rfl
theorem zii {ds:List D}(o:Ok 7 ds)(hl:(ot (fun _=>true) 8 ds).length<=1000):zar [.tup ds]=some (.lst ((pl 8 ds [] []).map ent)):=by
 have l1:(pl 8 ds [] []).length<=1000:=by
  have:=waZ List.length (zeo (pre:=[]) (ch:=[]) o)
  rw[wao] at this;show(pl (7+1) ds [] []).length<=1000
  rw[this];exact hl
 show zau (.tup ds)=_
 unfold zau;rw[zfa (n:=7) (ch:=[]) o l1 (by decide)];rfl
theorem zlJ {ds:List D}(o:Ok 7 ds):∀q∈pl 8 ds [] [],IsP (zcB q.2):=fun q hq=>by
 have h:zcB q.2∈(pl (7+1) ds [] []).map fun q=>zcB q.2:=waT.mpr ⟨q,hq,rfl⟩
 rw[zeo o] at h;exact zie o _ h
theorem zgj {f:Unit->D->Option Unit}:∀{l:List D},(∀d∈l,f () d=some ())->zaN f () l=some ()
 | [],_=>rfl
 | d::l,h=>by
   show(f () d).bind _=_
   rw[h d waj,zOB];exact zgj fun y hy=>h y (waf _ hy)
theorem zgk {L:List (List Itm)}{odd:Str}(t:Lines [] L)(hl:L.length<=40)(hn:odd∉L.map fun l=>(zaj l).nm)(ho:okTx odd=true):zbX [.tup (fo L 0),.str odd]=some (.exc "NoPart" ["name"] [.str odd]):=by
 have o:Ok 7 (fo L 0):=(zfB t 0).up
 show zbW _ _=_
 unfold zbW;rw[zii o (by rw[zfb t];omega),zOB];show Option.bind (Option.bind (some ((pl 8 (fo L 0) [] []).map ent)) _) _=_
 rw[zOB,zgj fun d hd=>?_]
 ·rw[zOB,show rz "NoPart" "name" zh3 (.str odd)=some (.exc "NoPart" ["name"] [.str odd]) from if_pos ho];rfl
 ·obtain⟨q,hq,rfl⟩:=waT.mp hd;obtain⟨x,dp,inn,ex⟩:=zlJ o q hq;have hx:x.nm≠odd:=fun z=>hn (by
   rw[<-zeq t];have:zcB q.2∈(pl (7+1) (fo L 0) [] []).map fun q=>zcB q.2:=waT.mpr ⟨q,hq,rfl⟩
   rw[zeo o,ex] at this;exact waT.mpr ⟨_,this,z⟩)
  show(Option.bind (Option.bind (Option.bind (dIx (zcB q.2) (.int 0)) _) dB) _)=_
  rw[ex,(zbA x dp inn).1,zOB,zcn,wau hx];rfl
theorem zki {L:List (List Itm)}{odd:Str}(t:Lines [] L)(hl:L.length<=40)(hn:odd∉L.map fun l=>(zaj l).nm)(ho:okTx odd=true):zbo [.tup (fo L 0),.str odd]=some (.exc "NoPart" ["name"] [.str odd]):=by
 show zcx _ _=_
 unfold zcx;show Option.bind (za0 _ _) _=_
 unfold za0;rw[zOB,zOB,zgk t hl hn ho];rfl
def fe (c n k:Int):D:=.lst [.int c,.int n,.int k]
theorem znJ (c n k:Int):dIx (fe c n k) (.int 0)=some (.int c)/\dIx (fe c n k) (.int 1)=some (.int n)/\dIx (fe c n k) (.int 2)=some (.int k):=⟨zaL (j:=0) rfl,zaL (j:=1) rfl,zaL (j:=2) rfl⟩
theorem zij {c n k m:Int}(m0:0<m)(m1:m<1073741824):∃r c' n',zal [fe c n k,.int m]=some (.told (.int r),[fe c' n' k,.non])/\0<=r/\r<m:=by
 have hm:∀a b:Int,0<b->dMod (.int a) (.int b)=some (.int (a % b)):=fun a b h=>if_pos h
 have hd:∀a:Int,dFdiv (.int a) (.int m)=some (.int (a / m)):=fun a=>if_pos (show CDiv a m from⟨m0,m1⟩)
 have hl:∀a b:Int,-(2 ^ 64)<a->a<2 ^ 64->dMul (.int a) (.int b)=some (.int (a*b)):=fun a b h1 h2=>if_pos (show CMul a b from .inl ⟨h1,h2⟩)
 have hr:∀a b:Int,-(2 ^ 64)<b->b<2 ^ 64->dMul (.int a) (.int b)=some (.int (a*b)):=fun a b h1 h2=>if_pos (show CMul a b from .inr ⟨h1,h2⟩)
 have pw:dPow (.int 10) (.int 18)=some (.int 1000000000000000000):=rfl
 obtain⟨i0,i1,i2⟩:=znJ c n k;obtain⟨j0,j1,j2⟩:=znJ c (n+1) k;have p1:zi8 (fe c n k) (.int 1) (.int (n+1))=some (fe c (n+1) k):=rfl
 show ∃r c' n',zbv (fe c n k) (.int m)=_/\_
 unfold zbv;rw[i1,zOB,show dAdd (.int n) (.int 1)=some (.int (n+1)) from rfl,zOB,p1,zOB,j0,zOB,pw,zOB,show dGe (.int c) (.int 1000000000000000000)=some (.bl (decide (1000000000000000000<=c))) from rfl,zOB,show ∀b,dB (.bl b)=some b from fun _=>rfl,zOB];by_cases h:1000000000000000000<=c
 ·refine⟨c % m,c / m,n+1,?_,wbY _ (by omega),wbD _ m0⟩;rw[waB h,if_pos rfl,zOB,hm _ _ m0,zOB,zOB,hd,zOB];rfl
 ·rw[wau h,if_neg (by decide)];have b1:∀x:Int,0<=x % 2147483647/\x % 2147483647<2147483647:=fun x=>⟨wbY _ (by decide),wbD _ (by decide)⟩
  refine⟨((c % 1000003+7919*k+104729*(n+1))*48271 % 2147483647*((c % 1000003+7919*k+104729*(n+1))*48271 % 2147483647 % 65521+(n+1)) % 2147483629) % m,c,n+1,?_,wbY _ (by omega),wbD _ m0⟩
  ·rw[zOB,hm _ _ (by decide),zOB,j2,zOB,hl _ _ (by decide) (by decide),zOB,show ∀a b,dAdd (.int a) (.int b)=some (.int (a+b)) from fun _ _=>rfl,zOB,j1,zOB,hl _ _ (by decide) (by decide),zOB,show ∀a b,dAdd (.int a) (.int b)=some (.int (a+b)) from fun _ _=>rfl,zOB,hr _ _ (by decide) (by decide),zOB,hm _ _ (by decide),zOB,hm _ _ (by decide),zOB,zOB,show ∀a b,dAdd (.int a) (.int b)=some (.int (a+b)) from fun _ _=>rfl,zOB,hl _ _ (by have:=b1 ((c % 1000003+7919*k+104729*(n+1))*48271);omega) (by have:=b1 ((c % 1000003+7919*k+104729*(n+1))*48271);omega),zOB,hm _ _ (by decide),zOB,hm _ _ m0,zOB]
theorem zlK {S:Scr}{k:Int}(h0:0<=k):∃c,zaE S [.scr S.p,.int k]=some (.new 1 (fe c 0 k),[.non,.non]):=by
 have hl:lenS S (.scr S.p)=some (.int S.ns.length):=if_pos rfl
 show ∃c,zbu S (.scr S.p) (.int k)=_
 unfold zbu;rw[hl,zOB,zi4,zOB,show ∀b,dB (.bl b)=some b from fun _=>rfl,zOB];by_cases h:(S.ns.length:Int)=0
 ·rw[waB h];exact⟨0,rfl⟩
 ·rw[wau h];have hp:(0:Int)<S.ns.length:=by omega
  obtain⟨x,_,hx⟩:=zhH (xs:=S.ns) (i:=k % S.ns.length) (wbY _ (by omega)) (wbD _ hp);refine⟨x,?_⟩;rw[if_neg (by decide),zOB,show dMod (.int k) (.int S.ns.length)=some (.int (k % S.ns.length)) from if_pos hp,zOB,show ixS S (.scr S.p) (.int (k % S.ns.length))=some (.int x) by show(if S.p=S.p then _ else _)=_;rw[if_pos rfl,hx];rfl];rfl
section
variable {B:Type}{R:B->Prop}
theorem zfG {c n k m:Int}{K:RV×D->Option B}(m0:0<m)(m1:m<1073741824)(h:∀r c' n',0<=r->r<m->Po (K (.told (.int r),fe c' n' k)) R):Po (Option.bind (zd9 zal (fun e=>e) [fe c n k,.int m]) K) R:=by
 obtain⟨r,c',n',e,h0,h1⟩:=zij (c:=c) (n:=n) (k:=k) m0 m1;refine sx ?_ (h r c' n' h0 h1);show Option.bind (zal [fe c n k,.int m]) _=_
 rw[e];rfl
theorem zov {c n k m:Int}{x:Option (List (Option D)×D)}{K:RV×D->Option B}(hx:x=some ([none,some (.int m)],fe c n k))(m0:0<m)(m1:m<1073741824)(h:∀r c' n',0<=r->r<m->Po (K (.told (.int r),fe c' n' k)) R):Po (Option.bind (zk9 zal [some 1,none] 0 1 (fun s=>s) (fun _ e=>e) x) K) R:=by
 obtain⟨r,c',n',e,h0,h1⟩:=zij (c:=c) (n:=n) (k:=k) m0 m1;refine sx ?_ (h r c' n' h0 h1);rw[hx];show Option.bind (zal [fe c n k,.int m]) _=_
 rw[e];rfl
theorem znK {S:Scr}{k:Int}{K:D×Unit->Option B}(h0:0<=k)(h:∀c,Po (K (fe c 0 k,())) R):Po (Option.bind (Option.bind (Option.bind (Option.bind (some [.scr S.p,.int k]) fun d=>some (d,())) fun q3=>Option.bind (zaE S q3.1) fun r4=>if q3.1.length=2 then some (r4.1,q3.2) else none) newD) K) R:=by
 obtain⟨c,e⟩:=zlK (S:=S) h0;refine sx ?_ (h c);show Option.bind (Option.bind (zaE S [.scr S.p,.int k]) _) newD=_
 rw[e];rfl
end
theorem zeb {xs:List D}{r:Int}(h0:0<=r)(h1:r<=xs.length):VD.cut xs none (some r)=xs.take r.toNat:=by
 unfold VD.cut HT.sIx;try dsimp only[]
 rw[if_neg (by omega),List.drop_zero,Nat.sub_zero,wcv (by omega)]
theorem zgl {xs:List D}{P:D->Prop}{i:Int}(h:∀d∈xs,P d)(h0:0<=i)(h1:i<xs.length):∃d,dIx (.lst xs) (.int i)=some d/\P d:=by
 obtain⟨x,hx,e⟩:=zhH (xs:=xs) h0 h1;exact⟨x,e,h x (waJ hx)⟩
def zjF (lo hi:Int)(d:D):Prop:=∃n,d=.int n/\lo<=n/\n<=hi
theorem zjG {l:List Itm}{x:Itm}(h:l.length<=100):dAdd (zbM l) (.lst [x.d])=some (zbM (l++[x])):=by
 show mkL (l.map Itm.d++[x.d])=_
 unfold mkL;rw[if_pos (wan (by simp;omega:_<=101) (by decide))];unfold zbM;rw[waU];rfl
theorem zdM (l:List Itm)(x:Itm):zaj (l++[x])=x:=by unfold zaj;simp
def nmR (s t:Int)(j:Nat):Str:=Txt.mul (sg (97+((t+(j:Int)) % 26).toNat)) (s+(j:Int) / 26)
theorem zik (s t:Int)(hs:1<=s){m:Nat}(h:m<=100):((List.range m).map (nmR s t)).Nodup:=by
 refine List.pairwise_map.mpr (List.nodup_range.imp_of_mem fun {a b} ha hb hne e=>hne ?_);obtain⟨e1,e2⟩:=zlb (by omega) (by omega) e;omega
def Wd (w:Str):Prop:=w = "free"\/w = "shut"\/w = "hidden"
def IsWd (d:D):Prop:=∃x,d=.str x/\Wd x
def Gd (s t:Int)(x:Itm):Prop:=Wd x.wd/\∃j:Nat,j<40/\x.nm=nmR s t j
def IsM (d:D):Prop:=∃ws:List D,d=.lst ws/\ws.length=12/\∀w∈ws,IsWd w
structure Rws (s t:Int)(L:List (List Itm)):Prop where
 ln:Lines [] L
 hl:L.length<=40
 hn:L.map (fun l=>(zaj l).nm)=(List.range L.length).map (nmR s t)
 hr:∀l∈L,(zaj l).rk=(l.length:Int) - 1
 hg:∀l∈L,∀x∈l,Gd s t x
 s1:1<=s
 s2:s<=7
theorem zfc:∀{p:List Itm}{L:List (List Itm)},zbD p L=p\/zbD p L∈L
 | _,[]=>.inl rfl
 | p,l::L=>.inr (by
   rcases zfc (p:=l) (L:=L) with h | h
   ·show zbD l L∈l::L;rw[h];exact waj
   ·exact waf _ h)
theorem adI (a b:Int):dAdd (.int a) (.int b)=some (.int (a+b)):=rfl
def m1D:D:=.lst (List.replicate 12 (.str "free"))
def m2D:D:=.lst (List.replicate 9 (.str "free")++[.str "shut",.str "shut",.str "hidden"])
def m3D:D:=.lst [.str "free",.str "shut",.str "hidden",.str "free",.str "shut",.str "hidden",.str "free",.str "shut",.str "hidden",.str "free",.str "shut",.str "hidden"]
theorem zjH:∀d∈[m1D,m2D,m3D],IsM d:=by
 intro d h;have hw:∀x:Str,Wd x->IsWd (.str x):=fun x h=>⟨x,rfl,h⟩
 simp only[wai,wbk,or_false] at h;rcases h with rfl | rfl | rfl
 ·exact⟨_,rfl,rfl,fun w hw2=>by rw[(wbB.mp hw2).2];exact hw _ (.inl rfl)⟩
 ·refine⟨_,rfl,rfl,fun w hw2=>?_⟩;rcases way.mp hw2 with h | h
  ·rw[(wbB.mp h).2];exact hw _ (.inl rfl)
  ·simp only[wai,wbk,or_false] at h;rcases h with rfl | rfl | rfl
   ·exact hw _ (.inr (.inl rfl))
   ·exact hw _ (.inr (.inl rfl))
   ·exact hw _ (.inr (.inr rfl))
 ·refine⟨_,rfl,rfl,fun w hw2=>?_⟩;simp only[wai,wbk,or_false] at hw2;rcases hw2 with rfl | rfl | rfl | rfl | rfl | rfl | rfl | rfl | rfl | rfl | rfl | rfl <;> first | exact hw _ (.inl rfl) | exact hw _ (.inr (.inl rfl)) | exact hw _ (.inr (.inr rfl))
theorem zlL {S:Scr}:Po (zbw S (.scr S.p)) fun d=>∃s t L,d=zib L/\Rws s t L:=by
 unfold zbw;refine sx rfl ?_;refine znK (k:=0) (by decide) fun c=>?_
 try dsimp only[]
 repeat (first | with_reducible refine sx rfl ?_ | with_reducible refine asc ?_ | with_reducible refine sx (adI _ _) ?_ | (dsimp only[RV.d]))
 refine zfG (by decide) (by decide) fun r6 c1 n1 a0 a1=>?_
 try dsimp only[RV.d]
 repeat (first | with_reducible refine sx rfl ?_ | with_reducible refine asc ?_ | with_reducible refine sx (adI _ _) ?_ | (dsimp only[RV.d]))
 refine zfG (by decide) (by decide) fun r17 c2 n2 a2 a3=>?_
 try dsimp only[RV.d]
 repeat (first | with_reducible refine sx rfl ?_ | with_reducible refine asc ?_ | with_reducible refine sx (adI _ _) ?_ | (dsimp only[RV.d]))
 refine zfG (by decide) (by decide) fun r8 c3 n3 a4 a5=>?_
 try dsimp only[RV.d]
 repeat (first | with_reducible refine sx rfl ?_ | with_reducible refine asc ?_ | with_reducible refine sx (adI _ _) ?_ | (dsimp only[RV.d]))
 obtain⟨_,e0,m0,rfl,m1,m2⟩:=zgl (P:=zjF 0 2) (i:=r8) (xs:=[.int 0,.int 1,.int 1,.int 1,.int 1,.int 1,.int 1,.int 2]) (by simp[zjF]) a4 (by show r8<8;omega);refine sx e0 ?_;repeat (first | with_reducible refine sx rfl ?_ | with_reducible refine asc ?_ | with_reducible refine sx (adI _ _) ?_ | (dsimp only[RV.d]))
 obtain⟨_,e1,m,rfl,m3,m4⟩:=zgl (P:=zjF 0 40) (i:=m0) (xs:=[.int r6,.int r17,.int 40]) (by simp[zjF];omega) m1 (by show m0<3;omega);refine sx e1 ?_;repeat (first | with_reducible refine sx rfl ?_ | with_reducible refine asc ?_ | with_reducible refine sx (adI _ _) ?_ | (dsimp only[RV.d]))
 refine zfG (by decide) (by decide) fun s0 c4 n4 b0 b1=>?_
 try dsimp only[RV.d]
 repeat (first | with_reducible refine sx rfl ?_ | with_reducible refine asc ?_ | with_reducible refine sx (adI _ _) ?_ | (dsimp only[RV.d]))
 refine zfG (by decide) (by decide) fun s1 c5 n5 b2 b3=>?_
 try dsimp only[RV.d]
 repeat (first | with_reducible refine sx rfl ?_ | with_reducible refine asc ?_ | with_reducible refine sx (adI _ _) ?_ | (dsimp only[RV.d]))
 skip
 repeat (first | with_reducible refine sx rfl ?_ | with_reducible refine asc ?_ | with_reducible refine sx (adI _ _) ?_ | (dsimp only[RV.d]))
 refine zfG (by decide) (by decide) fun mr c9 n9 b4 b5=>?_
 try dsimp only[RV.d]
 repeat (first | with_reducible refine sx rfl ?_ | with_reducible refine asc ?_ | with_reducible refine sx (adI _ _) ?_ | (dsimp only[RV.d]))
 obtain⟨_,e2,mw,rfl,mwl,mwd⟩:=zgl (P:=IsM) (i:=mr) (xs:=[m1D,m2D,m3D]) zjH b4 (by show mr<3;omega);refine sx e2 ?_;repeat (first | with_reducible refine sx rfl ?_ | with_reducible refine asc ?_ | with_reducible refine sx (adI _ _) ?_ | (dsimp only[RV.d]))
 obtain⟨m,rfl⟩:∃k:Nat,m=k:=⟨m.toNat,by omega⟩
 refine sx (show rngA [.int (m:Int)]=some (zaF 0 m) from if_pos ⟨by omega,by omega⟩) ?_;try dsimp only[]
 refine zlA (fun i s=>∃L f,s=(f,L.map zbM,zbM (zbD [] L))/\Lines [] L/\L.length=i/\L.map (fun l=>(zaj l).nm)=(List.range i).map (nmR (1+s1) s0)/\(∀l∈L,(zaj l).rk=(l.length:Int) - 1)/\∀l∈L,∀x∈l,Gd (1+s1) s0 x) ⟨[],_,rfl,.nil,rfl,rfl,fun l h=>(by cases h),fun l h=>by cases h⟩ (fun i s d hd hI=>?_) fun s hI=>?_
 ·obtain⟨L,f,rfl,t,hL,hN,hR,hG⟩:=hI;obtain⟨hi,rfl⟩:=zdF hd;have l5:=zic t (by simp)
  try dsimp only[]
  refine znK (k:=1+(i:Int)) (by omega) fun c=>?_
  try dsimp only[RV.d]
  repeat (first | refine sx rfl ?_ | with_reducible refine asc ?_)
  refine zov (m:=if(((zbD [] L).map Itm.d).length:Int)+1<5 then(((zbD [] L).map Itm.d).length:Int)+1 else 5) rfl (by split <;> omega) (by split <;> omega) fun r c' n' r0 r1=>?_
  try dsimp only[RV.d]
  have r2:r<=(zbD [] L).length/\r<=4:=by
   rw[wao] at r1;split at r1 <;> omega
  repeat (first | refine sx rfl ?_ | with_reducible refine asc ?_)
  try dsimp only[]
  have hcut:VD.cut ((zbD [] L).map Itm.d) none (some r)=((zbD [] L).take r.toNat).map Itm.d:=by rw[zeb r0 (by rw[wao];omega),<-List.map_take]
  rw[hcut];have eN:dIx (.str abcS) (.int ((s0+(i:Int)) % 26))=some (.str (sg (97+((s0+(i:Int)) % 26).toNat))):=zm5 (wbY _ (by decide)) (wbD _ (by decide))
  skip
  repeat (first | with_reducible refine sx rfl ?_ | with_reducible refine asc ?_ | with_reducible refine sx (adI _ _) ?_ | (dsimp only[RV.d]))
  refine sx eN ?_;repeat (first | with_reducible refine sx rfl ?_ | with_reducible refine asc ?_ | with_reducible refine sx (adI _ _) ?_ | (dsimp only[RV.d]))
  skip
  repeat (first | with_reducible refine sx rfl ?_ | with_reducible refine asc ?_ | with_reducible refine sx (adI _ _) ?_ | (dsimp only[RV.d]))
  refine sx (show dMul (.str (sg (97+((s0+(i:Int)) % 26).toNat))) (.int (1+s1+(i:Int) / 26))=some (.str (nmR (1+s1) s0 i)) from zm7 _ (by omega) (by omega)) ?_;repeat (first | with_reducible refine sx rfl ?_ | with_reducible refine asc ?_ | with_reducible refine sx (adI _ _) ?_ | (dsimp only[RV.d]))
  refine zfG (by decide) (by decide) fun w8 c7 n7 w0 w1=>?_
  try dsimp only[RV.d]
  repeat (first | with_reducible refine sx rfl ?_ | with_reducible refine asc ?_ | with_reducible refine sx (adI _ _) ?_ | (dsimp only[RV.d]))
  obtain⟨_,e5,wd,rfl,hwd⟩:=zgl (P:=IsWd) (i:=w8) (xs:=mw) mwd w0 (by rw[mwl];exact w1);refine sx e5 ?_;repeat (first | with_reducible refine sx rfl ?_ | with_reducible refine asc ?_ | with_reducible refine sx (adI _ _) ?_ | (dsimp only[RV.d]))
  refine sx (zjG (l:=(zbD [] L).take r.toNat) (x:=⟨nmR (1+s1) s0 i,wd,r⟩) (by rw[wbx];omega)) ?_;repeat (first | with_reducible refine sx rfl ?_ | with_reducible refine asc ?_ | with_reducible refine sx (adI _ _) ?_ | (dsimp only[RV.d]))
  refine sx (zcI (waM (by rw[wao];omega:_<=40) (by decide))) ?_;refine⟨_,rfl,L++[(zbD [] L).take r.toNat++[⟨nmR (1+s1) s0 i,wd,r⟩]],fe c7 n7 (1+i),?_,t.snoc (by omega) (by omega),by simp[hL],?_,fun l h=>?_,fun l h x hx=>?_⟩
  ·rw[zdI,waU];rfl
  ·rw[waU,hN,<-zgy,List.map_singleton,zdM]
  ·rcases way.mp h with h | h
   ·exact hR l h
   ·rw[wak.mp h,zdM,wat,wbx];simp only[List.length_singleton];omega
  ·rcases way.mp h with h | h
   ·exact hG l h x hx
   ·rw[wak.mp h] at hx;rcases way.mp hx with hx | hx
    ·have hx:=List.mem_of_mem_take hx
     have:zbD [] L = []\/zbD [] L∈L:=zfc
     rcases this with z | z
     ·rw[z] at hx;cases hx
     ·exact hG _ z x hx
    ·rw[wak.mp hx];exact⟨hwd,i,by omega,rfl⟩
 ·obtain⟨L,f,rfl,t,hL,hN,hR,hG⟩:=hI;rw[zgz] at hL hN;exact⟨_,rfl,1+s1,s0,L,rfl,t,by omega,by rw[hL];exact hN,hR,hG,by omega,by omega⟩
theorem zlM {S:Scr}:∃s t L,zbx S [.scr S.p]=some (zib L)/\Rws s t L:=by
 obtain⟨d,e,s,t,L,rfl,h⟩:=zlL (S:=S);exact⟨s,t,L,e,h⟩
theorem zer {x:Str}{th:List Str}:dInG true (.str x) (.lst (th.map D.str))=some (.bl (!decide (x∈th))):=by
 have hc:inC (.str x) (th.map D.str)=true:=by
  unfold inC;rw[waA];refine⟨rfl,waC.mpr fun y hy=>?_⟩;obtain⟨z,_,rfl⟩:=waT.mp hy;rfl
 show(if inC (.str x) (th.map D.str)=true then some (D.bl (if true=true then !decide (D.str x∈th.map D.str) else decide (D.str x∈th.map D.str))) else none)=_
 rw[if_pos hc,if_pos rfl,zam (show D.str x∈th.map D.str↔x∈th from⟨fun h=>by
  obtain⟨z,hz,e⟩:=waT.mp h;cases e;exact hz,fun h=>waT.mpr ⟨x,h,rfl⟩⟩)]
theorem zfd {f:D->Option Bool}{g:D->Bool}:∀{ds:List D},(∀d∈ds,f d=some (g d))->zh9 f ds=some (ds.map g)
 | [],_=>rfl
 | d::ds,h=>by
   show(f d).bind _=_
   rw[h d waj,zOB,zfd fun y hy=>h y (waf _ hy)];rfl
def wds (l:List Itm):List Str:=l.map fun x=>x.wd
theorem zlN {L:List (List Itm)}{l:List Itm}(t:Lines [] L)(hl:L.length<=40)(nd:(L.map fun l=>(zaj l).nm).Nodup)(h:l∈L):zct [.tup (fo L 0),.str (zaj l).nm]=some (.bl (!decide (("hidden" : Str)∈wds l))):=by
 obtain⟨c,e1,e2,hp⟩:=zgi t hl nd h;show zcs _ _=_
 unfold zcs;rw[e1,zOB];show Option.bind (Option.bind (some c) _) _=_
 rw[zOB,zfd (g:=fun d=>!decide ((itm d).wd = "hidden")) fun d hd=>by
  obtain⟨x,dp,inn,rfl⟩:=hp d hd;rw[(zbA x dp inn).2.1,zOB,zi3,zep];rfl,zOB,zOB]
 congr 2;rw[wbb,waC];unfold wds;rw[<-e2,wbd];simp
theorem zfe {w:Str}:∀{l:List (Str×Str)},fst1 w l=none↔∀x∈l,x.2≠w
 | []=>by simp[fst1]
 | y::l=>by
   unfold fst1;by_cases h:y.2=w
   ·rw[if_pos h];simp[h]
   ·rw[if_neg h,zfe];simp[h]
theorem fst1_wds {w:Str}{l:List Itm}:fst1 w (l.map pr2)=none↔w∉wds l:=by
 rw[zfe];unfold wds pr2;simp
def opb (l:List Itm):Bool:=!decide (("shut" : Str)∈wds l) && !decide (("hidden" : Str)∈wds l)
theorem zlO (l:List Itm):(dIs false) (dueD l) D.non=some (.bl (opb l)):=by
 unfold dueD dueP opb;cases e1:fst1 "hidden" (l.map pr2) with
 | some d=>
   obtain⟨y,_,rfl⟩:=zfF e1;have:("hidden" : Str)∈wds l:=Classical.byContradiction fun z=>by rw[fst1_wds.mpr z] at e1;cases e1
   rw[waB this];simp;rfl
 | none=>
   rw[wau (fst1_wds.mp e1)];dsimp only;cases e2:fst1 "shut" (l.map pr2) with
   | some d=>
     obtain⟨y,_,rfl⟩:=zfF e2;have:("shut" : Str)∈wds l:=Classical.byContradiction fun z=>by rw[fst1_wds.mpr z] at e2;cases e2
     rw[waB this];rfl
   | none=>rw[wau (fst1_wds.mp e2)];rfl
theorem zil {L:List (List Itm)}{l:List Itm}(t:Lines [] L)(hl:L.length<=40)(nd:(L.map fun l=>(zaj l).nm).Nodup)(h:l∈L):zcz [.tup (fo L 0),.str (zaj l).nm]=some (.bl (opb l)):=by
 show zcy _ _=_
 unfold zcy;rw[zlI t hl nd h,zOB,zlO];rfl
theorem zlP {s t:Int}{L:List (List Itm)}(R:Rws s t L){l:List Itm}(h:l∈L):opb l=l.all fun x=>frS x.wd:=by
 rw[wbb];unfold opb wds frS;simp;constructor
 ·intro ⟨h1,h2⟩ x hx;rcases(R.hg l h x hx).1 with e | e | e
  ·exact e
  ·exact absurd e (h1 x hx)
  ·exact absurd e (h2 x hx)
 ·intro h1;exact⟨fun x hx e=>by rw[h1 x hx] at e;exact absurd e (by decide +kernel),fun x hx e=>by rw[h1 x hx] at e;exact absurd e (by decide +kernel)⟩
def zbO (L:List (List Itm)):List Str:=(L.filter opb).map fun l=>(zaj l).nm
theorem znL {d:D}(h:∃x dp inn,d=part x dp inn):(Option.bind (dIx d (.int 0)) fun z=>some (some z))=some (some (.str (nr d).2)):=by
 obtain⟨x,dp,inn,rfl⟩:=h;rw[(zbA x dp inn).1];rfl
theorem zim {s t:Int}{L:List (List Itm)}(R:Rws s t L):zaU [.tup (fo L 0)]=some (.new 1 (.lst ((zbO L).map D.str)),[.non]):=by
 show zbd _=_
 unfold zbd;have hl:=R.hl
 have e:=zeg (fr:=frS) R.ln
 have o:Ok 7 (fo L 0):=(zfB R.ln 0).up
 have en:((ot frS 8 (fo L 0)).map fun d=>(nr d).2)=zbO L:=by
  have:=waZ (List.map Prod.snd) e
  rw[wbd] at this;rw[show((ot frS 8 (fo L 0)).map fun d=>(nr d).2)=(ot frS 8 (fo L 0)).map (Prod.snd∘nr) from rfl,<-this];unfold opn zbO;rw[wbd,List.filter_congr fun l h=>(zlP R h).symm];rfl
 have hlen:(ot frS 8 (fo L 0)).length<=10000:=by
  have:=waZ List.length en
  rw[wao] at this;rw[this];unfold zbO;rw[wao];exact wan (wcj _ _) (by omega)
 rw[zlC R.ln (by omega),zOB];show Option.bind (Option.bind (some (ot frS 8 (fo L 0))) _) _=_
 have cm:=zcm (f:=fun d1=>(Option.bind (dIx d1 (.int 0)) fun z=>some (some z))) (fun d=>d) (fun d=>.str (nr d).2) hlen fun d hd=>znL (zie o d hd)
 rw[List.map_id'] at cm;rw[zOB,cm,zOB,<-en,wbd];rfl
theorem zjI {L:List (List Itm)}{odd:Str}(t:Lines [] L)(hl:L.length<=40)(hn:odd∉L.map fun l=>(zaj l).nm)(ho:okTx odd=true):za1 [.tup (fo L 0),.str odd]=some (.exc "NoPart" ["name"] [.str odd]):=by
 show za0 _ _=_
 unfold za0;rw[zOB,zOB,zgk t hl hn ho];rfl
theorem zgK {L:List (List Itm)}{odd:Str}(t:Lines [] L)(hl:L.length<=40)(hn:odd∉L.map fun l=>(zaj l).nm)(ho:okTx odd=true){i:Int}(h0:0<=i)(h1:i<3):zaR [.tup (fo L 0),.str odd,.int i]=some (.bl true):=by
 have et:znB (.tup (fo L 0)) (.str odd) (.int i)=some (.exc "NoPart" ["name"] [.str odd]):=by
  have:i=0\/i=1\/i=2:=by omega
  rcases this with rfl | rfl | rfl
  ·show zcu _ _=_
   unfold zcu;rw[zjI t hl hn ho];rfl
  ·show zcA _ _=_
   unfold zcA;rw[zki t hl hn ho];rfl
  ·exact zki t hl hn ho
 show zaQ _ _ _=_
 unfold zaQ;rw[zOB,et];show zjC (.str odd) (.exc "NoPart" ["name"] [.str odd])=_
 unfold zjC;have i1:∀b,isX [("NoPart",b)] (.exc "NoPart" ["name"] [.str odd])=some (.bl b):=fun b=>rfl
 have i2:zjq "name" ["NoPart"] (.exc "NoPart" ["name"] [.str odd])=some (.str odd):=rfl
 rw[i1,i1,i2];show Option.bind (dEqG false (.str odd) (.str odd)) _=_
 rw[zcn,waB rfl];rfl
theorem zdp {A α:Type}{f:List D->D->Option (Fl (List D) A)}(h:α->D)(p:α->Bool)(g:α->D):∀{xs:List α}{acc:List D},acc.length+xs.length<=10000->(∀acc x,x∈xs->acc.length<=10000->f acc (h x)=some (.nx (if p x then acc++[g x] else acc)))->zbg f acc (xs.map h)=some (.nx (acc++(xs.filter p).map g))
 | [],acc,_,_=>by show some (Fl.nx acc)=_;simp
 | x::xs,acc,hl,hf=>by
   rw[waV] at hl;show(f acc (h x)).bind _=_
   rw[hf acc x waj (by omega),zOB];show zbg f (if p x=true then acc++[g x] else acc) (xs.map h)=_
   rw[List.filter_cons];cases p x with
   | true=>
     rw[if_pos rfl,zdp h p g (by simp;omega) fun acc y hy=>hf acc y (waf _ hy)];simp
   | false=>
     rw[if_neg (by decide),zdp h p g (by omega) fun acc y hy=>hf acc y (waf _ hy)];rfl
theorem zjJ (l:List Itm)(h:l.length<=10000):zfx (zbq [.un,.un] (gT 2 (gCons' (gN 0) (gCons' (gN 1) gNil'))) tTrue (eVar 1)) (l.map Itm.d)=some ((wds l).map D.str):=by
 rw[zcm Itm.d (fun x=>.str x.wd) h fun x _=>rfl];unfold wds;rw[wbd];rfl
theorem znM {s t:Int}{j:Nat}(h1:1<=s)(h2:s<=7)(hj:j<40):dAdd (.str (nmR s t j)) (.str "q")=some (.str (nmR s t j++"q"))/\okTx (nmR s t j++"q")=true:=by
 have l2:(nmR s t j).length=(s+(j:Int) / 26).toNat:=zlc _ _ (by omega)
 have q8:("q" : Str).length=1:=by decide +kernel
 have al:(nmR s t j++"q" : Str).length=(nmR s t j).length+1:=by rw[strLen_append,q8]
 constructor
 ·show(if(nmR s t j).length+("q" : Str).length<=lim then _ else none)=_
  rw[if_pos (wan (by rw[q8];omega:_<=100) (by decide))]
 ·unfold okTx;rw[waA];refine⟨waB (by omega),waC.mpr fun c hc=>waB ?_⟩;have hc:c∈((nmR s t j).cps++("q" : Str).cps).toList:=hc
  rw[Array.toList_append] at hc;rcases way.mp hc with hc | hc
  ·have hc:c∈(Txt.mul (sg (97+((t+(j:Int)) % 26).toNat)) (s+(j:Int) / 26)).cps.toList:=hc
   rw[zea _ _ (by omega)] at hc;have:=(wbB.mp hc).2
   omega
  ·have:∀c∈("q" : Str).cps.toList,c<16 ^ 8:=by decide +kernel
   exact this c hc
theorem zes:∀(Q:List Str),ndL (Q.map D.str)=true/\depL (Q.map D.str)<=1
 | []=>⟨rfl,wbo _⟩
 | x::Q=>⟨by show(ndD (.str x)&&ndL (Q.map D.str))=true;rw[(zes Q).1];rfl,Nat.max_le.mpr ⟨wbo _,(zes Q).2⟩⟩
theorem zlQ (Q:List Str):dEqG true (.lst (Q.map D.str)) (.lst (Q.map D.str))=some (.bl false):=zhI (zi5 (d:=.lst (Q.map D.str)) (show ndL (Q.map D.str)=true from(zes Q).1) (by show depL (Q.map D.str)+1<=40;have:=(zes Q).2;omega)) true
theorem znN (S:Scr):zjD S (.scr S.p)=some (.bl true):=by
 obtain⟨s,t,L,e1,R⟩:=zlM (S:=S);have nd:(L.map fun l=>(zaj l).nm).Nodup:=by rw[R.hn];exact zik _ _ R.s1 (by have:=R.hl;omega)
 have hl:=R.hl
 have ng:dNeg (.int 1)=some (.int (-1)):=rfl
 have i0:∀x:Itm,dIx x.d (.int 0)=some (.str x.nm):=fun x=>zaL (j:=0) rfl
 have eO:(L.filter opb).map (fun l=>D.str (zaj l).nm)=(zbO L).map D.str:=by unfold zbO;rw[wbd];rfl
 have lO:(zbO L).length<=1000:=by unfold zbO;rw[wao];exact wan (wcj _ _) (by omega)
 unfold zjD;rw[e1,zOB,zlG R.ln (by omega) R.hr,zOB,zOB];show Option.bind (some (L.map zbM)) _=_
 rw[zOB,zdp zbM opb (fun l=>.str (zaj l).nm) (by simp;omega) fun acc l h ha=>?_]
 ·rw[zOB,wcr,eO];dsimp only[flK];rw[show rngA [.int 2]=some (zaF 0 2) from rfl,zOB,zdg fun d hd=>?_]
  ·rw[zOB];show Option.bind (Option.bind (Option.bind (some (L.map zbM)) _) _) _=_
   rw[zOB,zcm zbM (fun l=>.str (zaj l).nm) (by omega) fun l h=>by
    rw[ng,zOB,zfE (R.ln.mem l h).2,zOB,i0];rfl,zOB,zOB]
   have em:(L.map fun l=>D.str (zaj l).nm)=(L.map fun l=>(zaj l).nm).map D.str:=by rw[wbd];rfl
   rw[em];have e2:dSl (.lst ((L.map fun l=>(zaj l).nm).map D.str)) none (some 1)=some (.lst (((L.map fun l=>(zaj l).nm).take 1).map D.str)):=by
    show some (D.lst (VD.cut _ none (some 1)))=_
    cases L with
    | nil=>rfl
    | cons a b=>rw[zeb (by decide) (by simp;omega),<-List.map_take];rfl
   have hq:∀x∈(L.map fun l=>(zaj l).nm).take 1,dAdd (.str x) (.str "q")=some (.str (x++"q"))/\okTx (x++"q")=true:=fun x hx=>by
    have hx:=List.mem_of_mem_take hx
    rw[R.hn] at hx;obtain⟨j,hj,rfl⟩:=waT.mp hx;have:=wbm.mp hj
    exact znM R.s1 R.s2 (by omega)
   have t1:((L.map fun l=>(zaj l).nm).take 1).length<=1:=by rw[wbx];omega
   rw[e2,zOB];show Option.bind (Option.bind (Option.bind (Option.bind (Option.bind (some (((L.map fun l=>(zaj l).nm).take 1).map D.str)) _) _) _) dSeq) _=_
   rw[zOB,zcm D.str (fun x=>.str (x++"q")) (by omega) fun x hx=>by rw[(hq x hx).1];rfl,zOB,zOB];have ea:dAdd (.lst [.str "",.str "zzzzzzzzz",.str "A"]) (.lst (((L.map fun l=>(zaj l).nm).take 1).map fun x=>D.str (x++"q")))=some (.lst (((["","zzzzzzzzz","A"]:List Str)++((L.map fun l=>(zaj l).nm).take 1).map fun(x:Str)=>x++"q").map D.str)):=by
    show mkL ([.str "",.str "zzzzzzzzz",.str "A"]++_)=_
    unfold mkL;rw[if_pos (wan (by rw[wat,wao];exact Nat.add_le_add_left t1 3:_<=4) (by decide)),waU,wbd];rfl
   rw[ea,zOB];show Option.bind (some _) _=_
   rw[zOB,zcH D.str fun z hz=>?_]
   ·rfl
   ·have ho:okTx z=true:=by
     rcases way.mp hz with h | h
     ·simp only[wai,wbk,or_false] at h;rcases h with rfl | rfl | rfl <;> decide +kernel
     ·obtain⟨x,hx,rfl⟩:=waT.mp h;exact(hq x hx).2
    rw[show rngA [.int 3]=some (zaF 0 3) from rfl,zOB,zdg fun d hd=>?_]
    ·rfl
    ·obtain⟨k0,hk0⟩:=List.getElem?_of_mem hd;obtain⟨hk,rfl⟩:=zdF hk0;rw[zer];by_cases hm:z∈L.map fun l=>(zaj l).nm
     ·rw[waB hm];rfl
     ·rw[wau hm,zgK R.ln R.hl hm ho (by omega) (by omega)];rfl
  ·show Option.bind (Option.bind (Option.bind (zaU [.tup (fo L 0)]) _) newL) _=_
   rw[zim R];show Option.bind (Option.bind (dEqG true (.lst ((zbO L).map D.str)) (.lst ((zbO L).map D.str))) dB) _=_
   rw[zlQ];show Option.bind (appL ((zbO L).map D.str) (.str "a")) _=_
   rw[zcI (waM (by rw[wao];exact lO:_<=1000) (by decide))];rfl
 ·have hm:=R.ln.mem l h
  rw[ng,zOB,zfE hm.2,zOB,i0,ac2,zOB,zOB,zlN R.ln hl nd h,show ∀F,Option.bind (some [D.tup (fo L 0),D.str (zaj l).nm]) F=F [D.tup (fo L 0),D.str (zaj l).nm] from fun _=>rfl,zil R.ln hl nd h];show Option.bind (Option.bind (Option.bind (some (l.map Itm.d)) _) _) _=_
  rw[zOB,zjJ l (by omega),zOB,zOB,zer,zer];have hb:opb l=(!decide (("shut" : Str)∈wds l) && !decide (("hidden" : Str)∈wds l)):=rfl
  rw[hb];cases decide (("shut" : Str)∈wds l) <;> cases decide (("hidden" : Str)∈wds l)
  ·show Option.bind (Option.bind (appL acc (.str (zaj l).nm)) _) _=_
   rw[zcI (waM ha (by decide))];rfl
  all_goals rfl
end Pg
namespace VD
open PySem PySem.Spec PyProof PyProof.Rows L2 PySem.W
def spB (K:W.Frag)(q:Str):List Addr->(Addr->Array Value)->Sp
 | [P],nm=>fun vs H Q _=>vs.length=1/\((nm P)[0]?=some (Value.str q 0)->∃S:Scr,vs = [.ref S.p]/\PcL K S P q H/\∀H',Q (.bl true) H')
 | _,_=>fun vs _ _ _=>vs.length=1
theorem lawB {P:Program}{w:World}{K:W.Frag}{mg:Str->Option Value}{base:Heap}{k:Nat}{f tP:Addr}{fd:FuncData}{x q:Str}{m:Scr->List D->Option D}{nm:Addr->Array Value}
 (hn:(nm tP)[0]?=some (Value.str q 0)) (F:∀S:Scr,FnOk P w K mg base CX0 k f fd [x] (pcS (PcL K S tP q) (spF K (m S)))) (hl:∀S:Scr,m S [.scr S.p]=some (.bl true)):FnOk P w K mg base CX0 k f fd [x] (spB K q [tP] nm):=
 ⟨fun vs H Q E h=>h.1,fun A outer s H args us vs Q E hr he hb hv h=>by
  obtain⟨S,e,hP,hq⟩:=h.2 hn;subst e;refine(F S).run A outer s H args us _ Q E hr he hb hv ⟨hP,fun _=>False,[.scr S.p],.bl true,fun _ h=>h.elim,.cons (.scr _) .nil,hl S,fun v H' J' u r=>?_⟩;cases r;exact hq _⟩
theorem walkB {l:PySem.W.OpenLaw}{k:Nat}{x nq:Str}{q:Program}{loose:List Str}{XP:(Str->Option Value)->Heap->Prop}{YP:World->Heap->Prop}{d:DefRec}{K:Params->W.Frag}(hn:l.most=some 63)(hdf:d.params.defaults = [])(hr:Room k callerA)
 (hY:∀(w:World) (h:Heap),YP w h->(K w.params).In h)
 (F:∀(w:World) (mg mb:Str->Option Value) (mean:ExcName->Option Value) (fa:Addr) (h:Heap),(K w.params).In h->Top q (PySem.W.looseW q loose) mean mg mb h->mg d.name=some (.ref fa)->
  ∃(fd:FuncData) (tb:List Addr) (nm:Addr->Array Value),Tabs (K w.params) h tb/\(∀(s:Shared) (u:Value),BindsTo s fd ⟨[u],[]⟩ [(x,u)])/\
   ∀(base:Heap) (bm:Addr) (ob:Obj),(K w.params).In base->base.Ns mainGlobals mg->BMod base mainGlobals mg bm ob->FnOk l.prog w (K w.params) mg base CX0 k fa fd [x] (spB (K w.params) nq tb nm)) :
 PySem.W.WalkO q loose XP YP l.row.toRowW d [] (fun f vs=>PySem.call f vs):=
 ziw (n:=63) (k:=k) (x:=x) (CX:=fun _=>CX0) (sp:=fun w=>spB (K w.params) nq) hn (by decide) hdf hr hY F
  (fun w tb nm H a ns hl hT hS hF=>match tb,hT with
   | [P],hT=>⟨rfl,fun h0=>⟨⟨a,ns⟩,rfl,⟨SqF.of hS hF,_,hT P (wak.mpr rfl),h0⟩,fun _=>rfl⟩⟩
   | [],_=>rfl
   | _::_::_,_=>rfl) fun _ _ _ _ _ z=>z
end VD
namespace PySem.W.Fast
def tw7414068308881654556:=0
def tw12068127486865015895:=0
def tw14246896230990081260:=0
def tw16568773802891736259:=0
def tw11347724888011050573:=0
def tw1791336906188644587:=0
def tw1652790211542616108:=0
def tw9886668578631342361:=0
def tw16030642094101843967:=0
def tw14272060694898513556:=0
def tw13069731238184129103:=0
def tw16846143799715197750:=0
def tw11239933235063436903:=0
def tw12253986723807717111:=0
def tw11914912655856301686:=0
def tw10173680928077049134:=0
def tw15460327066234668306:=0
def tw2724940058604111029:=0
def tw8793885503421280383:=0
def tw5508484897669564877:=0
def tw7161006917946919913:=0
def tw5889288306445331551:=0
end PySem.W.Fast
namespace Pg
open PySem PySem.Spec PyProof PyProof.Rows L2 VD EX
theorem zap {p:Str->Prop}{x:Str}{xs:List Str}(h:p x)(t:∀y∈xs,p y):∀y∈x::xs,p y:=fun y hy=>(wai.mp hy).elim (fun e=>e▸h) (t y)
def FH (K:W.Frag)(x:Str)(st:Stmt)(f:Addr):Prop:=W.nsIn K mainGlobals x=some (some (.ref f))/\(∃fd,Fun K x x st f fd)/\W.keepIn K (.ref f)=true
theorem fh_mk {K:W.Frag}{x:Str}{st:Stmt}{f:Addr}{oc:Value}{od an:Option Addr}{osl:Array (Option Value)}{kV doc pm cdv ct:Value}(a:W.nsIn K mainGlobals x=some (some (.ref f)))(l:K.lookup f=some ⟨oc,od,.func (W.fnOf x x (zbE st) (zaB st) (zab st) .none kV doc pm an cdv ct),osl⟩)(c:W.codeIn K cdv x=true)(k:W.keepIn K (.ref f)=true):FH K x st f:=⟨a,⟨_,zha l c k⟩,k⟩
theorem zcC:∀(n:Nat) (ds:List D) (d:D),zaq n ds=some d->ds.length=2
 | 0,ds,d,e=>by cases e
 | n+1,ds,d,e=>c2_len ds d e
theorem zcW:∀(n:Nat) (ds:List D) (d:D),zak n ds=some d->ds.length=1
 | 0,ds,d,e=>by cases e
 | n+1,ds,d,e=>zdD ds d e
theorem all_mk {l:PySem.W.OpenLaw}{q:Program}{loose:List Str}{w:World}{K:W.Frag}{h:Heap}{mg mb:Str->Option Value}{mean:ExcName->Option Value}{dR:DefRec}{fa f1 f2 f3 f4 f5 f6 f7 f8 f9 f10 f11 f12 f13 f14 f15 f16:Addr}(X:K.In h)(T:Top q loose mean mg mb h)(hfa:mg "law"=some (.ref fa))
 {od5 an5 od16 an16:Option Addr}{sl5 sl16:Array (Option Value)}{oc5 kV5 dc5 pm5 cd5 ct5 oc16 kV16 dc16 pm16 cd16 ct16:Value}
 (h1:FH K "placed_within" za6 f1)
 (h2:FH K "placed_parts" zbh f2)
 (h3:FH K "place_of" zbS f3)
 (h4:FH K "chain_of" zbT f4)
 (a5:W.nsIn K mainGlobals "is_seen"=some (some (.ref f5))) (l5:K.lookup f5=some ⟨oc5,od5,.func (W.fnOf "is_seen" "is_seen" (zbE zaJ) (zaB zaJ) (zab zaJ) .none kV5 dc5 pm5 an5 cd5 ct5),sl5⟩) (c5:W.codeIn K cd5 "is_seen"=true) (k5:W.keepIn K (.ref f5)=true)
 (h6:FH K "why_not" zcr f6)
 (h7:FH K "is_open" zcq f7)
 (h8:FH K "open_tuples" zbr f8)
 (h9:FH K "open_parts" zbc f9)
 (h10:FH K "_law_feed" zb8 f10)
 (h11:FH K "_law_next" zb9 f11)
 (h12:FH K "_law_rows" zca f12)
 (h13:FH K "_law_hung" zbs f13)
 (h14:FH K "_law_truth" zbN f14)
 (h15:FH K "_law_refused" zbi f15)
 (a16:W.nsIn K mainGlobals "law"=some (some (.ref f16))) (l16:K.lookup f16=some ⟨oc16,od16,.func (W.fnOf "law" "law" (zbE zcU) (zaB zcU) (zab zcU) .none kV16 dc16 pm16 an16 cd16 ct16),sl16⟩) (c16:W.codeIn K cd16 "law"=true) (k16:W.keepIn K (.ref f16)=true)
 (z0:W.nsIn K mainGlobals "len"=some none)
 (z1:W.nsIn K mainGlobals "range"=some none)
 (z2:W.nsIn K mainGlobals "min"=some none)
 (z3:W.nsIn K mainGlobals "max"=some none)
 (z4:W.nsIn K mainGlobals "int"=some none)
 (z5:W.nsIn K mainGlobals "str"=some none)
 (z6:W.nsIn K mainGlobals "bool"=some none)
 (z7:W.nsIn K mainGlobals "list"=some none)
 (z8:W.nsIn K mainGlobals "tuple"=some none)
 (z9:W.nsIn K mainGlobals "isinstance"=some none)
 (z10:W.nsIn K mainGlobals "any"=some none)
 (z11:W.nsIn K mainGlobals "all"=some none)
 (z12:W.nsIn K mainGlobals "enumerate"=some none)
 (z13:W.nsIn K mainGlobals "abs"=some none)
 (z14:W.nsIn K mainGlobals "sorted"=some none)
 (z15:W.nsIn K mainGlobals "dict"=some none)
 (z16:W.nsIn K mainGlobals "ord"=some none)
 (z17:W.nsIn K mainGlobals "chr"=some none)
 (z18:W.nsIn K mainGlobals "reversed"=some none)
 {tk_PARTS:Tok}
 {tk_NAME:Tok}
 {tk_WORD:Tok}
 (t_bool_NoneType:PySem.W.kitOne K (.type "NoneType") (.type "bool")=some false)
 (t_bool_bool:PySem.W.kitOne K (.type "bool") (.type "bool")=some true)
 (t_bool_int:PySem.W.kitOne K (.type "int") (.type "bool")=some false)
 (t_bool_str:PySem.W.kitOne K (.type "str") (.type "bool")=some false)
 (t_bool_tuple:PySem.W.kitOne K (.type "tuple") (.type "bool")=some false)
 (t_bool_list:PySem.W.kitOne K (.type "list") (.type "bool")=some false)
 (t_bool_dict:PySem.W.kitOne K (.type "dict") (.type "bool")=some false)
 (t_list_NoneType:PySem.W.kitOne K (.type "NoneType") (.type "list")=some false)
 (t_list_bool:PySem.W.kitOne K (.type "bool") (.type "list")=some false)
 (t_list_int:PySem.W.kitOne K (.type "int") (.type "list")=some false)
 (t_list_str:PySem.W.kitOne K (.type "str") (.type "list")=some false)
 (t_list_tuple:PySem.W.kitOne K (.type "tuple") (.type "list")=some false)
 (t_list_list:PySem.W.kitOne K (.type "list") (.type "list")=some true)
 (t_list_dict:PySem.W.kitOne K (.type "dict") (.type "list")=some false)
 (g_PARTS:W.nsIn K mainGlobals "PARTS"=some (some (.int 5 tk_PARTS)))
 (g_NAME:W.nsIn K mainGlobals "NAME"=some (some (.int 0 tk_NAME)))
 (g_WORD:W.nsIn K mainGlobals "WORD"=some (some (.int 2 tk_WORD)))
 {C_NoPart:Addr}(n_NoPart:W.nsIn K mainGlobals "NoPart"=some (some (.ref C_NoPart)))
 {C_FocusError:Addr}(n_FocusError:W.nsIn K mainGlobals "FocusError"=some (some (.ref C_FocusError)))
 {C_NotOpen:Addr}(n_NotOpen:W.nsIn K mainGlobals "NotOpen"=some (some (.ref C_NotOpen)))
 {N_NoPart fI_NoPart:Addr}{bm_NoPart:List Value}{p_NoPart x_NoPart slf_NoPart:Str}{k_NoPart:Nat}{cp_NoPart np_NoPart fp_NoPart jp_NoPart:Pos}{fd_NoPart:FuncData}(xi_NoPart:EX.XI l.prog w K C_NoPart N_NoPart fI_NoPart bm_NoPart slf_NoPart x_NoPart "name" (.JoinedStr [.Constant (.str p_NoPart) k_NoPart cp_NoPart,.FormattedValue (.Name x_NoPart np_NoPart) 114 none fp_NoPart] jp_NoPart) fd_NoPart) (kp_NoPart:W.keepIn K (.ref C_NoPart)=true) (bb_NoPart:bm_NoPart.contains (.type "BaseException")=true) (pl_NoPart:p_NoPart.length<=1000)
 (z_super:W.nsIn K mainGlobals "super"=some none)
 (fe_b:PySem.W.mroIn K C_FocusError (.type "BaseException")=some true)
 (fe_t:PySem.W.typeIn K (.ref C_FocusError)=some (.type "type"))
 (fe_c:PySem.W.mroIn K C_NoPart (.ref C_FocusError)=some true)
 (x_ga:PySem.W.findIn K (.ref C_NoPart) "__getattribute__"=some (some (.builtin "BaseException.__getattribute__")))
 (x_gt:PySem.W.findIn K (.ref C_NoPart) "__getattr__"=some none)
 (x_bm:PySem.W.mroIn K C_NoPart (.type "BaseException")=some true)
 (x_om:PySem.W.mroIn K C_NoPart (.type "object")=some true)
 (x_hd:PySem.W.hasDictIn K C_NoPart=true)
 (x_cl:PySem.W.findIn K (.ref C_NoPart) "__class__"=some (some (.builtin "object.__class__")))
 (x_sg:PySem.W.specialIn K (.builtin "object.__class__") "__get__"=some (some (.builtin "getset_descriptor.__get__")))
 (x_tk:PySem.W.takesIn K (.builtin "object.__class__")=some true)
 (x_no:PySem.W.findIn K (.ref C_NoPart) "name"=some none)
 (i_1:PySem.W.kitOne K (.ref C_NoPart) (.ref C_NoPart)=some true)
 (i_2:PySem.W.kitOne K (.ref C_NoPart) (.ref C_NotOpen)=some false)
 (hK:PySem.W.kb_classed K=true) (hf:(recsOf q).find? (fun e=>e.name == (Str.ofString "is_seen"))=some dR)
 : ∃(fd:FuncData) (tb:List Addr) (nm:Addr->Array Value),Tabs K h tb/\(∀(s:Shared) (v:Value),BindsTo s fd ⟨[v],[]⟩ [("_law_script",v)])/\∀(base:Heap) (bm:Addr) (ob:Obj),K.In base->base.Ns mainGlobals mg->BMod base mainGlobals mg bm ob->FnOk l.prog w K mg base CX0 18 fa fd ["_law_script"] (spB K "is_seen.<locals>.<genexpr>" tb nm):=by
 have e:=hfa.symm.trans (wbj X T.g a16)
 cases e;have K_bool:Kit K "bool":=⟨t_bool_NoneType,t_bool_bool,t_bool_int,t_bool_str,t_bool_tuple,t_bool_list,t_bool_dict⟩
 have K_list:Kit K "list":=⟨t_list_NoneType,t_list_bool,t_list_int,t_list_str,t_list_tuple,t_list_list,t_list_dict⟩
 have G_PARTS:GlobD K mg "PARTS" (.int 5):=zd1 (wbj X T.g g_PARTS)
 have G_NAME:GlobD K mg "NAME" (.int 0):=zd1 (wbj X T.g g_NAME)
 have G_WORD:GlobD K mg "WORD" (.int 2):=zd1 (wbj X T.g g_WORD)
 obtain⟨a1,⟨_,F1⟩,k1⟩:=h1;have b1:=F1.binds (ps:=["parts","outer_place"]) fun _ _ _ _ _ _ us hl=>match us,hl with | [_,_],_=>rfl
 have m1:=wbj X T.g a1
 obtain⟨a2,⟨_,F2⟩,k2⟩:=h2;have b2:=F2.binds (ps:=["sheet"]) fun _ _ _ _ _ _ us hl=>match us,hl with | [_],_=>rfl
 have m2:=wbj X T.g a2
 obtain⟨a3,⟨_,F3⟩,k3⟩:=h3;have b3:=F3.binds (ps:=["sheet","name"]) fun _ _ _ _ _ _ us hl=>match us,hl with | [_,_],_=>rfl
 have m3:=wbj X T.g a3
 obtain⟨a4,⟨_,F4⟩,k4⟩:=h4;have b4:=F4.binds (ps:=["sheet","name"]) fun _ _ _ _ _ _ us hl=>match us,hl with | [_,_],_=>rfl
 have m4:=wbj X T.g a4
 have F5:=zha (st:=zaJ) l5 c5 k5
 have b5:=F5.binds (ps:=["sheet","name"]) fun _ _ _ _ _ _ us hl=>match us,hl with | [_,_],_=>rfl
 have m5:=wbj X T.g a5
 obtain⟨a6,⟨_,F6⟩,k6⟩:=h6;have b6:=F6.binds (ps:=["sheet","name"]) fun _ _ _ _ _ _ us hl=>match us,hl with | [_,_],_=>rfl
 have m6:=wbj X T.g a6
 obtain⟨a7,⟨_,F7⟩,k7⟩:=h7;have b7:=F7.binds (ps:=["sheet","name"]) fun _ _ _ _ _ _ us hl=>match us,hl with | [_,_],_=>rfl
 have m7:=wbj X T.g a7
 obtain⟨a8,⟨_,F8⟩,k8⟩:=h8;have b8:=F8.binds (ps:=["parts"]) fun _ _ _ _ _ _ us hl=>match us,hl with | [_],_=>rfl
 have m8:=wbj X T.g a8
 obtain⟨a9,⟨_,F9⟩,k9⟩:=h9;have b9:=F9.binds (ps:=["sheet"]) fun _ _ _ _ _ _ us hl=>match us,hl with | [_],_=>rfl
 have m9:=wbj X T.g a9
 obtain⟨a10,⟨_,F10⟩,k10⟩:=h10;have b10:=F10.binds (ps:=["_law_script","_law_k"]) fun _ _ _ _ _ _ us hl=>match us,hl with | [_,_],_=>rfl
 have m10:=wbj X T.g a10
 obtain⟨a11,⟨_,F11⟩,k11⟩:=h11;have b11:=F11.binds (ps:=["_law_feed_here","_law_many"]) fun _ _ _ _ _ _ us hl=>match us,hl with | [_,_],_=>rfl
 have m11:=wbj X T.g a11
 obtain⟨a12,⟨_,F12⟩,k12⟩:=h12;have b12:=F12.binds (ps:=["_law_script"]) fun _ _ _ _ _ _ us hl=>match us,hl with | [_],_=>rfl
 have m12:=wbj X T.g a12
 obtain⟨a13,⟨_,F13⟩,k13⟩:=h13;have b13:=F13.binds (ps:=["_law_rows_here"]) fun _ _ _ _ _ _ us hl=>match us,hl with | [_],_=>rfl
 have m13:=wbj X T.g a13
 obtain⟨a14,⟨_,F14⟩,k14⟩:=h14;have b14:=F14.binds (ps:=["_law_found","_law_due"]) fun _ _ _ _ _ _ us hl=>match us,hl with | [_,_],_=>rfl
 have m14:=wbj X T.g a14
 obtain⟨a15,⟨_,F15⟩,k15⟩:=h15;have b15:=F15.binds (ps:=["_law_sheet","_law_name","_law_way"]) fun _ _ _ _ _ _ us hl=>match us,hl with | [_,_,_],_=>rfl
 have m15:=wbj X T.g a15
 have F16:=zha (st:=zcU) l16 c16 k16
 have b16:=F16.binds (ps:=["_law_script"]) fun _ _ _ _ _ _ us hl=>match us,hl with | [_],_=>rfl
 have m16:=wbj X T.g a16
 have B:Blt mg:=zap (waD X T.g z0) (zap (waD X T.g z1) (zap (waD X T.g z2) (zap (waD X T.g z3) (zap (waD X T.g z4) (zap (waD X T.g z5) (zap (waD X T.g z6) (zap (waD X T.g z7) (zap (waD X T.g z8) (zap (waD X T.g z9) (zap (waD X T.g z10) (zap (waD X T.g z11) (zap (waD X T.g z12) (zap (waD X T.g z13) (zap (waD X T.g z14) (zap (waD X T.g z15) (zap (waD X T.g z16) (zap (waD X T.g z17) (zap (waD X T.g z18) (fun _ hy=>by cases hy)))))))))))))))))))
 have m_NoPart:=wbj X T.g n_NoPart
 have m_FocusError:=wbj X T.g n_FocusError
 have m_NotOpen:=wbj X T.g n_NotOpen
 have X_NoPart:XCl l.prog w K mg "NoPart" "name" zh3:=zjs xi_NoPart (waD X T.g z_super) m_NoPart n_NoPart kp_NoPart bb_NoPart pl_NoPart
 have xk1:EX.XK1 K C_NoPart:=⟨x_ga,x_gt,x_bm,x_om,x_hd,x_cl,x_sg,x_tk⟩
 have gf:EX.XG K C_NoPart "name":=⟨x_ga,x_gt,x_bm,x_no,x_hd⟩
 obtain⟨ct,Pt,hcd,hB⟩:=PySem.W.based_of_top T hf m5 (X _ _ l5) rfl;have hcd':cd5=.ref ct:=hcd
 have hC:CodeK K ct Pt:=CodeK.of X (hcd'▸c5) hB
 refine⟨W.fnOf "law" "law" (zbE zcU) (zaB zcU) (zab zcU) .none kV16 dc16 pm16 an16 cd16 ct16,[Pt],fun _=>#[.str "is_seen.<locals>.<genexpr>" 0],⟨fun P hP=>⟨ct,by rw[wak.mp hP];exact hB.tab⟩,fun P hP=>by rw[wak.mp hP];exact zkz X T.g hB hK⟩,fun s v=>.of_eq rfl,fun base bm ob hk hn hM=>lawB (m:=znC) rfl (fun S=>?_) fun S=>znN S⟩;have TT:TabF K mg base _ Pt:=⟨ct,bm,ob,hcd,hC,hM⟩
 have g_placed_within:=zhs (P:=l.prog) (w:=w) (K:=K) (mg:=mg) (base:=base) (x:="placed_within") (ps:=["parts","outer_place"]) (b:=za7) (m:=zaq) (k:=0) (fun _=>rfl) (fun _=>rfl) b1 k1 m1 (zcC) (fun {n} {self} C=>by rw[wci] at *;exact zcV F1 B C G_PARTS) 8
 have C_placed_within:=za3 (x:="placed_within") g_placed_within b1 k1 m1
 have g_placed_parts:=zdl (P:=l.prog) (w:=w) (mg:=mg) (base:=base) F2 B C_placed_within
 have C_placed_parts:=za3 (x:="placed_parts") g_placed_parts b2 k2 m2
 have g_place_of:=zfC (P:=l.prog) (w:=w) (mg:=mg) (base:=base) F3 B C_placed_parts G_NAME
 have C_place_of:=za3 (x:="place_of") g_place_of b3 k3 m3
 have g_chain_of:=zfD (P:=l.prog) (w:=w) (mg:=mg) (base:=base) F4 B C_place_of G_PARTS
 have C_chain_of:=za3 (x:="chain_of") g_chain_of b4 k4 m4
 have g_is_seen:=zgH (P:=l.prog) (w:=w) (mg:=mg) (base:=base) F5 B (Pc:=PcL K S Pt "is_seen.<locals>.<genexpr>") zf6 TT (fun H h=>h.2) C_chain_of G_WORD
 have C_is_seen:=za3 (x:="is_seen") g_is_seen b5 k5 m5
 have g_why_not:=zgI (P:=l.prog) (w:=w) (mg:=mg) (base:=base) F6 B C_chain_of G_WORD G_NAME
 have C_why_not:=za3 (x:="why_not") g_why_not b6 k6 m6
 have g_is_open:=zgJ (P:=l.prog) (w:=w) (mg:=mg) (base:=base) F7 B C_why_not
 have C_is_open:=za3 (x:="is_open") g_is_open b7 k7 m7
 have g_open_tuples:=zhs (P:=l.prog) (w:=w) (K:=K) (mg:=mg) (base:=base) (x:="open_tuples") (ps:=["parts"]) (b:=zbt) (m:=zak) (k:=0) (fun _=>rfl) (fun _=>rfl) b8 k8 m8 (zcW) (fun {n} {self} C=>by rw[wci] at *;exact zdw F8 B C G_WORD G_PARTS) 8
 have C_open_tuples:=za3 (x:="open_tuples") g_open_tuples b8 k8 m8
 have g_open_parts:=zek (P:=l.prog) (w:=w) (mg:=mg) (base:=base) F9 B C_open_tuples G_NAME
 have C_open_parts:=za3 (x:="open_parts") g_open_parts b9 k9 m9
 have gLfeed:=ze6 (P:=l.prog) (w:=w) (mg:=mg) (base:=base) F10 B (Pc:=PcL K S Pt "is_seen.<locals>.<genexpr>") zf6 (S:=S) (fun H h=>h.1)
 have CLfeed:=za3 (x:="_law_feed") gLfeed b10 k10 m10
 have gLnext:=ze7 (P:=l.prog) (w:=w) (mg:=mg) (base:=base) F11 B
 have CLnext:=za3 (x:="_law_next") gLnext b11 k11 m11
 have gLrows:=ze8 (P:=l.prog) (w:=w) (mg:=mg) (base:=base) F12 B (Pc:=PcL K S Pt "is_seen.<locals>.<genexpr>") zf6 (S:=S) CLfeed CLnext
 have CLrows:=za3 (x:="_law_rows") gLrows b12 k12 m12
 have gLhung:=ze9 (P:=l.prog) (w:=w) (mg:=mg) (base:=base) F13 B
 have CLhung:=za3 (x:="_law_hung") gLhung b13 k13 m13
 have gLtruth:=zem (P:=l.prog) (w:=w) (mg:=mg) (base:=base) F14 B K_bool
 have CLtruth:=za3 (x:="_law_truth") gLtruth b14 k14 m14
 have gx_place_of:=zeh (P:=l.prog) (w:=w) (mg:=mg) (base:=base) F3 B C_placed_parts G_NAME X_NoPart
 have X_place_of:=zdh (x:="place_of") gx_place_of b3 k3 m3
 have gx_chain_of:=zei (P:=l.prog) (w:=w) (mg:=mg) (base:=base) F4 B X_place_of
 have X_chain_of:=zdh (x:="chain_of") gx_chain_of b4 k4 m4
 have gx_is_seen:=ze2 (P:=l.prog) (w:=w) (mg:=mg) (base:=base) F5 B X_chain_of
 have X_is_seen:=zdh (x:="is_seen") gx_is_seen b5 k5 m5
 have gx_why_not:=ze3 (P:=l.prog) (w:=w) (mg:=mg) (base:=base) F6 B X_chain_of
 have X_why_not:=zdh (x:="why_not") gx_why_not b6 k6 m6
 have gx_is_open:=ze4 (P:=l.prog) (w:=w) (mg:=mg) (base:=base) F7 B X_why_not
 have X_is_open:=zdh (x:="is_open") gx_is_open b7 k7 m7
 have gLrefused:=zdo (P:=l.prog) (w:=w) (mg:=mg) (base:=base) F15 B X_is_seen X_is_open X_why_not (zjv m_FocusError n_NoPart fe_c (zlt m_FocusError fe_b fe_t)) m_NoPart m_NotOpen (zdH n_NoPart xk1 i_1 zeX) (zdH n_NoPart xk1 i_2 zeX) (zh4 n_NoPart gf zju)
 have CLrefused:=za3 (x:="_law_refused") gLrefused b15 k15 m15
 exact znD (P:=l.prog) (w:=w) (mg:=mg) (base:=base) F16 B (Pc:=PcL K S Pt "is_seen.<locals>.<genexpr>") zf6 (S:=S) CLrows CLhung CLtruth C_is_seen C_is_open C_open_parts CLrefused K_list
end Pg
open PySem PySem.W PyProof.Rows
set_option maxRecDepth 100000 in
set_option maxHeartbeats 0 in
theorem PySem.Challenge.cw_focuswalk_k11_seen_and_open_holds : PySem.Challenge.rw_focuswalk_k11_seen_and_open.Holds := by
 w_on;o_law;k_head;(case hw=>w_witness2)
 k_fill
 refine VD.walkB (l:=PySem.Challenge.rw_focuswalk_k11_seen_and_open) (k:=18) (x:="_law_script") (nq:="is_seen.<locals>.<genexpr>") rfl rfl ⟨rfl,by decide,by decide,rfl⟩ (fun w h Y=>PySem.W.kIn_of Y) ?F;case F=>
  intro w mg mb mean fa h KX T hmg;refine' Pg.all_mk KX T hmg (Pg.fh_mk ?a1 ?l1 ?c1 ?k1) (Pg.fh_mk ?a2 ?l2 ?c2 ?k2) (Pg.fh_mk ?a3 ?l3 ?c3 ?k3) (Pg.fh_mk ?a4 ?l4 ?c4 ?k4) ?a5 ?l5 ?c5 ?k5 (Pg.fh_mk ?a6 ?l6 ?c6 ?k6) (Pg.fh_mk ?a7 ?l7 ?c7 ?k7) (Pg.fh_mk ?a8 ?l8 ?c8 ?k8) (Pg.fh_mk ?a9 ?l9 ?c9 ?k9) (Pg.fh_mk ?a10 ?l10 ?c10 ?k10) (Pg.fh_mk ?a11 ?l11 ?c11 ?k11) (Pg.fh_mk ?a12 ?l12 ?c12 ?k12) (Pg.fh_mk ?a13 ?l13 ?c13 ?k13) (Pg.fh_mk ?a14 ?l14 ?c14 ?k14) (Pg.fh_mk ?a15 ?l15 ?c15 ?k15) ?a16 ?l16 ?c16 ?k16 ?z0 ?z1 ?z2 ?z3 ?z4 ?z5 ?z6 ?z7 ?z8 ?z9 ?z10 ?z11 ?z12 ?z13 ?z14 ?z15 ?z16 ?z17 ?z18 ?t_bool_NoneType ?t_bool_bool ?t_bool_int ?t_bool_str ?t_bool_tuple ?t_bool_list ?t_bool_dict ?t_list_NoneType ?t_list_bool ?t_list_int ?t_list_str ?t_list_tuple ?t_list_list ?t_list_dict ?g_PARTS ?g_NAME ?g_WORD ?n_NoPart ?n_FocusError ?n_NotOpen (EX.xi_mk ?lk_NoPart ?i_NoPart ?lf_NoPart ?opq_NoPart ?self_NoPart ?st_NoPart ?tak_NoPart ?cdi_NoPart ?hc_NoPart ?lc_NoPart ?lcc_NoPart ?occd_NoPart ?inC_NoPart ?t1_NoPart ?sN_NoPart ?und_NoPart ?hasD_NoPart ?body_NoPart ?ne_NoPart ?dbg_NoPart ?par_NoPart ?bind_NoPart ?cell_NoPart ?loc1_NoPart ?loc2_NoPart ?flags_NoPart ?kinds_NoPart ?file_NoPart ?top_NoPart ?glob_NoPart ?blt_NoPart ?ccl_NoPart) ?kp_NoPart ?bb_NoPart ?pl_NoPart ?z_super ?fe_b ?fe_t ?fe_c ?x_ga ?x_gt ?x_bm ?x_om ?x_hd ?x_cl ?x_sg ?x_tk ?x_no ?i_1 ?i_2 ?hK ?hf
  (case n_NoPart=>k_is)
  (case n_FocusError=>k_is)
  (case n_NotOpen=>k_is)
  (case lk_NoPart=>k_is)
  (case i_NoPart=>k_is)
  (case lf_NoPart=>k_is)
  (case opq_NoPart=>k_is)
  (case self_NoPart=>k_is)
  (case st_NoPart=>k_is)
  (case tak_NoPart=>k_is)
  (case cdi_NoPart=>first | k_is | exact rfl)
  (case hc_NoPart=>exact rfl)
  (case lc_NoPart=>k_is)
  (case ccl_NoPart=>exact fun _=>rfl)
  (case lcc_NoPart=>k_is)
  (case occd_NoPart=>exact rfl)
  (case inC_NoPart=>exact rfl)
  (case t1_NoPart=>exact rfl)
  (case sN_NoPart=>exact rfl)
  (case und_NoPart=>exact rfl)
  (case hasD_NoPart=>exact rfl)
  (case body_NoPart=>exact⟨_,_,_,_,_,_,_,_,_,rfl,fun _=>rfl,fun _=>rfl,fun _=>rfl,fun _=>rfl,fun _=>_,fun _=>rfl⟩)
  (case ne_NoPart=>decide)
  (case dbg_NoPart=>decide)
  (case par_NoPart=>exact⟨_,rfl,rfl⟩)
  (case bind_NoPart=>exact fun _ _=>rfl)
  (case cell_NoPart=>decide)
  (case loc1_NoPart=>exact rfl)
  (case loc2_NoPart=>exact rfl)
  (case flags_NoPart=>exact⟨rfl,rfl,rfl⟩)
  (case kinds_NoPart=>exact fun _=>⟨rfl,rfl,rfl,rfl⟩)
  (case file_NoPart=>exact⟨_,_,_,rfl,rfl,rfl⟩)
  (case top_NoPart=>exact rfl)
  (case glob_NoPart=>exact fun _=>rfl)
  (case blt_NoPart=>exact fun _=>rfl)
  (case pl_NoPart=>decide +kernel)
  (case hK=>first | (with_unfolding_all rfl) | rfl)
  (case hf=>rfl)
  all_goals try first | k_is | exact rfl | kit_is

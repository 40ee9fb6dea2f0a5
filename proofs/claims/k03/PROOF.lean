import PyProof.Rows.All
import Wide.All
import OpenK.AllK
import Wide.FinOn
import Lean
import PyProof.EqAt
import PyProof.EqKinds
import PyProof.TupleCall
import KE.KSortTup
import KE.KLam
import PyProof.NeKinds
import PyProof.StrCalls2
import PyProof.StrLawsJoin
import PyProof.MinMaxWalk
import PyProof.Rows.CallKwBuiltin
import KE.KRevIter
import PyProof.FactsAll.list_3
import PyProof.ExcInit
import PyProof.ExcClass3
import PyProof.StationsW
import KE.KSuper
import PyProof.ExcBaseAll.ValueError
import PyProof.RulesAs
import PyProof.NsDelKeeps
import PyProof.ExcArgs
import KE.KIsAll
import PyProof.FString4
import PySem.Challenge.RW_focuswalk_k03_around_and_levels
set_option Elab.async false
set_option linter.all false
set_option maxRecDepth 100000
set_option maxHeartbeats 4000000
def waa:=@PySem.wpAny_bind
def wab:=@List.size_toArray
def wac:=@PySem.Heap.get?_push_of_some
def wad:=@List.getElem?_set_ne
def wae:=@PySem.Heap.lt_size
def waf:=@List.mem_cons_of_mem
def wag:=@List.mem_cons
def wah:=@PySem.wpAny_pure
def wai:=@Nat.le_trans
def waj:=@Nat.lt_of_lt_of_le
def wak:=@List.getElem?_eq_some_iff
def wal:=@List.mem_cons_self
def wam:=@List.getElem?_map
def wan:=@Nat.le_refl
def wao:=@List.length_map
def wap:=@List.getElem?_set_self
def waq:=@List.mem_singleton
def war:=@decide_eq_false
def was:=@List.length_append
def wat:=@List.getElem?_eq_getElem
def wau:=@Option.some.inj
def wav:=@PySem.Heap.get?_push_size
def waw:=@List.mem_append_right
def wax:=@decide_eq_true
def way:=@List.mem_append
def waz:=@Nat.ne_of_lt
def waA:=@List.mem_of_getElem?
def waB:=@Bool.and_eq_true
def waC:=@List.append_nil
def waD:=@List.map_append
def waE:=@PySem.W.mg_none_of
def waF:=@List.nodup_cons
def waG:=@PySem.wpAny_mono
def waH:=@PySem.Heap.get?_update_other
def waI:=@List.getElem?_eq_none
def waJ:=@PySem.W.kia_one
def waK:=@List.length_take
def waL:=@List.mem_map
def waM:=@List.dropLast_concat_getLast
def waN:=@congrArg
def waO:=@PyProof.Rows.callWith_type1
def waP:=@List.lookup_cons
def waQ:=@List.all_eq_true
def waR:=@PySem.wpAny_Call_Name_kw
def waS:=@PySem.wpAny_field
def waT:=@List.replicate_succ
def waU:=@PySem.Heap.get?_update_self
def waV:=@Nat.lt_of_le_of_lt
def waW:=@Nat.le_of_lt
def waX:=@List.length_cons
def waY:=@PySem.W.mg_of
def waZ:=@Array.getElem?_eq_some_iff
def wba:=@Nat.le_of_succ_le_succ
def wbb:=@PySem.wpAny_newObj_type
def wbc:=@List.append_assoc
def wbd:=@List.getElem?_append_left
def wbe:=@List.map_cons
def wbf:=@List.nodup_nil
def wbg:=@List.length_replicate
def wbh:=@PySem.wpAny_loadPart'
def wbi:=@PySem.Obj.data_mapFields
def wbj:=@Nat.lt_irrefl
def wbk:=@List.length_reverse
def wbl:=@Nat.min_eq_left
def wbm:=@PySem.Heap.size_after_update
def wbn:=@List.mem_replicate
def wbo:=@List.mem_range
def wbp:=@List.mem_append_left
def wbq:=@PySem.wpAny_loadName_local
def wbr:=@List.flatten_cons
def wbs:=@List.nodup_append
def wbt:=@PySem.wpAny_loadPart_at
def wbu:=@Nat.le_of_eq
def wbv:=@List.map_map
def wbw:=@PySem.wpAny_holding
def wbx:=@PySem.mem_of_lookup
def wby:=@PySem.wpAny_getItem_str_slice
def wbz:=@List.getElem_cons_drop
def wbA:=@Option.map_eq_some_iff
def wbB:=@Bool.false_ne_true
def wbC:=@Bool.eq_iff_iff
def wbD:=@PySem.Obj.isFreed_of_fields
def wbE:=@List.find?_cons
def wbF:=@List.reverse_cons
def wbG:=@Int.toNat_natCast
def wbH:=@List.getElem?_append_right
def wbI:=@PySem.Heap.get?_none_of_le
def wbJ:=@PySem.codeAny_call_builtin
def wbK:=@PySem.wpAny_setField
def wbL:=@PySem.wpAny_call_entry
def wbM:=@PySem.F.args_tuple_add_2
def wbN:=@PySem.wpAny_pyIter_tuple
def wbO:=@List.mem_filterMap
def wbP:=@PySem.wpAny_passesOwn
def wbQ:=@PySem.W.callWith_K
def wbR:=@PySem.F.entry_tuple_add
def wbS:=@PySem.wpAny_callSpecial?_slot
def wbT:=@PySem.Code.quiet_builtin
def wbU:=@List.append_cancel_left
def wbV:=@Int.emod_lt_of_pos
def wbW:=@PySem.wpAny_pyIter_rangeiter
def wbX:=@PySem.F.slot_tuple_add
def wbY:=@PySem.wpAny_of_eq
def wbZ:=@PySem.Heap.get?_push_at
def wca:=@PySem.codeAny_mono
def wcb:=@List.singleton_append
def wcc:=@Bool.beq_eq_decide_eq
def wcd:=@Nat.zero_add
def wce:=@List.drop_length
def wcf:=@List.not_mem_nil
def wcg:=@List.dropLast_concat
def wch:=@PySem.wpAny_standAt
def wci:=@PySem.wpAny_call
def wcj:=@List.filterMap_cons
def wck:=@Array.length_toList
def wcl:=@PySem.wpAny_execs_nil
def wcm:=@Nat.zero_le
def wcn:=@List.getElem?_range
def wco:=@Array.toList_append
def wcp:=@PySem.wpAny_isSubtype_exc
def wcq:=@List.length_nil
def wcr:=@Int.emod_nonneg
def wcs:=@PySem.Txt.slice_le
def wct:=@PySem.Heap.size_push
def wcu:=@PySem.wpAny_Name
def wcv:=@Nat.le_succ
theorem zOB {α β:Type _} (a:α) (f:α->Option β):Option.bind (some a) f=f a:=rfl
namespace L2
open PySem PySem.Spec PyProof.Rows
abbrev Key:=Sum Int Str
def zgP:Key->Value->Bool
 | .inl k,v=>Value.isInt k v
 | .inr x,v=>Value.isStrOf x v
def keyH (w:World):Key->Int
 | .inl k=>hashInt k
 | .inr x=>hashStr w x
theorem zaB:∀{k:Key}{v:Value},zgP k v=true->(∃i t,k=Sum.inl i/\v=Value.int i t)\/(∃x t,k=Sum.inr x/\v=Value.str x t)
 | .inl i,v,h=>by
   obtain⟨t,e⟩:=Value.isInt_shape (k:=i) (v:=v) h;exact .inl ⟨i,t,rfl,e⟩
 | .inr x,v,h=>by
   obtain⟨t,e⟩:=Value.isStrOf_shape (x:=x) (v:=v) h;exact .inr ⟨x,t,rfl,e⟩
theorem zhc (i:Int)(t:Tok):zgP (.inl i) (.int i t)=true:=by simp[zgP,Value.isInt]
theorem zhd (x:Str)(t:Tok):zgP (.inr x) (.str x t)=true:=by simp[zgP,Value.isStrOf]
theorem zmk (a b:Int):decide ((Sum.inl a:Key)=Sum.inl b)=(a == b):=by
 by_cases e:a=b
 ·subst e;simp
 ·have h:¬(Sum.inl a:Key)=Sum.inl b:=fun q=>e (Sum.inl.inj q)
  rw[war h];exact(beq_eq_false_iff_ne.mpr e).symm
theorem zml (a b:Str):decide ((Sum.inr a:Key)=Sum.inr b)=decide (a=b):=by
 by_cases e:a=b
 ·subst e;simp
 ·have h:¬(Sum.inr a:Key)=Sum.inr b:=fun q=>e (Sum.inr.inj q)
  rw[war h,war e]
theorem zmm (a:Int)(b:Str):decide ((Sum.inl a:Key)=Sum.inr b)=false:=war (fun q=>nomatch q)
theorem zmn (a:Str)(b:Int):decide ((Sum.inr a:Key)=Sum.inl b)=false:=war (fun q=>nomatch q)
def zbj (prog:Program)(w:World):PySem.KeyKind prog w Key where
 is:=zgP
 hash:=keyH w
 inj:=fun v a b ha hb=>by
  rcases zaB ha with⟨i,t,rfl,rfl⟩ | ⟨x,t,rfl,rfl⟩
  ·rcases zaB hb with⟨j,u,rfl,e⟩ | ⟨y,u,rfl,e⟩
   ·injection e with e1 _;rw[e1]
   ·exact nomatch e
  ·rcases zaB hb with⟨j,u,rfl,e⟩ | ⟨y,u,rfl,e⟩
   ·exact nomatch e
   ·injection e with e1 _;rw[e1]
 byValue:=fun k v h=>by
  rcases zaB h with⟨i,t,rfl,rfl⟩ | ⟨x,t,rfl,rfl⟩ <;> rfl
 pyHash:=fun hv h=>by
  rcases zaB hv with⟨i,t,rfl,rfl⟩ | ⟨x,t,rfl,rfl⟩
  ·exact wpAny_pyHash_int h
  ·exact wpAny_pyHash_str h
 eqBool:=fun hu hv h=>by
  rcases zaB hu with⟨i,t,rfl,rfl⟩ | ⟨x,t,rfl,rfl⟩
  ·rcases zaB hv with⟨j,u,rfl,rfl⟩ | ⟨y,u,rfl,rfl⟩
   ·rw[zmk] at h;exact wpAny_eqBool_int h
   ·rw[zmm] at h;exact SeqAt.EqAt.int_str i t y u _ _ _ _ h
  ·rcases zaB hv with⟨j,u,rfl,rfl⟩ | ⟨y,u,rfl,rfl⟩
   ·rw[zmn] at h;exact SeqAt.EqAt.str_int x t j u _ _ _ _ h
   ·rw[zml] at h;exact wpAny_eqBool_str h
 «strs»:=fun k x t v h=>by
  rcases zaB h with⟨i,u,rfl,e⟩ | ⟨y,u,rfl,e⟩
  ·exact nomatch e
  ·injection e with e1 _
   subst e1;cases v <;> rfl
theorem zfy (prog:Program)(w:World)(i:Int)(t:Tok):(zbj prog w).is (.inl i) (.int i t)=true:=zhc i t
theorem zfz (prog:Program)(w:World)(x:Str)(t:Tok):(zbj prog w).is (.inr x) (.str x t)=true:=zhd x t
inductive V where
 | non | bl (b:Bool) | int (i:Int) | str (x:Str) | byt (b:Array UInt8) | flt (b:UInt64) | ref (a:Addr) | ty (n:String)
 deriving DecidableEq
def RelV:V->Value->Prop
 | .non,u=>u=Value.none
 | .bl b,u=>u=Value.bool b
 | .int i,u=>∃t,u=Value.int i t
 | .str x,u=>∃t,u=Value.str x t
 | .byt b,u=>∃t,u=Value.bytes b t
 | .flt b,u=>∃t,u=Value.float b t
 | .ref a,u=>u=Value.ref a
 | .ty n,u=>u=Value.type n
abbrev Vals:List V->List Value->Prop:=Paired RelV
theorem Vals.length {xs:List V}{us:List Value}(r:Vals xs us):xs.length=us.length:=Paired.length r
theorem Vals.get:∀{xs:List V}{us:List Value}{i:Nat}{x:V},Vals xs us->xs[i]?=some x->∃u,us[i]?=some u/\RelV x u
 | _,_,_,_,.nil,e=>by simp at e
 | _,_,0,_,.cons r _,e=>by simp at e;subst e;exact⟨_,rfl,r⟩
 | _,_,i+1,x,.cons _ t,e=>by
   obtain⟨u,h1,h2⟩:=Vals.get (i:=i) (x:=x) t (by simpa using e);exact⟨u,by simpa using h1,h2⟩
theorem Vals.set {x:V}{u:Value}(r:RelV x u):∀{xs:List V}{us:List Value}(i:Nat),Vals xs us->Vals (xs.set i x) (us.set i u)
 | _,_,_,.nil=>.nil
 | _,_,0,.cons _ t=>.cons r t
 | _,_,i+1,.cons q t=>.cons q (Vals.set r i t)
theorem Vals.append:∀{xs ys:List V}{us ws:List Value},Vals xs us->Vals ys ws->Vals (xs++ys) (us++ws)
 | _,_,_,_,.nil,s=>s
 | _,_,_,_,.cons r t,s=>.cons r (Vals.append t s)
theorem Vals.take:∀{xs:List V}{us:List Value}(n:Nat),Vals xs us->Vals (xs.take n) (us.take n)
 | _,_,0,_=>.nil
 | _,_,_+1,.nil=>.nil
 | _,_,n+1,.cons r t=>.cons r (Vals.take n t)
theorem Vals.drop:∀{xs:List V}{us:List Value}(n:Nat),Vals xs us->Vals (xs.drop n) (us.drop n)
 | _,_,0,r=>r
 | _,_,_+1,.nil=>.nil
 | _,_,n+1,.cons _ t=>Vals.drop n t
def RelO:Option V->Option Value->Prop
 | some v,some u=>RelV v u
 | none,none=>True
 | _,_=>False
def KV {κ:Type}:List (κ×V)->List (κ×Value)->Prop:=Paired fun(p:κ×V) (q:κ×Value)=>p.1=q.1/\RelV p.2 q.2
def kV:Key->V
 | .inl i=>.int i
 | .inr x=>.str x
inductive HO where
 | lst (xs:List V)
 | tup (xs:List V)
 | dK (kvs:List (Key×V)) | dT (kvs:List (List Key×V))
 | set (S:Int->Bool) (n:Nat)
 | ins (C dx:Addr) (fs:List (Str×V))
 | own (x:Addr)
 | xd (fs:List (Str×V))
 | met (f x:Addr)
 | rng (lo hi:Int)
 | frz (o:Obj) (u:HO)
 | tbl (ps:Array Value)
 | ext (φ:Heap->Prop)
abbrev Hp:=Addr->Option HO
def upd (H:Hp)(a:Addr)(o:HO):Hp:=fun b=>if b=a then some o else H b
theorem zaf {H:Hp}{a:Addr}{o:HO}:upd H a o a=some o:=by unfold upd;rw[if_pos rfl]
theorem zag {H:Hp}{a b:Addr}{o:HO}(h:b≠a):upd H a o b=H b:=by unfold upd;rw[if_neg h]
theorem zaH {H:Hp}{a b:Addr}{o:HO}(h:H a=some o)(h':H b=none):a≠b:=by
 intro e;subst e;rw[h] at h';cases h'
section
variable (P:Program)(w:World)
def ObjOk (H:Hp)(h:Heap)(a:Addr):HO->Prop
 | .lst xs=>xs.length<=sizeLine/\∃(its:List Value) (n:Nat),Vals xs its/\h.get? a=some {cls:=.type "list",data:=.seq its.toArray n}
 | .tup xs=>xs.length<=sizeLine/\∃its:List Value,Vals xs its/\IsTup h a its.toArray
 | .dK kvs=>kvs.length<=sizeLine/\(a == sysModules)=false/\∃vs,KV kvs vs/\h.DictOf (zbj P w) a vs
 | .dT kvs=>kvs.length<=sizeLine/\(a == sysModules)=false/\∃xs:List (List Key×Addr×Value),
  Paired (fun(p:List Key×V) (q:List Key×Addr×Value)=>p.1=q.1/\H q.2.1=some (.tup (p.1.map kV))/\RelV p.2 q.2.2) kvs xs/\
  ∃o es ep,h.get? a=some o/\o.ExactDict/\o.data=.dict es ep/\es.toList=xs.map (entryOfKey (tupleKind (zbj P w)))/\(xs.map (·.1)).Nodup
 | .set S n=>h.SetOf (intKind P w) a S n
 | .ins C dx fs=>H dx=some (.own a)/\fs.length<=1000/\dx≠a/\h.get? a=some (PySem.W.instObj C dx)/\
  ∃mA,h.Ns1 dx mA/\(∀f,RelO (fs.lookup f) (mA f))/\PySem.Within mA (fs.map (·.1))
 | .own _=>∃o,h.get? a=some o
 | .xd fs=>∃mA,h.Ns1 a mA/\∀f,RelO (fs.lookup f) (mA f)
 | .rng lo hi=>∃t u v,h.get? a=some {cls:=.type "range",data:=.fields #[.int lo t,.int hi u,.int 1 v]}
 | .frz o u=>h.get? a=some o/\ObjOk H h a u
 | .tbl ps=>∃qs:Array Value,h.get? a=some {cls:=.none,data:=.fields qs}/\TriplesOk qs.toList/\∀pos cv,codeAmong pos qs.toList=some cv->∃c' o u vs t q,cv=Value.ref c'/\H c'=some (.frz o u)/\o.data=.fields vs/\vs[1]?=some (Value.str q t)/\ps[0]?=some (Value.str q 0)
 | .met f x=>h.get? a=some (PySem.W.methodObj (.ref f) (.ref x))
 | .ext φ=>φ h/\(∃o,h.get? a=some o)/\∀h1 h2:Heap,φ h1->(∀o,h1.get? a=some o->h2.get? a=some o)->φ h2
def HOk (H:Hp)(h:Heap):Prop:=∀a o,H a=some o->ObjOk P w H h a o
end
section
variable {P:Program}{w:World}{H H':Hp}{h h':Heap}{a:Addr}{o:HO}
theorem ObjOk.lt (x:ObjOk P w H h a o):a<h.objs.size:=by
 cases o with
 | lst xs=>obtain⟨_,_,_,_,e⟩:=x;exact wae e
 | tup xs=>obtain⟨_,_,_,p⟩:=x;exact p.lt
 | dK kvs=>obtain⟨_,_,_,_,o,_,_,e,_⟩:=x;exact wae e
 | dT kvs=>obtain⟨_,_,_,_,o,_,_,e,_⟩:=x;exact wae e
 | set S n=>obtain⟨o,_,_,_,e,_⟩:=x;exact wae e
 | ins C dx fs=>obtain⟨_,_,_,e,_⟩:=x;exact wae e
 | own y=>obtain⟨_,e⟩:=x;exact wae e
 | xd fs=>obtain⟨_,⟨_,_,_,e,_⟩,_⟩:=x;exact wae e
 | rng lo hi=>obtain⟨_,_,_,e⟩:=x;exact wae e
 | frz ob u=>obtain⟨e,_⟩:=x;exact wae e
 | tbl ps=>obtain⟨_,e,_⟩:=x;exact wae e
 | met f y=>exact wae (show h.get? a=some _ from x)
 | ext φ=>obtain⟨_,⟨_,e⟩,_⟩:=x;exact wae e
theorem Paired.mapP {α β:Type}{F G:α->β->Prop}:∀{l₁:List α}{l₂:List β},Paired F l₁ l₂->(∀a b,F a b->G a b)->Paired G l₁ l₂
 | _,_,.nil,_=>.nil
 | _,_,.cons r t,f=>.cons (f _ _ r) (Paired.mapP t f)
def Cst:HO->Prop
 | .tup _=>True
 | .frz _ _=>True
 | _=>False
theorem ObjOk.stay (x:ObjOk P w H h a o)(k:∀b u,(b=a\/H b=some (.own a))->h.get? b=some u->h'.get? b=some u)
 (ho:∀b,H b=some (.own a)->H' b=some (.own a)) (ht:∀b z,Cst z->H b=some z->H' b=some z):ObjOk P w H' h' a o:=by
 induction o with
 | lst xs=>obtain⟨z,its,n,r,e⟩:=x;exact⟨z,its,n,r,k _ _ (.inl rfl) e⟩
 | tup xs=>obtain⟨z,its,r,ob,e,c⟩:=x;exact⟨z,its,r,ob,k _ _ (.inl rfl) e,c⟩
 | dK kvs=>obtain⟨z,y,vs,r,ob,es,ep,e,c⟩:=x;exact⟨z,y,vs,r,ob,es,ep,k _ _ (.inl rfl) e,c⟩
 | dT kvs=>
   obtain⟨z,y,xs,r,ob,es,ep,e,c⟩:=x;exact⟨z,y,xs,Paired.mapP r fun p q z=>⟨z.1,ht _ _ trivial z.2.1,z.2.2⟩,ob,es,ep,k _ _ (.inl rfl) e,c⟩
 | set S n=>obtain⟨ob,es,ep,t,e,c⟩:=x;exact⟨ob,es,ep,t,k _ _ (.inl rfl) e,c⟩
 | ins C dx fs=>
   obtain⟨d,z,ne,e,mA,⟨od,es,ep,e2,c⟩,r⟩:=x;exact⟨ho _ d,z,ne,k _ _ (.inl rfl) e,mA,⟨od,es,ep,k _ _ (.inr d) e2,c⟩,r⟩
 | own y=>obtain⟨ob,e⟩:=x;exact⟨ob,k _ _ (.inl rfl) e⟩
 | xd fs=>obtain⟨mA,⟨od,es,ep,e,c⟩,r⟩:=x;exact⟨mA,⟨od,es,ep,k _ _ (.inl rfl) e,c⟩,r⟩
 | rng lo hi=>obtain⟨t,u,v,e⟩:=x;exact⟨t,u,v,k _ _ (.inl rfl) e⟩
 | frz ob u ih=>obtain⟨e,q⟩:=x;exact⟨k _ _ (.inl rfl) e,ih q⟩
 | tbl ps=>obtain⟨qs,e,r,rc⟩:=x;exact⟨qs,k a _ (.inl rfl) e,r,fun pos cv q=>let ⟨c',o,u,vs,t,q',e1,e2,e3⟩:=rc pos cv q;⟨c',o,u,vs,t,q',e1,ht _ _ trivial e2,e3⟩⟩
 | met f y=>
   have e:h.get? a=some (PySem.W.methodObj (.ref f) (.ref y)):=x
   show h'.get? a=some (PySem.W.methodObj (.ref f) (.ref y))
   exact k a _ (.inl rfl) e
 | ext φ=>obtain⟨p,⟨o,e⟩,st⟩:=x;exact⟨st _ _ p fun o q=>k _ _ (.inl rfl) q,⟨o,k _ _ (.inl rfl) e⟩,st⟩
theorem HOk.lt (x:HOk P w H h)(e:H a=some o):a<h.objs.size:=(x a o e).lt
theorem HOk.fresh (x:HOk P w H h)(e:h.objs.size<=a):H a=none:=by
 cases q:H a with
 | none=>rfl
 | some u=>exact absurd (waj (x.lt q) e) (wbj _)
theorem HOk.kept (x:HOk P w H h)(k:∀b u,h.get? b=some u->h'.get? b=some u):HOk P w H h':=fun a o e=>
 (x a o e).stay (fun b u _ q=>k b u q) (fun _ q=>q) fun _ _ _ q=>q
theorem HOk.laid (x:HOk P w H h)(k:∀b u,h.get? b=some u->h'.get? b=some u)(hp:h.objs.size<=a)(new:ObjOk P w (upd H a o) h' a o):HOk P w (upd H a o) h':=fun b u e=>by
 have hn:=x.fresh hp
 by_cases hb:b=a
 ·subst hb;rw[zaf] at e;cases e;exact new
 ·rw[zag hb] at e;exact(x b u e).stay (fun c v _ q=>k c v q) (fun c q=>by rw[zag (zaH q hn)];exact q) fun c xs _ q=>by rw[zag (zaH q hn)];exact q
end
def Rd (H:Hp)(a:Addr)(u:HO):Prop:=H a=some u\/∃o,H a=some (.frz o u)
theorem Rd.ok {P:Program}{w:World}{H:Hp}{h:Heap}{a:Addr}{u:HO}(r:Rd H a u)(x:HOk P w H h):ObjOk P w H h a u:=by
 rcases r with r | ⟨o,r⟩
 ·exact x a u r
 ·obtain⟨_,q⟩:=x a _ r;exact q
def Mut:Option HO->Prop
 | some (.lst _)=>True
 | some (.dK _)=>True
 | some (.dT _)=>True
 | some (.set _ _)=>True
 | some (.ins _ _ _)=>True
 | some (.ext _)=>True
 | _=>False
section
variable {P:Program}{w:World}{H:Hp}{h h':Heap}{x e:Addr}{o':HO}
theorem HOk.write (ok:HOk P w H h)(mu:Mut (H x))(he:e=x\/H e=some (.own x))(k:∀b u,b≠e->h.get? b=some u->h'.get? b=some u)(heo:∃u,h'.get? e=some u)
 (new:ObjOk P w (upd H x o') h' x o'):HOk P w (upd H x o') h':=fun b u q=>by
 have nown:∀c y,H c=some (.own y)->c≠x:=fun c y r z=>by subst z;rw[r] at mu;exact mu
 have ntup:∀c o,Cst o->H c=some o->c≠x:=fun c o hc r z=>by subst z;rw[r] at mu;cases o <;> first | exact mu | exact hc
 by_cases hb:b=x
 ·subst hb;rw[zaf] at q;cases q;exact new
 ·rw[zag hb] at q;by_cases hbe:b=e
  ·have q':H b=some (.own x):=by
    rcases he with z | z
    ·exact absurd (hbe.trans z) hb
    ·rw[hbe];exact z
   rw[q] at q';cases q';obtain⟨v,hv⟩:=heo;exact⟨v,by rw[hbe];exact hv⟩
  ·refine(ok b u q).stay (fun c v hc r=>k c v ?_ r) (fun c r=>by rw[zag (nown c b r)];exact r) fun c xs hc r=>by rw[zag (ntup c xs hc r)];exact r
   rcases hc with rfl | hc
   ·exact hbe
   ·rintro rfl;rcases he with z | z
    ·exact nown c b hc z
    ·rw[hc] at z;cases z;exact hb rfl
end
structure Un (fs ex:List Addr)(H H':Hp)(h h':Heap):Prop where
 keep:∀b o,h.get? b=some o->H b=none->b∉fs->b∉ex->h'.get? b=some o
 slot:∀b o,h.get? b=some o->H b=none->b∈fs->b∉ex->∃sl,h'.get? b=some {o with slots:=sl}
 free:∀b o,h.get? b=some o->H b=none->b∉ex->H' b=none
 there:∀b o,h.get? b=some o->b∉ex->∃o',h'.get? b=some o'
 tups:∀b xs,H b=some (.tup xs)->H' b=some (.tup xs)
 frzs:∀b o u,H b=some (.frz o u)->H' b=some (.frz o u)
 tbls:∀b ps,H b=some (.tbl ps)->∃more,H' b=some (.tbl (ps++more))
section
variable {fs fs' ex ex':List Addr}{H H1 H2:Hp}{h h1 h2 h':Heap}{a x e:Addr}{o:HO}
theorem Un.any (u:Un fs ex H H1 h h1){b:Addr}{ob:Obj}(q:h.get? b=some ob)(n:H b=none)(hx:b∉ex):∃sl,h1.get? b=some {ob with slots:=sl}:=by
 by_cases hb:b∈fs
 ·exact u.slot b ob q n hb hx
 ·exact⟨ob.slots,u.keep b ob q n hb hx⟩
theorem Un.kept (k:∀b u,h.get? b=some u->h'.get? b=some u):Un fs ex H H h h':=
 ⟨fun b ob q _ _ _=>k b ob q,fun b ob q _ _ _=>⟨ob.slots,k b ob q⟩,fun _ _ _ n _=>n,fun b ob q _=>⟨ob,k b ob q⟩,fun _ _ q=>q,fun _ _ _ q=>q,fun _ ps q=>⟨#[],by rw[q];simp⟩⟩
theorem Un.refl:Un fs ex H H h h:=Un.kept fun _ _ q=>q
theorem Un.laid (k:∀b u,h.get? b=some u->h'.get? b=some u)(hp:h.objs.size<=a)(hn:H a=none):Un fs ex H (upd H a o) h h' where
 keep:=fun b u q _ _ _=>k b u q
 slot:=fun b u q _ _ _=>⟨u.slots,k b u q⟩
 free:=fun b u q n _=>by rw[zag (waz (waj (wae q) hp))];exact n
 there:=fun b u q _=>⟨u,k b u q⟩
 tups:=fun b xs q=>by rw[zag (zaH q hn)];exact q
 frzs:=fun b u xs q=>by rw[zag (zaH q hn)];exact q
 tbls:=fun b ps q=>⟨#[],by rw[zag (zaH q hn),q];simp⟩
theorem Un.write (mu:Mut (H x))(he:e=x\/H e=some (.own x))(k:∀b u,b≠e->h.get? b=some u->h'.get? b=some u)(heo:∃u,h'.get? e=some u):Un fs ex H (upd H x o) h h':=by
 have hx:∀b,H b=none->b≠x:=fun b n z=>by subst z;rw[n] at mu;exact mu
 have hb:∀b,H b=none->b≠e:=fun b n z=>by
  subst z;rcases he with r | r
  ·exact hx b n r
  ·rw[n] at r;cases r
 have hm:∀b u,H b=some u->¬Mut (some u)->b≠x:=fun b u q nm z=>by subst z;rw[q] at mu;exact nm mu
 refine⟨fun b u q n _ _=>k b u (hb b n) q,fun b u q n _ _=>⟨u.slots,k b u (hb b n) q⟩,fun b u q n _=>by rw[zag (hx b n)];exact n,fun b u q _=>?_,
  fun b xs q=>by rw[zag (hm b _ q fun z=>z)];exact q,fun b u xs q=>by rw[zag (hm b _ q fun z=>z)];exact q,fun b ps q=>⟨#[],by rw[zag (hm b _ q fun z=>z),q];simp⟩⟩
 by_cases hbe:b=e
 ·subst hbe;exact heo
 ·exact⟨u,k b u hbe q⟩
end
def trk (h:Heap)(H:Hp):List Addr:=(List.range h.objs.size).filter fun a=>(H a).isSome
def hidT (h:Heap)(H:Hp):Heap:=PySem.W.hideAll h (trk h H)
theorem zhe (h:Heap)(H:Hp):(hidT h H).objs.size=h.objs.size:=PySem.W.hideAll_size _ _
theorem ziT {h:Heap}{H:Hp}{b:Addr}{o:Obj}(e:h.get? b=some o)(n:H b=none):(hidT h H).get? b=some o:=
 PySem.W.hideAll_get _ e fun hm=>by
  have q:(H b).isSome=true:=(List.mem_filter.mp hm).2
  rw[n] at q;simp at q
theorem zkQ {h:Heap}{H:Hp}{b:Addr}{o:Obj}(e:(hidT h H).get? b=some o):h.get? b=some o/\H b=none:=by
 have e':h.get? b=some o:=PySem.W.of_hideAll (trk h H) e
 refine⟨e',?_⟩;cases q:H b with
 | none=>rfl
 | some x=>
   have hm:b∈trk h H:=List.mem_filter.mpr ⟨wbo.mpr (wae e'),by simp[q]⟩
   have z:(hidT h H).get? b=none:=PySem.W.hideAll_none (trk h H) hm
   rw[z] at e;cases e
structure Mod (K:W.Frag)(mg:Str->Option Value)(base:Heap):Prop where
 kin:K.In base
 glob:base.Ns mainGlobals mg
 blt:∃mb,base.Ns builtinsNs mb/\∀x:Str,x≠"__name__"->mb x=bootBuiltins x
 nolimit:base.NoLimit
structure Cx where
 prog:Program
 w:World
 K:W.Frag
 mg:Str->Option Value
 base:Heap
 A:Around
 N:List Str
 s₀:Shared
 Hz:Hp
 env:Env
 outer:List Env
 stack:List Env
 ex:List Addr
 fn:Str->Bool
 calm:Bool
 pn:List (Addr×Obj)
 xe:Value->Shared->Prop
def frs (l:List Env):List Addr:=l.filterMap (·.frame)
abbrev Cx.fs (X:Cx):List Addr:=frs X.outer
def Vis (sc:Scope)(x:Str):Prop:=sc.names.lookup x=some .local\/sc.names.lookup x=some .cell\/sc.names.lookup x=some .free
def Loc (sc:Scope)(x:Str):Prop:=sc.names.lookup x=some .local\/sc.names.lookup x=some .cell
def Look (env:Env)(h:Heap)(m:Str->Option Value)(x:Str)(u:Value):Prop:=
 (env.kindOf x=some .local/\m x=some u)\/((env.kindOf x=some .cell\/env.kindOf x=some .free)/\∃c,env.cells.lookup x=some c/\h.IsCell c (some u))
structure Cx.Ok (X:Cx):Prop where
 mod:Mod X.K X.mg X.base
 kind:X.env.scope.kind=.function
 glob:X.env.globals=mainGlobals
 blt:X.env.builtins=builtinsNs
 above:X.s₀.heap.objs.size<=X.env.locals
 inj:∀x y c,X.env.cells.lookup x=some c->X.env.cells.lookup y=some c->x=y
 has:∀x,(X.env.kindOf x=some .cell\/X.env.kindOf x=some .free)->∃c,X.env.cells.lookup x=some c
 cab:∀x c,X.fn x=true->X.env.cells.lookup x=some c->X.s₀.heap.objs.size<=c
 hd:X.calm=true->X.A.handled=none
 frames:X.A.frames=some X.stack
 stk:X.stack=X.outer\/(X.stack=X.env::X.outer/\X.env.frame=some X.env.locals)
 exf:∀b∈X.ex,b≠X.env.locals/\∀x c,X.env.cells.lookup x=some c->c≠b
 bs:∀b o,X.base.get? b=some o->X.s₀.heap.get? b=some o/\X.Hz b=none
 bsz:X.base.objs.size<=X.s₀.heap.objs.size
 noex:∀b o,X.base.get? b=some o->b∉X.ex
 exfs:∀b∈X.ex,b∉X.fs
 funs:X.s₀.heap.FunFrames X.base X.outer
 frf:∀b∈X.fs,X.Hz b=none
structure Inv (X:Cx)(pins:List (Addr×Obj))(σ:List (Option V))(H:Hp)(s:Shared):Prop where
 ok:X.Ok
 os:s.os=X.s₀.os
 bare:AllBare s.gens
 base:Un X.fs X.ex X.Hz H X.s₀.heap s.heap
 loc:∃m,s.heap.Ns X.env.locals m/\∀(i:Nat) (x:Str) (v:V),X.N[i]?=some x->σ[i]?=some (some v)->Vis X.env.scope x->∃u,RelV v u/\Look X.env s.heap m x u
 cell:∀x c,X.env.cells.lookup x=some c->∃v,s.heap.IsCell c v
 free:H X.env.locals=none
 freeC:∀x c,X.env.cells.lookup x=some c->H c=none
 pin:∀p∈X.pn++pins,s.heap.get? p.1=some p.2/\H p.1=none/\p.1≠X.env.locals/\p.1∉X.fs/\∀v,p.2.data≠.cell v
 hok:HOk X.prog X.w H s.heap
 len:σ.length=X.N.length
section
variable {X:Cx}{pins:List (Addr×Obj)}{σ:List (Option V)}{H H':Hp}{s:Shared}{h':Heap}
theorem Cx.Ok.nofr (ok:X.Ok){b:Addr}{o:Obj}(e:X.base.get? b=some o):b∉X.fs:=fun hb=>by
 have:=(ok.funs.mem hb).1
 rw[e] at this;cases this
theorem Inv.bs (I:Inv X pins σ H s):∀b o,X.base.get? b=some o->s.heap.get? b=some o/\H b=none:=fun b o e=>
 ⟨I.base.keep b o (I.ok.bs b o e).1 (I.ok.bs b o e).2 (I.ok.nofr e) (I.ok.noex b o e),I.base.free b o (I.ok.bs b o e).1 (I.ok.bs b o e).2 (I.ok.noex b o e)⟩
theorem Inv.bk (I:Inv X pins σ H s):∀b o,X.base.get? b=some o->s.heap.get? b=some o:=fun b o e=>(I.bs b o e).1
theorem Inv.mod (I:Inv X pins σ H s):Mod X.K X.mg X.base:=I.ok.mod
theorem Inv.kIn (I:Inv X pins σ H s):X.K.In s.heap:=I.ok.mod.kin.keeps I.bk
theorem Inv.nolimit (I:Inv X pins σ H s):s.heap.NoLimit:=I.ok.mod.nolimit.keeps I.bk
theorem Inv.lt (I:Inv X pins σ H s):X.env.locals<s.heap.objs.size:=let ⟨_,hn,_⟩:=I.loc;hn.lt
theorem Inv.sz (I:Inv X pins σ H s):X.s₀.heap.objs.size<=s.heap.objs.size:=wai I.ok.above (waW I.lt)
theorem Inv.nofs (I:Inv X pins σ H s){a:Addr}(h:s.heap.objs.size<=a):a∉X.fs:=fun hb=>by
 obtain⟨_,o,ho,_⟩:=I.ok.funs.mem hb;exact absurd (waj (wae ho) (wai I.sz h)) (wbj _)
theorem Inv.cne (I:Inv X pins σ H s):∀x c,X.env.cells.lookup x=some c->c≠X.env.locals:=fun x c e z=>by
 obtain⟨v,o,ho,hd⟩:=I.cell x c e;obtain⟨m,⟨o',es,ep,ho',hd',_⟩,_⟩:=I.loc;rw[z,ho'] at ho;cases ho;rw[hd'] at hd;cases hd
theorem Inv.funs (I:Inv X pins σ H s):s.heap.FunFrames X.base X.outer:=by
 have all:∀(l:List Env),(∀b∈frs l,b∈X.fs)->X.s₀.heap.FunFrames X.base l->s.heap.FunFrames X.base l:=by
  intro l;induction l with
  | nil=>intro _ _;trivial
  | cons env r ih=>
    intro hs hl;obtain⟨hk,⟨L,o,hf,hn,ho,hd⟩,hr⟩:=hl;have hL:L∈X.fs:=hs L (by unfold frs;rw[wcj,hf];exact wal)
    obtain⟨sl,e⟩:=I.base.slot L o ho (I.ok.frf L hL) hL fun z=>I.ok.exfs L z hL
    exact⟨hk,⟨L,_,hf,hn,e,hd⟩,ih (fun b hb=>hs b (by unfold frs;rw[wcj,hf];exact waf _ hb)) hr⟩
 exact all X.outer (fun _ hb=>hb) I.ok.funs
theorem Inv.stack (I:Inv X pins σ H s):s.heap.FunFrames X.base X.stack:=by
 rcases I.ok.stk with e | ⟨e,hf⟩
 ·rw[e];exact I.funs
 ·rw[e];obtain⟨m,hn,_⟩:=I.loc;refine .cons (by rw[I.ok.kind];decide) hf hn ?_ I.funs;exact wbI (wai I.ok.bsz I.ok.above)
theorem Inv.stkSub (I:Inv X pins σ H s):∀b∈frs X.stack,b∈X.env.locals::X.fs:=fun b hb=>by
 rcases I.ok.stk with e | ⟨e,hf⟩
 ·rw[e] at hb;exact waf _ hb
 ·rw[e] at hb;unfold frs at hb;rw[wcj,hf] at hb;exact hb
theorem Inv.stkFree (I:Inv X pins σ H s):∀b∈frs X.stack,H b=none:=fun b hb=>by
 rcases wag.mp (I.stkSub b hb) with e | hb
 ·rw[e];exact I.free
 ·obtain⟨_,o,ho,_⟩:=I.ok.funs.mem hb;exact I.base.free b o ho (I.ok.frf b hb) fun z=>I.ok.exfs b z hb
theorem Inv.step {g':Array GenState}{t':Nat}{d':Drawn}{ch:List Addr}(I:Inv X pins σ H s)
 (hch:∀b∈ch,(b∈X.ex\/X.s₀.heap.objs.size<=b)/\b≠X.env.locals/\(∀x c,X.env.cells.lookup x=some c->c≠b)/\∀p∈X.pn++pins,p.1≠b)
 (keep:∀b o,b≠X.env.locals->b∉X.fs->b∉ch->s.heap.get? b=some o->H b=none->h'.get? b=some o)
 (slot:∀b o,b≠X.env.locals->b∈X.fs->b∉ch->s.heap.get? b=some o->H b=none->∃sl,h'.get? b=some {o with slots:=sl}) (free:∀b o,b∉ch->s.heap.get? b=some o->H b=none->H' b=none)
 (there:∀b o,b∉ch->s.heap.get? b=some o->∃o',h'.get? b=some o')
 (tups:∀b xs,H b=some (.tup xs)->H' b=some (.tup xs)) (frzs:∀b o u,H b=some (.frz o u)->H' b=some (.frz o u)) (tbls:∀b ps,H b=some (.tbl ps)->∃more,H' b=some (.tbl (ps++more)))
 (ns:∀m,s.heap.Ns X.env.locals m->h'.Ns X.env.locals m) (hok:HOk X.prog X.w H' h') (hg:AllBare g') :
 Inv X pins σ H' {s with heap:=h',gens:=g',drawn:=d',toks:=t'}:=by
 have neL:∀b o,X.s₀.heap.get? b=some o->b≠X.env.locals:=fun b o e=>waz (waj (wae e) I.ok.above)
 have neC:∀b o,X.s₀.heap.get? b=some o->b∉X.ex->b∉ch:=fun b o e hx hb=>by
  rcases(hch b hb).1 with z | z
  ·exact hx z
  ·exact absurd (waj (wae e) z) (wbj _)
 have cellK:∀x c,X.env.cells.lookup x=some c->∀v,s.heap.IsCell c v->h'.IsCell c v:=fun x c e v ⟨o,ho,hd⟩ =>by
  have nch:c∉ch:=fun z=>(hch c z).2.2.1 x c e rfl
  by_cases hc:c∈X.fs
  ·obtain⟨sl,q⟩:=slot c o (I.cne x c e) hc nch ho (I.freeC x c e);exact⟨_,q,hd⟩
  ·exact⟨o,keep c o (I.cne x c e) hc nch ho (I.freeC x c e),hd⟩
 refine⟨I.ok,I.os,hg,⟨fun b o e n hb hx=>?_,fun b o e n hb hx=>?_,fun b o e n hx=>?_,fun b o e hx=>?_,fun b xs e=>tups b xs (I.base.tups b xs e),fun b o xs e=>frzs b o xs (I.base.frzs b o xs e),fun b ps e=>?_⟩,?_,fun x c e=>?_,?_,fun x c e=>?_,fun p hp=>?_,hok,I.len⟩
 ·exact keep b o (neL b o e) hb (neC b o e hx) (I.base.keep b o e n hb hx) (I.base.free b o e n hx)
 ·obtain⟨sl,e1⟩:=I.base.slot b o e n hb hx;obtain⟨sl',e2⟩:=slot b _ (neL b o e) hb (neC b o e hx) e1 (I.base.free b o e n hx);exact⟨sl',e2⟩
 ·obtain⟨o',e1⟩:=I.base.there b o e hx;exact free b o' (neC b o e hx) e1 (I.base.free b o e n hx)
 ·obtain⟨o',e1⟩:=I.base.there b o e hx;exact there b o' (neC b o e hx) e1
 ·obtain⟨m1,e1⟩:=I.base.tbls b ps e;obtain⟨m2,e2⟩:=tbls b _ e1;exact⟨m1++m2,by rw[e2,Array.append_assoc]⟩
 ·obtain⟨m,hn,hl⟩:=I.loc;refine⟨m,ns m hn,fun i x v e1 e2 e3=>?_⟩;obtain⟨u,r,l⟩:=hl i x v e1 e2 e3;refine⟨u,r,?_⟩;rcases l with l | ⟨k,c,e,z⟩
  ·exact .inl l
  ·exact .inr ⟨k,c,e,cellK x c e _ z⟩
 ·obtain⟨v,z⟩:=I.cell x c e;exact⟨v,cellK x c e v z⟩
 ·obtain⟨m,⟨o,_,_,ho,_⟩,_⟩:=I.loc;exact free _ o (fun z=>(hch _ z).2.1 rfl) ho I.free
 ·obtain⟨v,o,ho,hd⟩:=I.cell x c e;exact free c o (fun z=>(hch c z).2.2.1 x c e rfl) ho (I.freeC x c e)
 ·obtain⟨e,n,ne,nf,d⟩:=I.pin p hp;have nch:p.1∉ch:=fun z=>(hch p.1 z).2.2.2 p hp rfl
  exact⟨keep p.1 p.2 ne nf nch e n,free p.1 p.2 nch e n,ne,nf,d⟩
theorem Inv.un {t':Nat}(I:Inv X pins σ H s)(u:Un X.fs [] H H' s.heap h')(hok:HOk X.prog X.w H' h'):Inv X pins σ H' {s with heap:=h',toks:=t'}:=by
 obtain⟨m,⟨o,es,ep,ho,r⟩,_⟩:=id I.loc;obtain⟨sl,hL⟩:=u.any ho I.free (by simp);exact I.step (g':=s.gens) (d':=s.drawn) (ch:=[]) (fun _ z=>nomatch z) (fun b o _ hb _ e n=>u.keep b o e n hb (by simp)) (fun b o _ hb _ e n=>u.slot b o e n hb (by simp)) (fun b o _ e n=>u.free b o e n (by simp)) (fun b o _ e=>u.there b o e (by simp)) u.tups u.frzs u.tbls (fun m' hm=>by
  obtain⟨o',es',ep',ho',r'⟩:=hm;rw[ho] at ho';cases ho';exact⟨_,es',ep',hL,r'⟩) hok I.bare
theorem Inv.call {g':Array GenState}{t':Nat}{d':Drawn}{ch:List Addr}(I:Inv X pins σ H s)(u:Un (frs X.stack) ch H H' s.heap h')(hok:HOk X.prog X.w H' h')(hg:AllBare g')
 (hch:∀b∈ch,(b∈X.ex\/X.s₀.heap.objs.size<=b)/\b≠X.env.locals/\(∀x c,X.env.cells.lookup x=some c->c≠b)/\∀p∈X.pn++pins,p.1≠b) :
 Inv X pins σ H' {s with heap:=h',gens:=g',drawn:=d',toks:=t'}:=by
 obtain⟨m,⟨o,es,ep,ho,r⟩,_⟩:=id I.loc;obtain⟨sl,hL⟩:=u.any ho I.free fun z=>(hch _ z).2.1 rfl
 exact I.step (ch:=ch) hch (fun b o hL hb hc e n=>u.keep b o e n (fun z=>(wag.mp (I.stkSub b z)).elim hL hb) hc) (fun b o _ _ hc e n=>u.any e n hc) (fun b o hc e n=>u.free b o e n hc) (fun b o hc e=>u.there b o e hc) u.tups u.frzs u.tbls (fun m' hm=>by
  obtain⟨o',es',ep',ho',r'⟩:=hm;rw[ho] at ho';cases ho';exact⟨_,es',ep',hL,r'⟩) hok hg
theorem Inv.turned {t':Nat}{it:Addr}(I:Inv X pins σ H s)(k:∀b o,b≠it->s.heap.get? b=some o->h'.get? b=some o)(hn:H it=none)(hL:it≠X.env.locals)
 (h1:it∈X.ex\/X.s₀.heap.objs.size<=it) (h2:∀x c,X.env.cells.lookup x=some c->c≠it) (h3:∀p∈X.pn++pins,p.1≠it):Inv X pins σ H {s with heap:=h',toks:=t'}:=by
 have nit:∀b u,H b=some u->b≠it:=fun b u e z=>by rw[z,hn] at e;cases e
 refine I.step (g':=s.gens) (d':=s.drawn) (ch:=[it]) (fun b hb=>?_) (fun b o _ _ hc e _=>k b o (fun z=>hc (by simp[z])) e) (fun b o _ _ hc e _=>⟨o.slots,k b o (fun z=>hc (by simp[z])) e⟩) (fun _ _ _ _ n=>n)
  (fun b o hc e=>⟨o,k b o (fun z=>hc (by simp[z])) e⟩) (fun _ _ e=>e) (fun _ _ _ e=>e) (fun b ps e=>⟨#[],by rw[e];simp⟩) (fun m hm=>?_) (fun b u e=>?_) I.bare
 ·have e:b=it:=by simpa using hb
  subst e;exact⟨h1,hL,h2,h3⟩
 ·obtain⟨o,es,ep,ho,r⟩:=hm;exact⟨o,es,ep,k _ o (Ne.symm hL) ho,r⟩
 ·refine(I.hok b u e).stay (fun c v hc q=>k c v ?_ q) (fun _ q=>q) fun _ _ _ q=>q
  rcases hc with z | z
  ·rw[z];exact nit b u e
  ·exact nit c _ z
theorem Inv.tok (I:Inv X pins σ H s)(t:Nat):Inv X pins σ H {s with toks:=t}:=I.un (h':=s.heap) (t':=t) Un.refl I.hok
theorem Inv.kept {t':Nat}(I:Inv X pins σ H s)(k:∀b u,s.heap.get? b=some u->h'.get? b=some u):Inv X pins σ H {s with heap:=h',toks:=t'}:=I.un (Un.kept k) (I.hok.kept k)
theorem Inv.laid {a:Addr}{o:HO}{t':Nat}(I:Inv X pins σ H s)(k:∀b u,s.heap.get? b=some u->h'.get? b=some u)(hp:s.heap.objs.size<=a)(new:ObjOk X.prog X.w (upd H a o) h' a o) :
 Inv X pins σ (upd H a o) {s with heap:=h',toks:=t'}:=I.un (Un.laid k hp (I.hok.fresh hp)) (I.hok.laid k hp new)
theorem Inv.write {x e:Addr}{o:HO}{t':Nat}(I:Inv X pins σ H s)(mu:Mut (H x))(he:e=x\/H e=some (.own x))(k:∀b u,b≠e->s.heap.get? b=some u->h'.get? b=some u)(heo:∃u,h'.get? e=some u)
 (new:ObjOk X.prog X.w (upd H x o) h' x o):Inv X pins σ (upd H x o) {s with heap:=h',toks:=t'}:=I.un (Un.write mu he k heo) (I.hok.write mu he k heo new)
theorem Inv.pins_of {pins':List (Addr×Obj)}(I:Inv X pins σ H s)(h:∀p∈pins',s.heap.get? p.1=some p.2/\H p.1=none/\p.1≠X.env.locals/\p.1∉X.fs/\∀v,p.2.data≠.cell v):Inv X pins' σ H s:=
 ⟨I.ok,I.os,I.bare,I.base,I.loc,I.cell,I.free,I.freeC,fun p hp=>(way.mp hp).elim (fun z=>I.pin p (wbp _ z)) (h p),I.hok,I.len⟩
theorem zef {N:List Str}(hN:N.Nodup){i j:Nat}{x:Str}(a:N[i]?=some x)(b:N[j]?=some x):i=j:=by
 obtain⟨h1,e1⟩:=wak.mp a;obtain⟨h2,e2⟩:=wak.mp b;exact(List.getElem_inj hN).mp (e1.trans e2.symm)
theorem zeK {M:Model}{A:Around}{E:Value->Shared->Prop}{i:Nat}{x:Str}{v:V}{u:Value}{Q:Unit->Shared->Prop}(I:Inv X pins σ H s)(hN:X.N.Nodup)(hi:X.N[i]?=some x)(hx:Loc X.env.scope x)(r:RelV v u)
 (h:∀s',Inv X pins (σ.set i (some v)) H s'->(∃a,Heap.SameBut a s.heap s'.heap/\(a=X.env.locals\/X.env.cells.lookup x=some a))->Q () s') (hf:X.fn x=true\/X.env.scope.names.lookup x=some .local:=by first | exact .inl rfl | exact .inr rfl | assumption):wpAny M A (storeName X.env x u) Q E s:=by
 obtain⟨m,hn,hl⟩:=id I.loc;have hcls:(X.env.scope.kind == .class||(X.env.scope.kind == .module&&X.env.locals != X.env.globals))=false:=by rw[I.ok.kind];rfl
 have hiσ:i<σ.length:=by rw[I.len];exact(wak.mp hi).1
 have cne:=I.cne
 have tracked:∀{a:Addr}{h':Heap},(∃o,s.heap.get? a=some o/\H a=none)->Heap.SameBut a s.heap h'->HOk X.prog X.w H h':=fun {a h'} ha hs b ob e=>by
  obtain⟨_,_,hfree⟩:=ha;refine(I.hok b ob e).stay (fun c w' hc q=>(hs.2 c ?_).trans q) (fun _ q=>q) fun _ _ _ q=>q
  rintro rfl;rcases hc with rfl | hc
  ·rw[hfree] at e;cases e
  ·rw[hfree] at hc;cases hc
 rcases hx with hk | hk
 ·refine wpAny_storeName_local hk hn (fun h' hn' hs=>?_) hcls;obtain⟨oL,_,_,hoL,_⟩:=id hn;refine h _ ⟨I.ok,I.os,I.bare,⟨fun b o e n hb hx=>?_,fun b o e n hb hx=>?_,I.base.free,fun b o e hx=>?_,I.base.tups,I.base.frzs,I.base.tbls⟩,⟨_,hn',fun j y v' e1 e2 e3=>?_⟩,fun y c e=>?_,I.free,I.freeC,fun p hp=>?_,tracked ⟨oL,hoL,I.free⟩ hs,by simpa using I.len⟩ ⟨_,hs,.inl rfl⟩
  ·exact(hs.2 b (waz (waj (wae e) I.ok.above))).trans (I.base.keep b o e n hb hx)
  ·obtain⟨sl,e1⟩:=I.base.slot b o e n hb hx;exact⟨sl,(hs.2 b (waz (waj (wae e) I.ok.above))).trans e1⟩
  ·obtain⟨o',e1⟩:=I.base.there b o e hx;exact⟨o',(hs.2 b (waz (waj (wae e) I.ok.above))).trans e1⟩
  ·by_cases hj:j=i
   ·subst hj;rw[hi] at e1;cases e1;rw[wap hiσ] at e2;cases e2;exact⟨u,r,.inl ⟨hk,by simp⟩⟩
   ·rw[wad (Ne.symm hj)] at e2;obtain⟨u',r',q⟩:=hl j y v' e1 e2 e3;refine⟨u',r',?_⟩;rcases q with⟨k,e⟩ | ⟨k,c,e,z⟩
    ·refine .inl ⟨k,?_⟩;have:y≠x:=fun e=>hj (zef hN e1 (e▸hi))
     simp[this,e]
    ·exact .inr ⟨k,c,e,z.sameBut hs (cne y c e)⟩
  ·obtain⟨w',z⟩:=I.cell y c e;exact⟨w',z.sameBut hs (cne y c e)⟩
  ·obtain⟨e,n,ne,nf,d⟩:=I.pin p hp;exact⟨(hs.2 p.1 ne).trans e,n,ne,nf,d⟩
 ·have hfn:X.fn x=true:=by
   rcases hf with z | z
   ·exact z
   ·rw[z] at hk;cases hk
  obtain⟨c,hc⟩:=I.ok.has x (.inl hk);obtain⟨w',z⟩:=I.cell x c hc;refine wpAny_storeName_cell I.ok.kind hk hc z (fun h' hc' hs=>?_);obtain⟨oc,hoc,hocd⟩:=id z;refine h {s with heap:=h'} ⟨I.ok,I.os,I.bare,⟨fun b o e n hb hx=>?_,fun b o e n hb hx=>?_,I.base.free,fun b o e hx=>?_,I.base.tups,I.base.frzs,I.base.tbls⟩,⟨m,hn.sameBut hs (Ne.symm (cne x c hc)),fun j y v' e1 e2 e3=>?_⟩,fun y c' e=>?_,I.free,I.freeC,fun p hp=>?_,tracked ⟨oc,hoc,I.freeC x c hc⟩ hs,by simpa using I.len⟩ ⟨c,hs,.inr hc⟩
  ·exact(hs.2 b (waz (waj (wae e) (I.ok.cab x c hfn hc)))).trans (I.base.keep b o e n hb hx)
  ·obtain⟨sl,e1⟩:=I.base.slot b o e n hb hx;exact⟨sl,(hs.2 b (waz (waj (wae e) (I.ok.cab x c hfn hc)))).trans e1⟩
  ·obtain⟨o',e1⟩:=I.base.there b o e hx;exact⟨o',(hs.2 b (waz (waj (wae e) (I.ok.cab x c hfn hc)))).trans e1⟩
  ·by_cases hj:j=i
   ·subst hj;rw[hi] at e1;cases e1;rw[wap hiσ] at e2;cases e2;exact⟨u,r,.inr ⟨.inl hk,c,hc,hc'⟩⟩
   ·rw[wad (Ne.symm hj)] at e2;obtain⟨u',r',q⟩:=hl j y v' e1 e2 e3;refine⟨u',r',?_⟩;rcases q with q | ⟨k,c',e,z'⟩
    ·exact .inl q
    ·refine .inr ⟨k,c',e,z'.sameBut hs ?_⟩;rintro rfl;exact hj (zef hN e1 (I.ok.inj _ _ _ e hc▸hi))
  ·by_cases hcc:c'=c
   ·subst hcc;exact⟨_,hc'⟩
   ·obtain⟨w2,z2⟩:=I.cell y c' e;exact⟨w2,z2.sameBut hs hcc⟩
  ·obtain⟨e,n,ne,nf,d⟩:=I.pin p hp;refine⟨(hs.2 p.1 ?_).trans e,n,ne,nf,d⟩;intro q;rw[q,hoc] at e;have q':oc=p.2:=wau e
   exact d w' (by rw[<-q'];exact hocd)
theorem zeg {M:Model}{A:Around}{E:Value->Shared->Prop}{i:Nat}{x:Str}{v:V}{u:Value}{Q:Unit->Shared->Prop}(I:Inv X pins σ H s)(hN:X.N.Nodup)(hi:X.N[i]?=some x)(hx:Loc X.env.scope x)(r:RelV v u)
 (h:∀s',Inv X pins (σ.set i (some v)) H s'->Q () s') (hf:X.fn x=true\/X.env.scope.names.lookup x=some .local:=by first | exact .inl rfl | exact .inr rfl | assumption):wpAny M A (storeName X.env x u) Q E s:=
 zeK I hN hi hx r (fun s' I' _=>h s' I') hf
theorem Inv.call' {s':Shared}{ch:List Addr}(I:Inv X pins σ H s)(ho:s'.os=s.os)(u:Un (frs X.stack) ch H H' s.heap s'.heap)(hok:HOk X.prog X.w H' s'.heap)(hg:AllBare s'.gens)
 (hch:∀b∈ch,(b∈X.ex\/X.s₀.heap.objs.size<=b)/\b≠X.env.locals/\(∀x c,X.env.cells.lookup x=some c->c≠b)/\∀p∈X.pn++pins,p.1≠b):Inv X pins σ H' s':=by
 obtain⟨h',g',d',t',o'⟩:=s';have e:o'=s.os:=ho
 subst e;exact I.call (g':=g') (t':=t') (d':=d') u hok hg hch
end
abbrev XK:=Value->Option Addr->Hp->Prop
abbrev St:=List (Option V)
abbrev VK:=V->Hp->Prop
abbrev TE:=St->Hp->VK->Prop
abbrev TT:=St->Hp->(Bool->Hp->Prop)->Prop
abbrev TA:=St->Hp->(List V->Hp->Prop)->Prop
structure Ends where
 nx:St->Hp->Prop
 rt:VK
 bk:St->Hp->Prop:=fun _ _=>False
 ct:St->Hp->Prop:=fun _ _=>False
abbrev TS:=Ends->St->Hp->Prop
def EP (X:Cx)(pins:List (Addr×Obj))(σ:St)(Q:VK)(u:Value)(s':Shared):Prop:=∃v H',Inv X pins σ H' s'/\RelV v u/\Q v H'
def TP (X:Cx)(pins:List (Addr×Obj))(σ:St)(Q:Bool->Hp->Prop)(b:Bool)(s':Shared):Prop:=∃H',Inv X pins σ H' s'/\Q b H'
def AP (X:Cx)(pins:List (Addr×Obj))(σ:St)(Q:List V->Hp->Prop)(us:List Value)(s':Shared):Prop:=∃vs H',Inv X pins σ H' s'/\Vals vs us/\Q vs H'
def SP (X:Cx)(pins:List (Addr×Obj))(D:Ends)(f:Flow)(s':Shared):Prop:=
 match f with
 | .next=>∃σ' H',Inv X pins σ' H' s'/\D.nx σ' H'
 | .brk=>∃σ' H',Inv X pins σ' H' s'/\D.bk σ' H'
 | .cont=>∃σ' H',Inv X pins σ' H' s'/\D.ct σ' H'
 | .ret u=>∃v σ' H',Inv X pins σ' H' s'/\RelV v u/\D.rt v H'
def PE (X:Cx)(e:Expr)(t:TE):Prop:=
 ∀(pins:List (Addr×Obj)) (s:Shared) (σ:St) (H:Hp) (Q:VK),Inv X pins σ H s->t σ H Q->wpAny (model X.prog X.w) X.A (eval e X.env) (EP X pins σ Q) X.xe s
def PT (X:Cx)(e:Expr)(t:TT):Prop:=
 ∀(pins:List (Addr×Obj)) (s:Shared) (σ:St) (H:Hp) (Q:Bool->Hp->Prop),Inv X pins σ H s->t σ H Q->wpAny (model X.prog X.w) X.A (isTrue e X.env (eval e X.env)) (TP X pins σ Q) X.xe s
def PW (X:Cx)(e:Expr)(t:TT):Prop:=
 ∀(whole:Sem Value) (pins:List (Addr×Obj)) (s:Shared) (σ:St) (H:Hp) (Q:Bool->Hp->Prop),Inv X pins σ H s->t σ H Q->wpAny (model X.prog X.w) X.A (isTrue e X.env whole) (TP X pins σ Q) X.xe s
theorem PW.pt {X:Cx}{e:Expr}{t:TT}(h:PW X e t):PT X e t:=h _
def PA (X:Cx)(es:List Expr)(t:TA):Prop:=
 ∀(pos:Pos) (pins:List (Addr×Obj)) (s:Shared) (σ:St) (H:Hp) (Q:List V->Hp->Prop),Inv X pins σ H s->t σ H Q->wpAny (model X.prog X.w) X.A (spliced (backTo pos (starEach es X.env))) (AP X pins σ Q) X.xe s
def PS (X:Cx)(st:Stmt)(t:TS):Prop:=
 ∀(pins:List (Addr×Obj)) (s:Shared) (σ:St) (H:Hp) (D:Ends),Inv X pins σ H s->t D σ H->wpAny (model X.prog X.w) X.A (exec st X.env) (SP X pins D) X.xe s
def PSs (X:Cx)(st:List Stmt)(t:TS):Prop:=
 ∀(pins:List (Addr×Obj)) (s:Shared) (σ:St) (H:Hp) (D:Ends),Inv X pins σ H s->t D σ H->wpAny (model X.prog X.w) X.A (execs st X.env) (SP X pins D) X.xe s
theorem thn {α:Type}{t:Sem α}{Q Q':α->Shared->Prop}{M:Model}{A:Around}{E:Value->Shared->Prop}{s:Shared}(h:wpAny M A t Q E s)(hQ:∀a s,Q a s->Q' a s):wpAny M A t Q' E s:=waG h hQ fun _ _ x=>x
section
variable {X:Cx}
theorem bin {a b:Expr}{ta tb:TE}(ha:PE X a ta)(hb:PE X b tb){pins:List (Addr×Obj)}{s:Shared}{σ:St}{H:Hp}{R:V->V->Hp->Prop}(I:Inv X pins σ H s)(h:ta σ H fun x H1=>tb σ H1 fun y H2=>R x y H2)
 {α:Type}{Q:α->Shared->Prop}{f:Value->Value->Sem α}
 (hf:∀v u s2 x y H2,Inv X pins σ H2 s2->RelV x v->RelV y u->R x y H2->wpAny (model X.prog X.w) X.A (f v u) Q X.xe s2) :
 wpAny (model X.prog X.w) X.A (eval a X.env) (fun v s₁=>wpAny (model X.prog X.w) X.A (eval b X.env) (fun u s₂=>wpAny (model X.prog X.w) X.A (f v u) Q X.xe s₂) X.xe s₁) X.xe s:=by
 refine thn (ha pins s σ H _ I h) fun v s1 ⟨x,H1,I1,r1,q1⟩ =>?_
 refine thn (hb pins s1 σ H1 _ I1 q1) fun u s2 ⟨y,H2,I2,r2,q2⟩ =>?_
 exact hf v u s2 x y H2 I2 r1 r2 q2
def tVar (i:Nat):TE:=fun σ H Q=>∃v,σ[i]?=some (some v)/\Q v H
def tC (v:V):TE:=fun _ H Q=>Q v H
theorem zb1 {i:Nat}{x:Str}{pos:Pos}(hN:X.N[i]?=some x)(hv:Vis X.env.scope x)(hd:(x == ("__debug__" : Str))=false:=by decide)(hcd:(x == ("__classdict__" : Str))=false:=by decide):PE X (.Name x pos) (tVar i):=by
 intro pins s σ H Q I h;obtain⟨v,e,h⟩:=h;obtain⟨m,hn,hl⟩:=I.loc;obtain⟨u,r,l⟩:=hl i x v hN e hv;have fin:EP X pins σ Q u s:=⟨v,H,I,r,h⟩
 rcases l with⟨hk,hm⟩ | ⟨hk,c,hc,hcell⟩
 ·exact wcu (wbq I.ok.kind hk hn hm fin) hd
 ·rcases hk with hk | hk
  ·exact wcu (wpAny_loadName_cell I.ok.kind hk hc hcell fin) hd
  ·exact wcu (wpAny_loadName_free I.ok.kind hk hc hcell fin hcd) hd
theorem zmo {i j pos}:PE X (.Constant (.int i) j pos) (tC (.int i)):=fun _ _ _ H _ I h=>wpAny_Constant_int ⟨.int i,H,I.tok _,⟨_,rfl⟩,h⟩
theorem zon {b j pos}:PE X (.Constant (.bool b) j pos) (tC (.bl b)):=fun _ _ _ H _ I h=>Constant_bool ⟨.bl b,H,I,rfl,h⟩
theorem zmp {j pos}:PE X (.Constant .none j pos) (tC .non):=fun _ _ _ H _ I h=>Constant_none ⟨.non,H,I,rfl,h⟩
theorem zmq {x j pos}:PE X (.Constant (.str x) j pos) (tC (.str x)):=fun _ _ _ H _ I h=>Calls.Constant_str ⟨.str x,H,I.tok _,⟨_,rfl⟩,h⟩
def Gl (X:Cx)(x:Str):Prop:=X.env.kindOf x=some .globalImplicit
theorem zc1 {E:Value->Shared->Prop}{pins:List (Addr×Obj)}{s:Shared}{σ:St}{H:Hp}{x:Str}{u:Value}{pos:Pos}{Q:Value->Shared->Prop}(I:Inv X pins σ H s)(hg:Gl X x)(hm:X.mg x=some u)(h:Q u s)
 (hd:(x == ("__debug__" : Str))=false:=by decide):wpAny (model X.prog X.w) X.A (eval (.Name x pos) X.env) Q E s:=
 Calls.Name_function_global I.ok.kind hg (Calls.loadGlobal_global (by rw[I.ok.glob];exact I.mod.glob.keeps I.bk) hm h) hd
theorem zc9 {E:Value->Shared->Prop}{pins:List (Addr×Obj)}{s:Shared}{σ:St}{H:Hp}{x:Str}{u:Value}{pos:Pos}{Q:Value->Shared->Prop}(I:Inv X pins σ H s)(hg:Gl X x)(hm:X.mg x=none)(hv:bootBuiltins x=some u)(h:Q u s)
 (hn:x≠"__name__":=by decide) (hd:(x == ("__debug__" : Str))=false:=by decide):wpAny (model X.prog X.w) X.A (eval (.Name x pos) X.env) Q E s:=by
 obtain⟨mb,h1,h2⟩:=I.mod.blt;exact Calls.Name_function_global I.ok.kind hg (Calls.loadGlobal_builtin (by rw[I.ok.glob];exact I.mod.glob.keeps I.bk) hm (by rw[I.ok.blt];exact h1.keeps I.bk) ((h2 x hn).trans hv) h) hd
theorem zfA {x:Str}{v:V}{u:Value}{pos:Pos}(hg:Gl X x)(hm:X.mg x=some u)(r:RelV v u)(hd:(x == ("__debug__" : Str))=false:=by decide):PE X (.Name x pos) (tC v):=
 fun _ _ _ H _ I h=>zc1 I hg hm ⟨v,H,I,r,h⟩ hd
theorem zhf {x:Str}{v:V}{u:Value}{pos:Pos}(hg:Gl X x)(hm:X.mg x=none)(hv:bootBuiltins x=some u)(r:RelV v u)(hn:x≠"__name__":=by decide)(hd:(x == ("__debug__" : Str))=false:=by decide):PE X (.Name x pos) (tC v):=
 fun _ _ _ H _ I h=>zc9 I hg hm hv ⟨v,H,I,r,h⟩ hn hd
variable {a b:Expr}{ta tb:TE}{pos:Pos}
variable {tA tB':TT}{rest:List Expr}
def tAnd (t u:TT):TT:=fun σ H Q=>t σ H fun c H1=>if c=true then u σ H1 Q else Q false H1
def tOr (t u:TT):TT:=fun σ H Q=>t σ H fun c H1=>if c=true then Q true H1 else u σ H1 Q
def tNot (t:TT):TT:=fun σ H Q=>t σ H fun c H1=>Q (!c) H1
theorem zkR (ha:PT X a tA):PW X (.BoolOp .And [a] pos) tA:=by
 intro wh pins s σ H Q I h;refine isTrue_and (thn (ha pins s σ H Q I h) fun c s1 e=>?_);cases c with
 | true=>exact isTrue_and_nil e
 | false=>exact e
theorem zmr (ha:PT X a tA):PW X (.BoolOp .Or [a] pos) tA:=by
 intro wh pins s σ H Q I h;refine isTrue_or (thn (ha pins s σ H Q I h) fun c s1 e=>?_);cases c with
 | false=>exact isTrue_or_nil e
 | true=>exact e
theorem zms (ha:PT X a tA)(hb:PW X (.BoolOp .And (b::rest) pos) tB'):PW X (.BoolOp .And (a::b::rest) pos) (tAnd tA tB'):=by
 intro wh pins s σ H Q I h;refine isTrue_and (thn (ha pins s σ H _ I h) fun c s1 ⟨H1,I1,q1⟩ =>?_);cases c with
 | true=>exact hb wh pins s1 σ H1 Q I1 q1
 | false=>exact⟨H1,I1,q1⟩
theorem zoo (ha:PT X a tA)(hb:PW X (.BoolOp .Or (b::rest) pos) tB'):PW X (.BoolOp .Or (a::b::rest) pos) (tOr tA tB'):=by
 intro wh pins s σ H Q I h;refine isTrue_or (thn (ha pins s σ H _ I h) fun c s1 ⟨H1,I1,q1⟩ =>?_);cases c with
 | true=>exact⟨H1,I1,q1⟩
 | false=>exact hb wh pins s1 σ H1 Q I1 q1
theorem zmt (ha:PT X a tA):PT X (.UnaryOp .Not a pos) (tNot tA):=by
 intro pins s σ H Q I h;exact isTrue_not (ha pins s σ H (fun c H1=>Q (!c) H1) I h)
def zop (ta:TE):TE:=fun σ H Q=>ta σ H fun x H1=>∃c,x=.bl c/\Q (.bl (!c)) H1
theorem zmu (ha:PE X a ta):PE X (.UnaryOp .Not a pos) (zop ta):=by
 intro pins s σ H Q I h;refine UnaryOp_ (thn (ha pins s σ H _ I h) fun v s1 ⟨x,H1,I1,r1,q1⟩ =>?_);obtain⟨c,rfl,q1⟩:=q1;cases r1;exact not_of (wpAny_truthy_bool ⟨.bl (!c),H1,I1,rfl,q1⟩)
def tIf (t:TT)(ta tb:TE):TE:=fun σ H Q=>t σ H fun c H1=>if c=true then ta σ H1 Q else tb σ H1 Q
theorem ziU {c:Expr}(hc:PT X c tA)(ha:PE X a ta)(hb:PE X b tb):PE X (.IfExp c a b pos) (tIf tA ta tb):=by
 intro pins s σ H Q I h;refine wpAny_IfExp (thn (hc pins s σ H _ I h) fun d s1 ⟨H1,I1,q1⟩ =>?_);cases d with
 | true=>exact ha pins s1 σ H1 Q I1 q1
 | false=>exact hb pins s1 σ H1 Q I1 q1
end
def SqL (K:W.Frag)(H:Hp)(a:Addr)(xs:List V):Prop:=
 Rd H a (.lst xs)\/
  ∃(o:Obj) (its:Array Value) (n:Nat),K.lookup a=some o/\o.cls=.type "list"/\o.dict=none/\o.data=.seq its n/\its.size<=sizeLine/\Vals xs its.toList
def SqT (K:W.Frag)(H:Hp)(a:Addr)(xs:List V):Prop:=
 Rd H a (.tup xs)\/
  ∃(o:Obj) (its:Array Value) (n:Nat),K.lookup a=some o/\o.cls=.type "tuple"/\o.data=.seq its n/\its.size<=sizeLine/\Vals xs its.toList
def absV:Value->Option V
 | .none=>some .non
 | .bool b=>some (.bl b)
 | .int i _=>some (.int i)
 | .str x _=>some (.str x)
 | .bytes b _=>some (.byt b)
 | .float b _=>some (.flt b)
 | .ref a=>some (.ref a)
 | .type n=>some (.ty n)
 | _=>none
theorem RelV.abs {x:V}{u:Value}(r:RelV x u):absV u=some x:=by
 cases x with
 | non=>cases r;rfl
 | bl _=>cases r;rfl
 | int _=>obtain⟨t,rfl⟩:=r;rfl
 | str _=>obtain⟨t,rfl⟩:=r;rfl
 | byt _=>obtain⟨t,rfl⟩:=r;rfl
 | flt _=>obtain⟨t,rfl⟩:=r;rfl
 | ref _=>cases r;rfl
 | ty _=>cases r;rfl
theorem RelV.inj {x y:V}{u:Value}(r:RelV x u)(q:RelV y u):x=y:=wau (r.abs.symm.trans q.abs)
theorem Vals.inj:∀{xs ys:List V}{us:List Value},Vals xs us->Vals ys us->xs=ys
 | _,_,_,.nil,.nil=>rfl
 | _,_,_,.cons r t,.cons r' t'=>by rw[r.inj r',Vals.inj t t']
section
variable {X:Cx}{pins:List (Addr×Obj)}{σ:St}{H:Hp}{s:Shared}{a:Addr}{xs ys:List V}
theorem SqL.of {K:W.Frag}(h:H a=some (.lst xs)):SqL K H a xs:=.inl (.inl h)
theorem SqT.of {K:W.Frag}(h:H a=some (.tup xs)):SqT K H a xs:=.inl (.inl h)
theorem Inv.list (I:Inv X pins σ H s)(h:SqL X.K H a xs):∃its:List Value,Vals xs its/\PlainL s.heap a its.toArray/\xs.length<=sizeLine:=by
 rcases h with h | ⟨o,its,n,hk,hc,hd,hs,hz,r⟩
 ·obtain⟨z,its,n,r,e⟩:=h.ok I.hok;exact⟨its,r,⟨_,n,e,rfl,rfl,rfl⟩,z⟩
 ·refine⟨its.toList,r,⟨o,n,I.kIn a o hk,hc,hd,by simpa using hs⟩,?_⟩;have e:=r.length
  simp only[wck] at e;omega
theorem Inv.tuple (I:Inv X pins σ H s)(h:SqT X.K H a xs):∃its:List Value,Vals xs its/\IsTup s.heap a its.toArray/\xs.length<=sizeLine:=by
 rcases h with h | ⟨o,its,n,hk,hc,hs,hz,r⟩
 ·obtain⟨z,its,r,p⟩:=h.ok I.hok;exact⟨its,r,p,z⟩
 ·refine⟨its.toList,r,⟨o,I.kIn a o hk,hc,n,by simpa using hs⟩,?_⟩;have e:=r.length
  simp only[wck] at e;omega
theorem Inv.list_inj (I:Inv X pins σ H s)(h:SqL X.K H a xs)(h':SqL X.K H a ys):xs=ys:=by
 obtain⟨its,r,⟨o,n,e,_,_,d⟩,_⟩:=I.list h;obtain⟨its',r',⟨o',n',e',_,_,d'⟩,_⟩:=I.list h';rw[e] at e';cases e';rw[d] at d';injection d' with d1 _
 have:its=its':=by simpa using waN Array.toList d1
 subst this;exact r.inj r'
theorem Inv.tuple_inj (I:Inv X pins σ H s)(h:SqT X.K H a xs)(h':SqT X.K H a ys):xs=ys:=by
 obtain⟨its,r,⟨o,e,_,n,d⟩,_⟩:=I.tuple h;obtain⟨its',r',⟨o',e',_,n',d'⟩,_⟩:=I.tuple h';rw[e] at e';cases e';rw[d] at d';injection d' with d1 _
 have:its=its':=by simpa using waN Array.toList d1
 subst this;exact r.inj r'
end
abbrev Cx.wish (X:Cx)(E:Value->Shared->Prop):Cx:={X with xe:=E}
abbrev Cx.nox (X:Cx):Cx:=X.wish fun _ _=>False
theorem Cx.Ok.wish {X:Cx}(ok:X.Ok)(E:Value->Shared->Prop):(X.wish E).Ok:=
 ⟨ok.mod,ok.kind,ok.glob,ok.blt,ok.above,ok.inj,ok.has,ok.cab,ok.hd,ok.frames,ok.stk,ok.exf,ok.bs,ok.bsz,ok.noex,ok.exfs,ok.funs,ok.frf⟩
theorem Cx.Ok.unwish {X:Cx}{E:Value->Shared->Prop}(ok:(X.wish E).Ok):X.Ok:=
 ⟨ok.mod,ok.kind,ok.glob,ok.blt,ok.above,ok.inj,ok.has,ok.cab,ok.hd,ok.frames,ok.stk,ok.exf,ok.bs,ok.bsz,ok.noex,ok.exfs,ok.funs,ok.frf⟩
section
variable {X:Cx}{pins:List (Addr×Obj)}{σ:St}{H:Hp}{s:Shared}{E:Value->Shared->Prop}
theorem Inv.wish (I:Inv X pins σ H s)(E:Value->Shared->Prop):Inv (X.wish E) pins σ H s:=⟨I.ok.wish E,I.os,I.bare,I.base,I.loc,I.cell,I.free,I.freeC,I.pin,I.hok,I.len⟩
theorem Inv.unwish (I:Inv (X.wish E) pins σ H s):Inv X pins σ H s:=⟨I.ok.unwish,I.os,I.bare,I.base,I.loc,I.cell,I.free,I.freeC,I.pin,I.hok,I.len⟩
theorem SP.unwish {D:Ends}{f:Flow}{s':Shared}(h:SP (X.wish E) pins D f s'):SP X pins D f s':=by
 cases f with
 | next=>obtain⟨σ',H',I,q⟩:=h;exact⟨σ',H',I.unwish,q⟩
 | brk=>obtain⟨σ',H',I,q⟩:=h;exact⟨σ',H',I.unwish,q⟩
 | cont=>obtain⟨σ',H',I,q⟩:=h;exact⟨σ',H',I.unwish,q⟩
 | ret u=>obtain⟨v,σ',H',I,r,q⟩:=h;exact⟨v,σ',H',I.unwish,r,q⟩
theorem PSs.nox {st:List Stmt}{t:TS}(h:PSs X.nox st t):PSs X st t:=fun pins s σ H D I hw=>
 waG (h pins s σ H D (I.wish _) hw) (fun _ _ q=>q.unwish) fun _ _ z=>False.elim z
end
section
variable {X:Cx}{st:Stmt}{rest:List Stmt}{t u:TS}{e:Expr}{te:TE}{pos:Pos}
def zoq:TS:=fun D σ H=>D.nx σ H
def tSeq (t u:TS):TS:=fun D σ H=>t {D with nx:=u D} σ H
theorem zhg:PSs X [] zoq:=fun _ _ σ H _ I h=>wcl ⟨σ,H,I,h⟩
theorem zeh (h1:PS X st t)(h2:PSs X rest u):PSs X (st::rest) (tSeq t u):=by
 intro pins s σ H D I h;refine wpAny_execs_cons (thn (h1 pins s σ H {D with nx:=u D} I h) fun f s1 q=>?_);cases f with
 | next=>
   obtain⟨σ',H',I',q⟩:=q;exact h2 pins s1 σ' H' D I' q
 | ret v=>exact q
 | brk=>exact q
 | cont=>exact q
theorem zhh (h1:PS X st t):PSs X [st] t:=by
 intro pins s σ H D I h;refine wpAny_execs_cons (thn (h1 pins s σ H D I h) fun f s1 q=>?_);cases f with
 | next=>exact wcl q
 | ret v=>exact q
 | brk=>exact q
 | cont=>exact q
theorem Inv.quiet {pins:List (Addr×Obj)}{σ:St}{H:Hp}{s:Shared}(I:Inv X pins σ H s):interactive X.env=false:=by simp[interactive,I.ok.kind]
def ziV (te:TE):TS:=fun D σ H=>te σ H fun _ H1=>D.nx σ H1
theorem zei (he:PE X e te)(hs:swapsWith e none pos.line X.env=pure false:=by rfl):PS X (.Expr e pos) (ziV te):=by
 intro pins s σ H D I h;exact wpAny_Expr_any (thn (he pins s σ H _ I h) fun v s1 ⟨x,H1,I1,r1,q1⟩ =>⟨σ,H1,I1,q1⟩) I.quiet hs
def tRet (te:TE):TS:=fun D σ H=>te σ H D.rt
theorem zhi (he:PE X e te):PS X (.Return (some e) pos) (tRet te):=by
 intro pins s σ H D I h;exact wpAny_Return_some (thn (he pins s σ H _ I h) fun v s1 ⟨x,H1,I1,r1,q1⟩ =>⟨x,σ,H1,I1,r1,q1⟩)
def tIfS (c:TT)(t u:TS):TS:=fun D σ H=>c σ H fun b H1=>if b=true then t D σ H1 else u D σ H1
theorem zmv {c:Expr}{a b:List Stmt}{tc:TT}(hc:PT X c tc)(ha:PSs X a t)(hb:PSs X b u):PS X (.If c a b pos) (tIfS tc t u):=by
 intro pins s σ H D I h;refine wpAny_If (thn (hc pins s σ H _ I h) fun d s1 ⟨H1,I1,q1⟩ =>?_);cases d with
 | true=>exact ha pins s1 σ H1 D I1 q1
 | false=>exact hb pins s1 σ H1 D I1 q1
def zj9:TS:=fun _ _ _=>False
theorem zf8:PS X st zj9:=fun _ _ _ _ _ _ h=>h.elim
end
abbrev TG:=V->St->Hp->(St->Hp->Prop)->Prop
abbrev TGs:=List V->St->Hp->(St->Hp->Prop)->Prop
def PG (X:Cx)(target:Expr)(t:TG):Prop:=
 ∀(pins:List (Addr×Obj)) (s:Shared) (σ:St) (H:Hp) (v:V) (u:Value) (Q:St->Hp->Prop),Inv X pins σ H s->RelV v u->t v σ H Q->
  wpAny (model X.prog X.w) X.A (assign target X.env u) (fun _ s'=>∃σ' H',Inv X pins σ' H' s'/\Q σ' H') X.xe s
def PGs (X:Cx)(ts:List Expr)(t:TGs):Prop:=
 ∀(pins:List (Addr×Obj)) (s:Shared) (σ:St) (H:Hp) (vs:List V) (us:List Value) (Q:St->Hp->Prop),Inv X pins σ H s->Vals vs us->t vs σ H Q->
  wpAny (model X.prog X.w) X.A (assignInOrder ((assignEach ts X.env).map (·.2)) us) (fun _ s'=>∃σ' H',Inv X pins σ' H' s'/\Q σ' H') X.xe s
abbrev TSet:=V->V->V->Hp->(Hp->Prop)->Prop
def PSet (X:Cx)(t:TSet):Prop:=
 ∀(pins:List (Addr×Obj)) (s:Shared) (σ:St) (H:Hp) (o i v:V) (ov iv u:Value) (Q:Hp->Prop),Inv X pins σ H s->RelV o ov->RelV i iv->RelV v u->t o i v H Q->
  wpAny (model X.prog X.w) X.A (setItem ov iv u) (fun _ s'=>∃H',Inv X pins σ H' s'/\Q H') X.xe s
section
variable {X:Cx}{pos:Pos}
def zdV (i:Nat):TG:=fun v σ H Q=>Q (σ.set i (some v)) H
theorem zhj {i:Nat}{x:Str}(hN:X.N.Nodup)(hi:X.N[i]?=some x)(hx:Loc X.env.scope x)(hf:X.fn x=true\/X.env.scope.names.lookup x=some .local:=by first | exact .inl rfl | exact .inr rfl | assumption):PG X (.Name x pos) (zdV i):=by
 intro pins s σ H v u Q I r h;exact wpAny_assign_Name (zeg I hN hi hx r (fun s' I'=>⟨_,H,I',h⟩) hf)
def gNil:TGs:=fun vs σ H Q=>vs = []/\Q σ H
def zmw (t:TG)(u:TGs):TGs:=fun vs σ H Q=>∃v r,vs=v::r/\t v σ H fun σ' H'=>u r σ' H' Q
theorem zkS:PGs X [] gNil:=by
 intro pins s σ H vs us Q I r h;obtain⟨e,h⟩:=h;subst e;cases r;exact assignInOrder_nil ⟨σ,H,I,h⟩
theorem ziW {e:Expr}{es:List Expr}{t:TG}{u:TGs}(h1:PG X e t)(h2:PGs X es u)
 (hs:(assignEach (e::es) X.env).map (·.2)=assign e X.env::(assignEach es X.env).map (·.2):=by rfl):PGs X (e::es) (zmw t u):=by
 intro pins s σ H vs us Q I r h;obtain⟨v,vr,e1,h⟩:=h;subst e1;cases r with
 | cons r rr=>
   rw[hs];refine assignInOrder_cons (thn (h1 pins s σ H _ _ _ I r h) fun _ s1 ⟨σ1,H1,I1,q1⟩ =>?_);exact h2 pins s1 σ1 H1 _ _ Q I1 rr q1
def gTup (K:W.Frag)(n:Nat)(t:TGs):TG:=fun v σ H Q=>∃a xs,v=.ref a/\SqT K H a xs/\xs.length=n/\t xs σ H Q
theorem zmx {es:List Expr}{k:Nat}{t:TGs}{n:Nat}(hc:X.calm=true)(h:PGs X es t)
 (hn:(assignEach es X.env).length=n:=by rfl) (hst:(assignEach es X.env).findIdx? (·.1)=none:=by rfl):PG X (.Tuple es k pos) (gTup X.K n t):=by
 intro pins s σ H v u Q I r hw;obtain⟨a,xs,e1,hq,hl,hw⟩:=hw;subst e1;cases r;obtain⟨its,rv,ht,hz⟩:=I.tuple hq;refine assign_Tuple_tuple (I.ok.hd hc) ht (by simp[hn,<-hl,rv.length]) hst fun h' hx=>?_
 have I1:Inv X pins σ H {s with heap:=h'}:=I.kept (t':=s.toks) fun b o e=>hx b o (waz (wae e)) e
 exact h pins _ σ H xs _ Q I1 (by simpa using rv) hw
def gSub (to ti:TE)(t:TSet):TG:=fun v σ H Q=>to σ H fun o H1=>ti σ H1 fun i H2=>t o i v H2 fun H3=>Q σ H3
theorem zka {o i:Expr}{to ti:TE}{t:TSet}(ho:PE X o to)(hi:PE X i ti)(hs:PSet X t)
 (ha:∀v,assign (.Subscript o i pos) X.env v=(do
  let ov <-holding [v] (eval o X.env)
  let iv <-holding [v,ov] (eval i X.env)
  standAt pos
  holding [v,ov,iv] (setItem ov iv v)
  release [v,ov,iv] []):=by intro _;rfl):PG X (.Subscript o i pos) (gSub to ti t):=by
 intro pins s σ H v u Q I r h;rw[ha];refine waa (wbw (thn (ho pins s σ H _ I h) fun ov s1 ⟨x,H1,I1,r1,q1⟩ =>?_));refine waa (wbw (thn (hi pins s1 σ H1 _ I1 q1) fun iv s2 ⟨y,H2,I2,r2,q2⟩ =>?_));refine waa (wch (waa (wbw (thn (hs pins s2 σ H2 x y v ov iv u _ I2 r1 r2 r q2) fun _ s3 ⟨H3,I3,q3⟩ =>?_))));exact wpAny_release ⟨σ,H3,I3,q3⟩
def tAsg (te:TE)(g:TG):TS:=fun D σ H=>te σ H fun x H1=>g x σ H1 D.nx
theorem zkb {tg e:Expr}{te:TE}{g:TG}(he:PE X e te)(hg:PG X tg g)(hs:swapsWithSole [tg] e pos.line X.env=pure false:=by rfl)(hw:swappedStores [tg] e X.env=pure none:=by rfl)
 (h1:(assignEach [tg] X.env).map (·.2) = [assign tg X.env]:=by rfl):PS X (.Assign [tg] e pos) (tAsg te g):=by
 intro pins s σ H D I h;refine wpAny_Assign_stores (thn (he pins s σ H _ I h) fun v s1 ⟨x,H1,I1,r1,q1⟩ =>?_) hs hw;rw[h1];exact thn (hg pins s1 σ H1 x v _ I1 r1 q1) fun _ s2 q=>q
theorem zeL {i:Nat}{x:Str}{e:Expr}{te:TE}{pos':Pos}(hN:X.N.Nodup)(hi:X.N[i]?=some x)(hx:Loc X.env.scope x)(he:PE X e te)(hs:swapsWith e (some (.Name x pos')) pos.line X.env=pure false:=by rfl)(hf:X.fn x=true\/X.env.scope.names.lookup x=some .local:=by first | exact .inl rfl | exact .inr rfl | assumption) :
 PS X (.Assign [.Name x pos'] e pos) (tAsg te (zdV i)):=by
 intro pins s σ H D I h;refine wpAny_Assign_Name (thn (he pins s σ H _ I h) fun v s1 ⟨y,H1,I1,r1,q1⟩ =>?_) hs;exact zeg I1 hN hi hx r1 (fun s2 I2=>⟨_,H1,I2,q1⟩) hf
end
section
variable {X:Cx}{pos:Pos}
end
structure It where
 go:Nat->Hp->Prop
 yld:Nat->Hp->V->Hp->Prop
 stop:Nat->Hp->Prop
def FpOk (X:Cx)(pins:List (Addr×Obj))(H:Hp)(b:Addr):Prop:=
 H b=none/\b≠X.env.locals/\b∉X.fs/\(b∈X.ex\/X.s₀.heap.objs.size<=b)/\(∀x c,X.env.cells.lookup x=some c->c≠b)/\∀p∈X.pn++pins,p.1≠b
theorem Inv.fpOk {X:Cx}{pins:List (Addr×Obj)}{σ:St}{H H':Hp}{s:Shared}{b:Addr}(I:Inv X pins σ H s)(hb:s.heap.objs.size<=b)(hn:H' b=none):FpOk X pins H' b:=by
 refine⟨hn,Nat.ne_of_gt (waj I.lt hb),I.nofs hb,.inr (wai I.sz hb),fun x c e z=>?_,fun p hp z=>?_⟩
 ·obtain⟨v,q⟩:=I.cell x c e;exact absurd (waj q.lt (by rw[z];exact hb)) (wbj _)
 ·exact absurd (waj (wae (I.pin p hp).1) (by rw[z];exact hb)) (wbj _)
structure Turn (P:Program)(w:World)(K:W.Frag)(tg:Expr)(J:It)(fp:List Addr)(it:Addr)(tn:Nat->Heap->Prop):Prop where
 mem:it∈fp
 obj:∀i h,tn i h->∀b∈fp,∃o,h.get? b=some o/\∀v,o.data≠.cell v
 keep:∀i h h',tn i h->(∀b∈fp,∀o,h.get? b=some o->h'.get? b=some o)->tn i h'
 item:∀(X:Cx),X.prog=P->X.w=w->X.K=K->X.calm=true->∀(i:Nat) (pins:List (Addr×Obj)) (s:Shared) (σ:St) (H:Hp) (E:Value->Shared->Prop),Inv X pins σ H s->(∀b∈fp,FpOk X pins H b)->tn i s.heap->J.go i H->
  wpAny (model P w) X.A (pyNext (.ref it)) (fun r s1=>∃u,r=some u/\
   wpAny (model P w) X.A (letOwnedTupleGo tg (.ref it) u) (fun _ s2=>∃x H',Inv X pins σ H' s2/\RelV x u/\J.yld i H x H'/\tn (i+1) s2.heap/\∀b∈fp,H' b=none) E s1) E s
 done:∀(X:Cx),X.prog=P->X.w=w->X.K=K->X.calm=true->∀(i:Nat) (pins:List (Addr×Obj)) (s:Shared) (σ:St) (H:Hp) (E:Value->Shared->Prop),Inv X pins σ H s->(∀b∈fp,FpOk X pins H b)->tn i s.heap->J.stop i H->
  wpAny (model P w) X.A (pyNext (.ref it)) (fun r s1=>r=none/\Inv X pins σ H s1) E s
 self:∀(A:Around) (i:Nat) (s:Shared) (Q:Value->Shared->Prop) (E:Value->Shared->Prop),tn i s.heap->Q (.ref it) s->wpAny (model P w) A (pyIter (.ref it)) Q E s
abbrev TI:=St->Hp->(It->Hp->Prop)->Prop
def PIE (X:Cx)(pins:List (Addr×Obj))(σ:St)(tg:Expr)(R:It->Hp->Prop)(itv:Value)(s2:Shared):Prop:=
 ∃(it:Addr) (fp:List Addr) (tn:Nat->Heap->Prop) (J:It) (H':Hp),itv=.ref it/\Inv X pins σ H' s2/\Turn X.prog X.w X.K tg J fp it tn/\tn 0 s2.heap/\(∀b∈fp,FpOk X pins H' b)/\R J H'
def PI (X:Cx)(tg iter:Expr)(wi:TI):Prop:=
 ∀(pins:List (Addr×Obj)) (s:Shared) (σ:St) (H:Hp) (R:It->Hp->Prop),Inv X pins σ H s->wi σ H R->
  wpAny (model X.prog X.w) X.A (eval iter X.env) (fun v s1=>wpAny (model X.prog X.w) X.A (pyIter v) (PIE X pins σ tg R) X.xe s1) X.xe s
theorem zhk {M:Model}{A:Around}{E:Value->Shared->Prop}{s:Shared}{tg:Expr}{it:Addr}{u:Value}{o:Obj}{n:String}{vs:Array Value}{Q:Unit->Shared->Prop}(ho:s.heap.get? it=some o)(hc:o.cls=.type n)(hd:o.data=.fields vs)
 (hn:["enumerate","zip","dict_itemiterator","dict_reverseitemiterator","odict_iterator","itertools.zip_longest","itertools.pairwise"].contains n=false) (hQ:Q () s):wpAny M A (letOwnedTupleGo tg (.ref it) u) Q E s:=by
 unfold letOwnedTupleGo;cases tg <;> first
  | exact wah hQ
  | (cases u <;> first
   | exact wah hQ
   | (refine waa (wpAny_load ho ?_)
      rw[hc,hd];show wpAny M A (if(["enumerate","zip","dict_itemiterator","dict_reverseitemiterator","odict_iterator","itertools.zip_longest","itertools.pairwise"].contains n&&vs[0]? == some (rawInt _))=true then _ else _) Q E s
      rw[if_neg (by intro h;rw[hn,Bool.false_and] at h;cases h)];exact wah hQ))
def Itl (K:W.Frag)(a:Addr):It:=
 ⟨fun i H=>∃xs x,SqL K H a xs/\xs[i]?=some x,fun i H x H'=>H'=H/\∀xs,SqL K H a xs->xs[i]?=some x,fun i H=>∃xs,SqL K H a xs/\xs.length<=i⟩
def Itt (K:W.Frag)(a:Addr):It:=
 ⟨fun i H=>∃xs x,SqT K H a xs/\xs[i]?=some x,fun i H x H'=>H'=H/\∀xs,SqT K H a xs->xs[i]?=some x,fun i H=>∃xs,SqT K H a xs/\xs.length<=i⟩
def Itr (lo:Int)(n:Nat):It:=⟨fun i _=>i<n,fun i H x H'=>H'=H/\x=.int (lo+i),fun i _=>n<=i⟩
theorem zhl {P:Program}{w:World}{K:W.Frag}{tg:Expr}(a it:Addr):Turn P w K tg (Itl K a) [it] it (fun i h=>h.IsListIter it a i) where
 mem:=by simp
 obj:=fun i h st b hb=>by
  have e:b=it:=by simpa using hb
  subst e;obtain⟨o,e,c,d⟩:=st;exact⟨o,e,fun v z=>by rw[d] at z;cases z⟩
 keep:=fun i h h' st k=>st.at fun o e=>k it (by simp) o e
 item:=by
  intro X hP hw hK hc i pins s σ H E I hf st hg;subst hP hw hK;obtain⟨xs,x,hq,hx⟩:=hg;obtain⟨its,rv,p,hz⟩:=I.list hq;obtain⟨u,hu,ru⟩:=rv.get hx;obtain⟨f0,f1,f2,f3,f4,f5⟩:=hf it (by simp);refine wpAny_pyNext_list_item st p.isList (x:=u) (by simpa using hu) fun h' st' sb=>?_
  have I1:Inv X pins σ H {s with heap:=h'}:=I.turned (t':=s.toks) (fun b o hb e=>(sb.2 b hb).trans e) f0 f1 f3 f4 f5
  obtain⟨o,e,c,d⟩:=id st';exact⟨u,rfl,zhk (s:={s with heap:=h'}) e c d (by decide) ⟨x,H,I1,ru,⟨rfl,fun ys hy=>by rw[I.list_inj hy hq];exact hx⟩,st',fun b hb=>(hf b hb).1⟩⟩
 done:=by
  intro X hP hw hK hc i pins s σ H E I hf st hg;subst hP hw hK;obtain⟨xs,hq,hx⟩:=hg;obtain⟨its,rv,p,hz⟩:=I.list hq;obtain⟨f0,f1,f2,f3,f4,f5⟩:=hf it (by simp);have hl:=rv.length
  exact wpAny_pyNext_list_end (I.ok.hd hc) st p.isList (by simp;omega) fun h' eb=>⟨rfl,I.turned (t':=s.toks) (fun b o hb e=>eb b o hb e) f0 f1 f3 f4 f5⟩
 self:=fun _ _ _ _ _ st h=>wpAny_pyIter_listiter st h
theorem zgQ {P:Program}{w:World}{K:W.Frag}{tg:Expr}(a it:Addr):Turn P w K tg (Itt K a) [it] it (fun i h=>h.IsTupleIter it a i) where
 mem:=by simp
 obj:=fun i h st b hb=>by
  have e:b=it:=by simpa using hb
  subst e;obtain⟨o,e,c,d⟩:=st;exact⟨o,e,fun v z=>by rw[d] at z;cases z⟩
 keep:=fun i h h' st k=>st.at fun o e=>k it (by simp) o e
 item:=by
  intro X hP hw hK hc i pins s σ H E I hf st hg;subst hP hw hK;obtain⟨xs,x,hq,hx⟩:=hg;obtain⟨its,rv,p,hz⟩:=I.tuple hq;obtain⟨u,hu,ru⟩:=rv.get hx;obtain⟨f0,f1,f2,f3,f4,f5⟩:=hf it (by simp);refine wpAny_pyNext_tuple_item st (show s.heap.IsTuple a its.toArray from p) (x:=u) (by simpa using hu) fun h' st' sb=>?_
  have I1:Inv X pins σ H {s with heap:=h'}:=I.turned (t':=s.toks) (fun b o hb e=>(sb.2 b hb).trans e) f0 f1 f3 f4 f5
  obtain⟨o,e,c,d⟩:=id st';exact⟨u,rfl,zhk (s:={s with heap:=h'}) e c d (by decide) ⟨x,H,I1,ru,⟨rfl,fun ys hy=>by rw[I.tuple_inj hy hq];exact hx⟩,st',fun b hb=>(hf b hb).1⟩⟩
 done:=by
  intro X hP hw hK hc i pins s σ H E I hf st hg;subst hP hw hK;obtain⟨xs,hq,hx⟩:=hg;obtain⟨its,rv,p,hz⟩:=I.tuple hq;obtain⟨f0,f1,f2,f3,f4,f5⟩:=hf it (by simp);have hl:=rv.length
  exact wpAny_pyNext_tuple_end (I.ok.hd hc) st (show s.heap.IsTuple a its.toArray from p) (by simp;omega) fun h' eb=>⟨rfl,I.turned (t':=s.toks) (fun b o hb e=>eb b o hb e) f0 f1 f3 f4 f5⟩
 self:=fun _ _ _ _ _ st h=>wpAny_pyIter_tupleiter st h
theorem zgR {P:Program}{w:World}{K:W.Frag}{tg:Expr}(it:Addr)(lo:Int)(n:Nat):Turn P w K tg (Itr lo n) [it] it (fun i h=>IsRangeIter h it (lo+(i:Nat)*1) ((n:Int) - (i:Nat)) 1) where
 mem:=by simp
 obj:=fun i h st b hb=>by
  have e:b=it:=by simpa using hb
  subst e;exact⟨_,st,fun v z=>by
   have z':Data.fields _=Data.cell v:=z
   cases z'⟩
 keep:=fun i h h' st k=>k it (by simp) _ st
 item:=by
  intro X hP hw hK hc i pins s σ H E I hf st hg;subst hP hw hK;obtain⟨f0,f1,f2,f3,f4,f5⟩:=hf it (by simp);have W:=Walks.range (prog:=X.prog) (w:=X.w) (I.ok.hd hc) it lo 1 n
  refine W.item i s _ _ hg st fun v h' tk hv st' kk=>?_
  obtain⟨t,rfl⟩:=hv;have I1:Inv X pins σ H {s with heap:=h',toks:=tk}:=I.turned (fun b o hb e=>kk b o (by simpa using hb) e) f0 f1 f3 f4 f5
  refine⟨_,rfl,zhk (s:={s with heap:=h',toks:=tk}) (n:="range_iterator") st' rfl rfl (by decide) ⟨.int (lo+i),H,I1,⟨t,?_⟩,⟨rfl,rfl⟩,st',fun b hb=>(hf b hb).1⟩⟩;rw[Int.mul_one]
 done:=by
  intro X hP hw hK hc i pins s σ H E I hf st hg;subst hP hw hK;obtain⟨f0,f1,f2,f3,f4,f5⟩:=hf it (by simp);exact wpAny_pyNext_range_end (I.ok.hd hc) st (by have:n<=i:=hg;omega) fun h' eb=>⟨rfl,I.turned (t':=s.toks) (fun b o hb e=>eb b o hb e) f0 f1 f3 f4 f5⟩
 self:=fun _ _ _ _ _ st h=>wbW st h
section
variable {X:Cx}{tg:Expr}
def zor (K:W.Frag)(tl:TE):TI:=fun σ H R=>tl σ H fun x H1=>∃a,x=.ref a/\(∃xs,SqL K H1 a xs)/\R (Itl K a) H1
def iTup (K:W.Frag)(tl:TE):TI:=fun σ H R=>tl σ H fun x H1=>∃a,x=.ref a/\(∃xs,SqT K H1 a xs)/\R (Itt K a) H1
theorem zkT {l:Expr}{tl:TE}(hl:PE X l tl):PI X tg l (zor X.K tl):=by
 intro pins s σ H R I h;refine thn (hl pins s σ H _ I h) fun v s1 ⟨x,H1,I1,r1,q1⟩ =>?_
 obtain⟨a,e,⟨xs,hq⟩,q⟩:=q1;subst e;cases r1;obtain⟨its,rv,p,hz⟩:=I1.list hq;refine wpAny_pyIter_list p.isList ?_;refine⟨s1.heap.objs.size,[s1.heap.objs.size],_,_,H1,rfl,I1.kept (t':=s1.toks) fun b o e=>wac _ e,zhl a _,⟨_,wav _ rfl,rfl,rfl⟩,fun b hb=>?_,q⟩;have e:b=s1.heap.objs.size:=by simpa using hb
 subst e;exact I1.fpOk (wan _) (I1.hok.fresh (wan _))
theorem zmy {l:Expr}{tl:TE}(hl:PE X l tl):PI X tg l (iTup X.K tl):=by
 intro pins s σ H R I h;refine thn (hl pins s σ H _ I h) fun v s1 ⟨x,H1,I1,r1,q1⟩ =>?_
 obtain⟨a,e,⟨xs,hq⟩,q⟩:=q1;subst e;cases r1;obtain⟨its,rv,p,hz⟩:=I1.tuple hq;refine wbN (show s1.heap.IsTuple a its.toArray from p) ?_;refine⟨s1.heap.objs.size,[s1.heap.objs.size],_,_,H1,rfl,I1.kept (t':=s1.toks) fun b o e=>wac _ e,zgQ a _,⟨_,wav _ rfl,rfl,rfl⟩,fun b hb=>?_,q⟩;have e:b=s1.heap.objs.size:=by simpa using hb
 subst e;exact I1.fpOk (wan _) (I1.hok.fresh (wan _))
theorem ziX {pins:List (Addr×Obj)}{σ:St}{H:Hp}{s:Shared}{R:It->Hp->Prop}{E:Value->Shared->Prop}{lo hi:Int}{t u v:Tok}{tk:Nat}(I:Inv X pins σ H s)(h1:-(2 ^ 62)<=lo)(h2:lo<2 ^ 62)(h3:-(2 ^ 62)<=hi)(h4:hi<2 ^ 62)
 (q:R (Itr lo (hi - lo).toNat) H):wpAny (model X.prog X.w) X.A (pyIter (.ref s.heap.objs.size)) (PIE X pins σ tg R) E {s with heap:=s.heap.push {cls:=.type "range",data:=.fields #[.int lo t,.int hi u,.int 1 v]},toks:=tk}:=by
 refine wpAny_pyIter_range (IsRange.new ..) (small_one h1 h2 h3 h4) ?_;have I1:Inv X pins σ H {s with heap:=s.heap.push {cls:=.type "range",data:=.fields #[.int lo t,.int hi u,.int 1 v]},toks:=tk}:=I.kept fun b o e=>wac _ e
 refine⟨(s.heap.push {cls:=.type "range",data:=.fields #[.int lo t,.int hi u,.int 1 v]}).objs.size,[(s.heap.push {cls:=.type "range",data:=.fields #[.int lo t,.int hi u,.int 1 v]}).objs.size],_,_,H,rfl,
  I1.kept (t':=tk) fun b o e=>wac _ e,zgR _ lo (hi - lo).toNat,?_,fun b hb=>?_,q⟩
 ·have e1:lo+((0:Nat):Int)*1=lo:=by simp
  have e2:(((hi - lo).toNat:Nat):Int) - ((0:Nat):Int)=Builtin.Range.rangeSize lo hi 1:=by rw[rangeSize_one];split <;> omega
  show IsRangeIter _ _ (lo+((0:Nat):Int)*1) ((((hi - lo).toNat:Nat):Int) - ((0:Nat):Int)) 1
  rw[e1,e2];exact wav _ rfl
 ·have e:b=(s.heap.push {cls:=.type "range",data:=.fields #[.int lo t,.int hi u,.int 1 v]}).objs.size:=by simpa using hb
  subst e;exact I1.fpOk (wan _) (I1.hok.fresh (wan _))
def zos (ta:TA):TI:=fun σ H R=>ta σ H fun vs H1=>∃j:Int,vs = [.int j]/\-(2 ^ 62)<=j/\j<2 ^ 62/\R (Itr 0 j.toNat) H1
theorem zhm {a:Expr}{ta:TA}{p pos:Pos}(hg:Gl X "range")(hm:X.mg "range"=none)(ha:PA X [a] ta)(hs:starEach [a] X.env = [(false,eval a X.env)]:=by rfl):PI X tg (.Call (.Name "range" p) [a] [] pos) (zos ta):=by
 intro pins s σ H R I h;refine Call_ (zc9 I hg hm boot_range (waO (thn (ha pos pins s σ H _ I h) fun us s1 ⟨vs,H1,I1,r1,q1⟩ =>?_) hs rfl));obtain⟨j,e,q1,q2,q⟩:=q1;subst e;cases r1 with
 | cons r rr=>
   cases rr;obtain⟨t,rfl⟩:=r;exact call_range_1 (ziX I1 (by omega) (by omega) q1 q2 (by simpa using q))
def tFor (wi:TI)(g:TG)(tb:TS):TS:=fun D σ H=>wi σ H fun J H1=>∃W:Nat->Nat->St->Hp->Prop,(∃m,W 0 m σ H1)/\∀i m σ H,W i m σ H->
 (J.stop i H/\D.nx σ H)\/(J.go i H/\∃N:St->Hp->Prop,(∀σ' H',N σ' H'->∃m',m'<m/\W (i+1) m' σ' H')/\∀x H',J.yld i H x H'->g x σ H' fun σ2 H2=>tb {D with nx:=N,ct:=N,bk:=D.nx} σ2 H2)
def zeM (fp:List Addr)(h:Heap):List (Addr×Obj):=fp.filterMap fun b=>(h.get? b).map fun o=>(b,o)
theorem zb9 {fp:List Addr}{h:Heap}{b:Addr}{o:Obj}(hb:b∈fp)(e:h.get? b=some o):(b,o)∈zeM fp h:=wbO.mpr ⟨b,hb,by rw[e];rfl⟩
theorem zhn {fp:List Addr}{h:Heap}{p:Addr×Obj}(hp:p∈zeM fp h):p.1∈fp/\h.get? p.1=some p.2:=by
 obtain⟨b,hb,e⟩:=wbO.mp hp;cases q:h.get? b with
 | none=>rw[q] at e;cases e
 | some o=>
   rw[q] at e;have e':(b,o)=p:=wau e
   subst e';exact⟨hb,q⟩
theorem Inv.pinned {pins:List (Addr×Obj)}{σ:St}{H:Hp}{s:Shared}{fp:List Addr}(I:Inv X pins σ H s)(hf:∀b∈fp,FpOk X pins H b)(ho:∀b∈fp,∃o,s.heap.get? b=some o/\∀v,o.data≠.cell v):Inv X (pins++zeM fp s.heap) σ H s:=
 I.pins_of fun p hp=>(way.mp hp).elim (fun z=>I.pin p (waw _ z)) fun z=>by
  obtain⟨hb,e⟩:=zhn z;obtain⟨f0,f1,f2,_⟩:=hf p.1 hb;obtain⟨o,e',d⟩:=ho p.1 hb;rw[e] at e';cases e';exact⟨e,f0,f1,f2,d⟩
theorem Inv.unpinned {pins pl:List (Addr×Obj)}{σ:St}{H:Hp}{s:Shared}(I:Inv X (pins++pl) σ H s):Inv X pins σ H s:=I.pins_of fun p hp=>I.pin p (waw _ (wbp _ hp))
theorem zkc {iter:Expr}{body:List Stmt}{wi:TI}{g:TG}{tb:TS}{pos:Pos}(hp:PassesOwn (model X.prog X.w) X.A X.env X.xe)(hc:X.calm=true)(hi:PI X tg iter wi)(hg:PG X tg g)(hb:PSs X body tb)
 (hs:∀x,foldedSetIterable iter X.env x=pure x:=by intro _;rfl):PS X (.For tg iter body [] pos) (tFor wi g tb):=by
 intro pins s σ H D I h;refine wpAny_For (thn (hi pins s σ H _ I h) fun v s1 h1=>thn h1 fun itv s2 h2=>?_) hs;obtain⟨it,fp,tn,J,H2,e,I2,T,st2,f2,W,⟨m0,w0⟩,turn⟩:=h2;subst e;have stat:∀{H':Hp},(∀b∈fp,H' b=none)->∀b∈fp,FpOk X pins H' b:=fun hn b hb=>⟨hn b hb,(f2 b hb).2⟩
 refine codeAny_forLoop_any (fun n s'=>∃i σ' H',Inv X pins σ' H' s'/\tn i s'.heap/\(∀b∈fp,H' b=none)/\W i n σ' H') ?_ m0 ⟨0,σ,H2,I2,st2,fun b hb=>(f2 b hb).1,w0⟩;rintro n s3 ⟨i,σ3,H3,I3,st3,fr3,w3⟩;rcases turn i n σ3 H3 w3 with⟨stop,qn⟩ | ⟨go,N,hN,step⟩
 ·refine wbP hp (thn (T.done X rfl rfl rfl hc i pins s3 σ3 H3 X.xe I3 (stat fr3) st3 stop) fun r s4 ⟨hr,I4⟩ =>?_);subst hr;exact wcl ⟨σ3,H3,I4,qn⟩
 ·refine wbP hp (thn (T.item X rfl rfl rfl hc i pins s3 σ3 H3 X.xe I3 (stat fr3) st3 go) fun r s4 ⟨u,hr,h4⟩ =>?_);subst hr;refine wbP hp (thn h4 fun _ s5 ⟨x,H5,I5,r5,y5,st5,fr5⟩ =>?_);have I5':=I5.pinned (stat fr5) (T.obj _ _ st5)
  refine wbP hp (thn (hg _ s5 σ3 H5 x u _ I5' r5 (step x H5 y5)) fun _ s6 ⟨σ6,H6,I6,q6⟩ =>?_);refine wbP hp (thn (hb _ s6 σ6 H6 _ I6 q6) fun f s7 q7=>?_);have again:∀{σ7:St}{H7:Hp},Inv X (pins++zeM fp s5.heap) σ7 H7 s7->N σ7 H7->∃m,m<n/\∃i σ' H',Inv X pins σ' H' s7/\tn i s7.heap/\(∀b∈fp,H' b=none)/\W i m σ' H':=fun {σ7 H7} I7 n7=>by
   obtain⟨m',hm,w7⟩:=hN σ7 H7 n7;refine⟨m',hm,i+1,σ7,H7,I7.unpinned,T.keep _ _ _ st5 fun b hb o e=>(I7.pin (b,o) (waw _ (waw _ (zb9 hb e)))).1,fun b hb=>?_,w7⟩;obtain⟨o,e,d⟩:=T.obj _ _ st5 b hb;exact(I7.pin (b,o) (waw _ (waw _ (zb9 hb e)))).2.1
  cases f with
  | next=>obtain⟨σ7,H7,I7,n7⟩:=q7;exact again I7 n7
  | cont=>obtain⟨σ7,H7,I7,n7⟩:=q7;exact again I7 n7
  | brk=>obtain⟨σ7,H7,I7,q7⟩:=q7;exact⟨σ7,H7,I7.unpinned,q7⟩
  | ret v=>obtain⟨x7,σ7,H7,I7,r7,q7⟩:=q7;exact⟨x7,σ7,H7,I7.unpinned,r7,q7⟩
end
abbrev R2:=V->V->Hp->VK->Prop
def OpR (X:Cx)(f:Value->Value->Sem Value)(r:R2):Prop:=
 ∀(pins:List (Addr×Obj)) (s:Shared) (σ:St) (H:Hp) (x y:V) (v u:Value) (Q:VK),Inv X pins σ H s->RelV x v->RelV y u->r x y H Q->
  wpAny (model X.prog X.w) X.A (f v u) (EP X pins σ Q) X.xe s
def UnR (X:Cx)(f:Value->Sem Value)(r:V->Hp->VK->Prop):Prop:=
 ∀(pins:List (Addr×Obj)) (s:Shared) (σ:St) (H:Hp) (x:V) (v:Value) (Q:VK),Inv X pins σ H s->RelV x v->r x H Q->
  wpAny (model X.prog X.w) X.A (f v) (EP X pins σ Q) X.xe s
def zcs (X:Cx)(f:Value)(r:List V->Hp->VK->Prop):Prop:=
 ∀(pins:List (Addr×Obj)) (s:Shared) (σ:St) (H:Hp) (xs:List V) (us:List Value) (Q:VK),Inv X pins σ H s->Vals xs us->r xs H Q->
  wpAny (model X.prog X.w) X.A (call f us) (EP X pins σ Q) X.xe s
def TruR (X:Cx)(r:V->Hp->(Bool->Hp->Prop)->Prop):Prop:=
 ∀(pins:List (Addr×Obj)) (s:Shared) (σ:St) (H:Hp) (x:V) (v:Value) (Q:Bool->Hp->Prop),Inv X pins σ H s->RelV x v->r x H Q->
  wpAny (model X.prog X.w) X.A (truthy v) (TP X pins σ Q) X.xe s
def tOp (r:R2)(ta tb:TE):TE:=fun σ H Q=>ta σ H fun x H1=>tb σ H1 fun y H2=>r x y H2 Q
def tUn (r:V->Hp->VK->Prop)(ta:TE):TE:=fun σ H Q=>ta σ H fun x H1=>r x H1 Q
def rI (C:Int->Int->Prop)(g:Int->Int->V):R2:=fun x y H Q=>∃i j,x=.int i/\y=.int j/\C i j/\Q (g i j) H
def rI0 (g:Int->Int->V):R2:=fun x y H Q=>∃i j,x=.int i/\y=.int j/\Q (g i j) H
def rU (g:Int->V):V->Hp->VK->Prop:=fun x H Q=>∃i,x=.int i/\Q (g i) H
section
variable {X:Cx}{a b c:Expr}{ta tb tc:TE}{pos:Pos}
theorem binT (ha:PE X a ta)(hb:PE X b tb){pins:List (Addr×Obj)}{s:Shared}{σ:St}{H:Hp}{R:V->V->Hp->Prop}(I:Inv X pins σ H s)
 (h:ta σ H fun x H1=>tb σ H1 fun y H2=>R x y H2) {Q:Value->Shared->Prop}{f:Value->Value->Sem Value}
 (hf:∀v u s2 x y H2,Inv X pins σ H2 s2->RelV x v->RelV y u->R x y H2->wpAny (model X.prog X.w) X.A (f v u) Q X.xe s2) :
 wpAny (model X.prog X.w) X.A (eval a X.env) (fun v s₁=>wpAny (model X.prog X.w) X.A (eval b X.env) (fun u s₂=>wpAny (model X.prog X.w) X.A (f v u) Q X.xe s₂) X.xe s₁) X.xe s:=by
 refine thn (ha pins s σ H _ I h) fun v s1 ⟨x,H1,I1,r1,q1⟩ =>?_
 refine thn (hb pins s1 σ H1 _ I1 q1) fun u s2 ⟨y,H2,I2,r2,q2⟩ =>?_
 exact hf v u s2 x y H2 I2 r1 r2 q2
theorem zmz {op:Operator}{r:R2}(ho:OpR X (binaryOp op) r)(ha:PE X a ta)(hb:PE X b tb):PE X (.BinOp a op b pos) (tOp r ta tb):=by
 intro pins s σ H Q I h;exact wpAny_BinOp (binT ha hb I h fun v u s2 x y H2 I2 rx ry q=>ho pins s2 σ H2 x y v u Q I2 rx ry q)
theorem zot {op:UnaryOp}{r:V->Hp->VK->Prop}(ho:UnR X (unaryOp op) r)(ha:PE X a ta):PE X (.UnaryOp op a pos) (tUn r ta):=by
 intro pins s σ H Q I h;exact UnaryOp_ (thn (ha pins s σ H _ I h) fun v s1 ⟨x,H1,I1,r1,q1⟩ =>ho pins s1 σ H1 x v Q I1 r1 q1)
theorem opI {f:Value->Value->Sem Value}{C:Int->Int->Prop}{g:Int->Int->Int}
 (rule:∀(i j:Int) (t u:Tok) (s:Shared) (Q:Value->Shared->Prop) (E:Value->Shared->Prop),C i j->Q (.int (g i j) s.toks) {s with toks:=s.toks+1}->wpAny (model X.prog X.w) X.A (f (.int i t) (.int j u)) Q E s) :
 OpR X f (rI C fun i j=>.int (g i j)):=by
 intro pins s σ H x y v u Q I rx ry h;obtain⟨i,j,rfl,rfl,hc,q⟩:=h;obtain⟨t,rfl⟩:=rx;obtain⟨t',rfl⟩:=ry;exact rule i j t t' s _ _ hc ⟨.int (g i j),H,I.tok _,⟨_,rfl⟩,q⟩
theorem opI0 {f:Value->Value->Sem Value}{g:Int->Int->Int}
 (rule:∀(i j:Int) (t u:Tok) (s:Shared) (Q:Value->Shared->Prop) (E:Value->Shared->Prop),Q (.int (g i j) s.toks) {s with toks:=s.toks+1}->wpAny (model X.prog X.w) X.A (f (.int i t) (.int j u)) Q E s) :
 OpR X f (rI0 fun i j=>.int (g i j)):=by
 intro pins s σ H x y v u Q I rx ry h;obtain⟨i,j,rfl,rfl,q⟩:=h;obtain⟨t,rfl⟩:=rx;obtain⟨t',rfl⟩:=ry;exact rule i j t t' s _ _ ⟨.int (g i j),H,I.tok _,⟨_,rfl⟩,q⟩
theorem opB0 {f:Value->Value->Sem Value}{g:Int->Int->Bool}
 (rule:∀(i j:Int) (t u:Tok) (s:Shared) (Q:Value->Shared->Prop) (E:Value->Shared->Prop),Q (.bool (g i j)) s->wpAny (model X.prog X.w) X.A (f (.int i t) (.int j u)) Q E s) :
 OpR X f (rI0 fun i j=>.bl (g i j)):=by
 intro pins s σ H x y v u Q I rx ry h;obtain⟨i,j,rfl,rfl,q⟩:=h;obtain⟨t,rfl⟩:=rx;obtain⟨t',rfl⟩:=ry;exact rule i j t t' s _ _ ⟨.bl (g i j),H,I,rfl,q⟩
def CDiv (i j:Int):Prop:=0<j/\j<1073741824
def CPow (i j:Int):Prop:=0<=j/\j<=1000000/\i.natAbs<2 ^ 64
def CMul (i j:Int):Prop:=(-(2 ^ 64)<i/\i<2 ^ 64)\/(-(2 ^ 64)<j/\j<2 ^ 64)
theorem CMul.ok {i j:Int}(h:CMul i j):IntMulOk i j:=by
 rcases h with⟨h1,h2⟩ | ⟨h1,h2⟩
 ·exact .of_left (intBits_le_64 h1 h2)
 ·exact .of_right (intBits_le_64 h1 h2)
theorem op_add:OpR X (binaryOp .Add) (rI0 fun i j=>.int (i+j)):=opI0 fun _ _ _ _ _ _ _ q=>add_int q
theorem zkd:OpR X (binaryOp .Sub) (rI0 fun i j=>.int (i - j)):=opI0 fun _ _ _ _ _ _ _ q=>sub_int q
theorem op_mul:OpR X (binaryOp .Mult) (rI CMul fun i j=>.int (i*j)):=opI fun _ _ _ _ _ _ _ hc q=>mul_int q hc.ok
theorem zej:OpR X (binaryOp .FloorDiv) (rI CDiv fun i j=>.int (i / j)):=opI fun i j _ _ _ _ _ hc q=>by
 have h1:(0:Int)<j:=hc.1
 have h2:j<1073741824:=hc.2
 exact floordiv_int (by omega) (by rw[Int.fdiv_eq_ediv_of_nonneg i (by omega)];exact q) (.inl (PyProof.noPylong_small (by omega)))
theorem zbz:OpR X (binaryOp .Mod) (rI (fun _ j=>0<j) fun i j=>.int (i % j)):=opI fun i j _ _ _ _ _ hc q=>by
 have h1:(0:Int)<j:=hc
 exact mod_int' (by omega) (by rw[Int.fmod_eq_emod_of_nonneg i (by omega)];exact q)
theorem zmA:OpR X (binaryOp .Pow) (rI CPow fun i j=>.int (i ^ j.toNat)):=opI fun _ _ _ _ _ _ _ hc q=>pow_int_small hc.1 hc.2.1 hc.2.2 q
theorem unI {f:Value->Sem Value}{g:Int->Int}
 (rule:∀(i:Int) (t:Tok) (s:Shared) (Q:Value->Shared->Prop) (E:Value->Shared->Prop),Q (.int (g i) s.toks) {s with toks:=s.toks+1}->wpAny (model X.prog X.w) X.A (f (.int i t)) Q E s) :
 UnR X f (rU fun i=>.int (g i)):=by
 intro pins s σ H x v Q I rx h;obtain⟨i,rfl,q⟩:=h;obtain⟨t,rfl⟩:=rx;exact rule i t s _ _ ⟨.int (g i),H,I.tok _,⟨_,rfl⟩,q⟩
theorem zmB:UnR X (unaryOp .USub) (rU fun i=>.int (-i)):=unI fun _ _ _ _ _ q=>neg_int q
end
theorem zek {i j:Int}:decide (V.int i=V.int j)=(i == j):=by
 rw[wbC];simp
theorem zf9 {i j:Bool}:decide (V.bl i=V.bl j)=(i == j):=by
 rw[wbC];simp
theorem zel {i j:Str}:decide (V.str i=V.str j)=(i == j):=by
 rw[wbC];simp
section
variable {X:Cx}{a b c:Expr}{ta tb tc:TE}{pos:Pos}
theorem zmC {pins:List (Addr×Obj)}{σ:St}{H:Hp}{s:Shared}{Q:VK}{k k':Bool}(I:Inv X pins σ H s)(q:Q (.bl k) H)(e:k=k'):EP X pins σ Q (.bool k') s:=by
 subst e;exact⟨.bl k,H,I,rfl,q⟩
theorem zou:OpR X (compareOp .GtE) (rI0 fun i j=>.bl (decide (j<=i))):=opB0 fun _ _ _ _ _ _ _ q=>ge_int q
theorem zke:OpR X (compareOp .Is) (fun x y H Q=>y=.non/\Q (.bl (decide (x=.non))) H):=by
 intro pins s σ H x y v u Q I rx ry h;obtain⟨rfl,q⟩:=h;cases ry;refine is_none_gen (zmC I q ?_);cases x <;> first
  | (cases rx;rfl)
  | (obtain⟨t,rfl⟩:=rx;rfl)
theorem OpR.or {f:Value->Value->Sem Value}{r r':R2}(h:OpR X f r)(h':OpR X f r'):OpR X f (fun x y H Q=>r x y H Q\/r' x y H Q):=by
 intro pins s σ H x y v u Q I rx ry q;rcases q with q | q
 ·exact h pins s σ H x y v u Q I rx ry q
 ·exact h' pins s σ H x y v u Q I rx ry q
theorem zba (b:Expr){op:CmpOp}(h:op≠.In:=by decide)(h2:op≠.NotIn:=by decide):behindInMarks op b=false:=by
 have e1:(op == CmpOp.In)=false:=by cases op <;> first | rfl | exact absurd rfl h
 have e2:(op == CmpOp.NotIn)=false:=by cases op <;> first | rfl | exact absurd rfl h2
 cases b <;> simp[behindInMarks,e1,e2]
def zmD (t:TE):TT:=fun σ H Q=>t σ H fun x H'=>∃k,x=.bl k/\Q k H'
theorem zkU {op:CmpOp}{r:R2}(ho:OpR X (compareOp op) r)(ha:PE X a ta)(hb:PE X b tb)(hm:behindInMarks op b=false):PT X (.Compare a [op] [b] pos) (zmD (tOp r ta tb)):=by
 intro pins s σ H Q I h;refine wpAny_isTrue_Compare1 (thn (ha pins s σ H _ I h) fun v s1 ⟨x,H1,I1,r1,q1⟩ =>thn (hb pins s1 σ H1 _ I1 q1) fun u s2 ⟨y,H2,I2,r2,q2⟩ =>
  thn (ho pins s2 σ H2 x y v u _ I2 r1 r2 q2) fun c s3 ⟨z,H3,I3,r3,k,e,q3⟩ =>?_) hm
 subst e;cases r3;exact wpAny_truthy_bool ⟨H3,I3,q3⟩
def TruV (K:W.Frag)(x:V)(H:Hp)(k:Bool):Prop:=
 match x with
 | .non=>k=false
 | .bl b=>k=b
 | .int i=>k=(i != 0)
 | .str y=>y.length<=sizeLine/\k=((y.length:Int) != 0)
 | .byt y=>y.size<=sizeLine/\k=((y.size:Int) != 0)
 | .ref p=>(∃xs,SqL K H p xs/\k = !xs.isEmpty)\/(∃xs,SqT K H p xs/\k = !xs.isEmpty)\/∃kvs,H p=some (.dK kvs)/\k = !kvs.isEmpty
 | _=>False
theorem zgS {κ:Type}{kvs:List (κ×V)}{vs:List (κ×Value)}(r:KV kvs vs):(!vs.isEmpty) = !kvs.isEmpty:=by
 cases r <;> rfl
theorem zd2 {xs:List V}{its:List Value}(r:Vals xs its):(!its.toArray.isEmpty) = !xs.isEmpty:=by
 cases r <;> simp
theorem zdt:(sizeLine:Nat)<2 ^ 63:=by rw[sizeLine_eq];decide
theorem zmE:TruR X (fun x H Q=>∃k,TruV X.K x H k/\Q k H):=by
 intro pins s σ H x v Q I rx h;obtain⟨k,e,q⟩:=h;have hl:=zdt
 have hs:sizeLine=16777216:=sizeLine_eq
 cases x with
 | non=>
   cases rx;have e':k=false:=e
   subst e';exact truthy_none ⟨H,I,q⟩
 | bl b=>
   cases rx;have e':k=b:=e
   subst e';exact wpAny_truthy_bool ⟨H,I,q⟩
 | int i=>
   obtain⟨t,rfl⟩:=rx;have e':k=(i != 0):=e
   subst e';exact PySem.P.truthy_int ⟨H,I,q⟩
 | str y=>
   obtain⟨t,rfl⟩:=rx;obtain⟨hy,e'⟩:y.length<=sizeLine/\k=((y.length:Int) != 0):=e;subst e';exact PySem.P.truthy_str (by omega) ⟨H,I.tok _,q⟩
 | byt y=>
   obtain⟨t,rfl⟩:=rx;obtain⟨hy,e'⟩:y.size<=sizeLine/\k=((y.size:Int) != 0):=e;subst e';exact PySem.W.truthy_bytes (by omega) ⟨H,I.tok _,q⟩
 | ref p=>
   cases rx;have e':(∃xs,SqL X.K H p xs/\k = !xs.isEmpty)\/(∃xs,SqT X.K H p xs/\k = !xs.isEmpty)\/∃kvs,H p=some (.dK kvs)/\k = !kvs.isEmpty:=e
   rcases e' with⟨xs,hx,e'⟩ | ⟨xs,hx,e'⟩ | ⟨kvs,hx,e'⟩
   ·subst e';obtain⟨its,r,pl,hz⟩:=I.list hx;have hlen:=r.length
    exact wpAny_truthy_list pl.isList (by simp only[wab];omega) ⟨H,I.tok _,by rw[zd2 r];exact q⟩
   ·subst e';obtain⟨its,r,pl,hz⟩:=I.tuple hx;have hlen:=r.length
    exact truthy_tuple pl (by simp only[wab];omega) ⟨H,I.tok _,by rw[zd2 r];exact q⟩
   ·subst e';obtain⟨hz,hS,vs,r,m⟩:kvs.length<=sizeLine/\(p == sysModules)=false/\∃vs,KV kvs vs/\s.heap.DictOf (zbj X.prog X.w) p vs:=I.hok p _ hx;have hlen:kvs.length=vs.length:=Paired.length r
    exact wpAny_truthy_dict hS m (by omega) ⟨H,I.tok _,by rw[zgS r];exact q⟩
 | _=>exact(show False from e).elim
theorem ziY (ha:PE X a ta)(he:∀whole,isTrue a X.env whole=(do let v <-whole;standAt a.pos;holding [v] (truthy v))) :
 PT X a (fun σ H Q=>ta σ H fun x H'=>∃k,TruV X.K x H' k/\Q k H'):=by
 intro pins s σ H Q I h;exact isTrue_plain (thn (ha pins s σ H _ I h) fun v s1 ⟨x,H1,I1,r1,q1⟩ =>zmE pins s1 σ H1 x v Q I1 r1 q1) (he _)
theorem op_add_str:OpR X (binaryOp .Add) (fun x y H Q=>∃i j,x=.str i/\y=.str j/\i.length+j.length<=sizeLine/\Q (.str (i++j)) H):=by
 intro pins s σ H x y v u Q I rx ry h;obtain⟨i,j,rfl,rfl,hz,q⟩:=h;obtain⟨t,rfl⟩:=rx;obtain⟨t',rfl⟩:=ry;exact add_str (fun t' tk=>⟨.str (i++j),H,I.tok _,⟨_,rfl⟩,q⟩) hz
theorem ziZ {x:V}{us:List Value}(r:Vals [x] us):∃u,us = [u]/\RelV x u:=by
 cases r with
 | cons r1 r2=>cases r2;exact⟨_,rfl,r1⟩
theorem zho {x y:V}{us:List Value}(r:Vals [x,y] us):∃u w',us = [u,w']/\RelV x u/\RelV y w':=by
 cases r with
 | cons r1 r2=>
   cases r2 with
   | cons r3 r4=>cases r4;exact⟨_,_,rfl,r1,r3⟩
theorem zhp (hc:X.calm=true):zcs X (.builtin "min") (fun xs H Q=>∃i j,xs = [.int i,.int j]/\Q (.int (if j<i then j else i)) H):=by
 intro pins s σ H xs us Q I r h;obtain⟨i,j,rfl,q⟩:=h;obtain⟨u,w',rfl,⟨t,rfl⟩,⟨t',rfl⟩⟩:=zho r;refine min_two_ints (I.ok.hd hc) fun h' tk k=>⟨_,H,I.kept k,?_,q⟩
 by_cases hj:j<i
 ·rw[if_pos hj,if_pos hj];exact⟨_,rfl⟩
 ·rw[if_neg hj,if_neg hj];exact⟨_,rfl⟩
def LenV (K:W.Frag)(x:V)(H:Hp)(n:Nat):Prop:=
 match x with
 | .str y=>y.length<=sizeLine/\n=y.length
 | .byt y=>y.size<=sizeLine/\n=y.size
 | .ref p=>(∃xs,SqL K H p xs/\n=xs.length)\/∃xs,SqT K H p xs/\n=xs.length
 | _=>False
theorem zcJ:zcs X (.builtin "len") (fun xs H Q=>∃x n,xs = [x]/\LenV X.K x H n/\Q (.int n) H):=by
 intro pins s σ H xs us Q I r h;obtain⟨x,n,rfl,e,q⟩:=h;obtain⟨u,rfl,rx⟩:=ziZ r;have hl:=zdt
 have hs:sizeLine=16777216:=sizeLine_eq
 cases x with
 | str y=>
   obtain⟨t,rfl⟩:=rx;obtain⟨hy,e'⟩:y.length<=sizeLine/\n=y.length:=e;subst e';exact len_str (by omega) ⟨.int _,H,I.tok _,⟨_,rfl⟩,q⟩
 | byt y=>
   obtain⟨t,rfl⟩:=rx;obtain⟨hy,e'⟩:y.size<=sizeLine/\n=y.size:=e;subst e';exact PySem.W.len_bytes (by omega) ⟨.int _,H,I.tok _,⟨_,rfl⟩,q⟩
 | ref p=>
   cases rx;have e':(∃xs,SqL X.K H p xs/\n=xs.length)\/∃xs,SqT X.K H p xs/\n=xs.length:=e
   rcases e' with⟨xs,hx,e'⟩ | ⟨xs,hx,e'⟩
   ·subst e';obtain⟨its,r',pl,hz⟩:=I.list hx;have hlen:=r'.length
    exact Calls.call_len_list pl.isList (by simp only[wab];omega) ⟨.int xs.length,H,I.tok _,⟨_,by simp only[wab];rw[hlen]⟩,q⟩
   ·subst e';obtain⟨its,r',pl,hz⟩:=I.tuple hx;have hlen:=r'.length
    exact len_tuple pl (by simp only[wab];omega) ⟨.int xs.length,H,I.tok _,⟨_,by simp only[wab];rw[hlen]⟩,q⟩
 | _=>exact(show False from e).elim
end
structure ObjM (h:Heap)(x dx C:Addr)(mA:Str->Option Value):Prop where
 obj:h.get? x=some (PySem.W.instObj C dx)
 ns:h.Ns1 dx mA
 ne:dx≠x
theorem zhq {h:Heap}{dx:Addr}{mA:Str->Option Value}(n:h.Ns1 dx mA):∃od,h.get? dx=some od/\∀name,PySem.W.lookIn name od=some (mA name):=by
 obtain⟨o,es,ep,ho,hd,hk,_,hm⟩:=n;refine⟨o,ho,fun name=>?_⟩;have e:=hm name
 unfold nsFind findBy at e;rw[<-Array.find?_toList] at e;unfold PySem.W.lookIn;rw[hd];dsimp only;split
 ·rename_i y q
  rw[q] at e;exact waN some e
 ·rename_i q
  rw[q] at e;have a:es.toList.any (·.refKey)=false:=by
   rw[List.any_eq_false];intro y hy;obtain⟨z,t,hkey⟩:=hk y (Array.mem_toList_iff.mp hy);simp[DictEntry.refKey,hkey]
  have a':¬es.toList.any (·.refKey)=true:=by rw[a];exact wbB
  rw[if_neg a'];exact waN some e
theorem ObjM.look {h:Heap}{x dx C:Addr}{mA:Str->Option Value}(I:ObjM h x dx C mA):∃od,PySem.W.InstAt h x (PySem.W.instObj C dx) C (some od)/\∀name,PySem.W.lookIn name od=some (mA name):=
 let ⟨od,ho,hl⟩:=zhq I.ns
 ⟨od,⟨I.obj,rfl,rfl,ho⟩,hl⟩
section
variable {prog:Program}{w:World}{A:Around}{E:Value->Shared->Prop}{s:Shared}{K:W.Frag}{x dx C f:Addr}{mA:Str->Option Value}{name:Str}{v:Value}
end
section
variable {P:Program}{w:World}{H H':Hp}{h h':Heap}{a C dx:Addr}{fs fs':List (Str×V)}
theorem zkV (hok:HOk P w H h)(e:H a=some (.ins C dx fs)):∃mA,ObjM h a dx C mA/\(∀f,RelO (fs.lookup f) (mA f))/\PySem.Within mA (fs.map (·.1))/\fs.length<=1000/\H dx=some (.own a):=by
 obtain⟨d,z,ne,ob,mA,n,r,q⟩:=(show ObjOk P w H h a (.ins C dx fs) from hok a _ e)
 exact⟨mA,⟨ob,n,ne⟩,r,q,z,d⟩
end
structure Cls (K:W.Frag)(C:Addr):Prop where
 pg:PySem.W.plainGet K C Str.empty=true
 hd:PySem.W.hasDictIn K C=true
 po:PySem.W.plainOver K C=true
 sa:PySem.W.findIn K (.ref C) "__setattr__"=some (some (.builtin "object.__setattr__"))
theorem Cls.get {K:W.Frag}{C:Addr}(c:Cls K C)(f:Str):PySem.W.plainGet K C f=true:=c.pg
section
variable {X:Cx}{pins:List (Addr×Obj)}{σ:St}{H:Hp}{s:Shared}{a C dx:Addr}{fs:List (Str×V)}{f:Str}{v:V}{A:Around}{E:Value->Shared->Prop}
theorem zkW {prog:Program}{w:World}{env:Env}{e:Expr}{f:Str}{pos:Pos}{s:Shared}{Q:Value->Shared->Prop}(hb:attributeBase e f env (eval e env)=eval e env)
 (h:wpAny (model prog w) A (eval e env) (fun o s₁=>wpAny (model prog w) A (getAttr o f true) Q E s₁) E s):wpAny (model prog w) A (eval (.Attribute e f pos) env) Q E s:=
 Attribute_any_ h (by rw[arm_eval_Attribute,hb])
end
section
variable {X:Cx}{o e value:Expr}{f:Str}{pos pos' tpos:Pos}{ta tv:TE}
end
section
variable {X:Cx}{pins:List (Addr×Obj)}{σ:St}{H:Hp}{s:Shared}{A:Around}{E:Value->Shared->Prop}{Q:Value->Shared->Prop}{c:Value}{b:Bool}
inductive TyOf (K:W.Frag)(H:Hp):V->Value->Prop where
 | non:TyOf K H .non (.type "NoneType")
 | bl (x:Bool):TyOf K H (.bl x) (.type "bool")
 | int (i:Int):TyOf K H (.int i) (.type "int")
 | str (x:Str):TyOf K H (.str x) (.type "str")
 | flt (x:UInt64):TyOf K H (.flt x) (.type "float")
 | lst {a:Addr}{xs:List V}(e:H a=some (.lst xs)):TyOf K H (.ref a) (.type "list")
 | frz {a:Addr}{o:Obj}{xs:List V}(e:H a=some (.frz o (.lst xs))):TyOf K H (.ref a) (.type "list")
 | tup {a:Addr}{xs:List V}(e:H a=some (.tup xs)):TyOf K H (.ref a) (.type "tuple")
 | dK {a:Addr}{kvs:List (Key×V)}(e:H a=some (.dK kvs)):TyOf K H (.ref a) (.type "dict")
 | dT {a:Addr}{kvs:List (List Key×V)}(e:H a=some (.dT kvs)):TyOf K H (.ref a) (.type "dict")
 | ins {a C dx:Addr}{fs:List (Str×V)}(e:H a=some (.ins C dx fs)) (cl:Cls K C) (ha:PySem.W.findIn K (.ref C) "__class__"=some (some (.builtin "object.__class__")))
  (hn:PySem.W.specialIn K (.builtin "object.__class__") "__get__"=some (some (.builtin "getset_descriptor.__get__"))) (htk:PySem.W.takesIn K (.builtin "object.__class__")=some true)
  (hm:PySem.W.mroIn K C (.type "object")=some true):TyOf K H (.ref a) (.ref C)
theorem zhr {x:V}{u t:Value}(I:Inv X pins σ H s)(rx:RelV x u)(ty:TyOf X.K H x t)(e:PySem.W.kitOne X.K t c=some b)(h:∀tk,Q (.bool b) {s with toks:=tk}) :
 wpAny (model X.prog X.w) A (call (.builtin "isinstance") [u,c]) Q E s:=by
 cases ty with
 | non=>cases(show u=Value.none from rx);exact waJ PySem.W.kitx_none I.kIn True.intro e (fun z=>nomatch z) h
 | bl y=>cases(show u=Value.bool y from rx);exact waJ PySem.W.kitx_bool I.kIn True.intro e (fun z=>nomatch z) h
 | int i=>obtain⟨t,q⟩:=(show ∃t,u=Value.int i t from rx);cases q;exact waJ PySem.W.kitx_int I.kIn True.intro e (fun z=>nomatch z) h
 | str y=>obtain⟨t,q⟩:=(show ∃t,u=Value.str y t from rx);cases q;exact waJ PySem.W.kitx_str I.kIn True.intro e (fun z=>nomatch z) h
 | flt y=>obtain⟨t,q⟩:=(show ∃t,u=Value.float y t from rx);cases q;exact waJ PySem.W.kitx_float I.kIn True.intro e (fun z=>nomatch z) h
 | @lst a xs ea=>
   cases(show u=Value.ref a from rx);obtain⟨_,_,n,_,h1⟩:=(show ObjOk X.prog X.w H s.heap a (.lst xs) from I.hok a _ ea)
   exact waJ PySem.W.kitx_list I.kIn ⟨_,h1,rfl⟩ e (fun z=>nomatch z) h
 | @frz a ob xs ea=>
   cases(show u=Value.ref a from rx);obtain⟨_,_,_,n,_,h1⟩:=(show ObjOk X.prog X.w H s.heap a (.frz ob (.lst xs)) from I.hok a _ ea)
   exact waJ PySem.W.kitx_list I.kIn ⟨_,h1,rfl⟩ e (fun z=>nomatch z) h
 | @tup a xs ea=>
   cases(show u=Value.ref a from rx);obtain⟨_,_,_,p⟩:=(show ObjOk X.prog X.w H s.heap a (.tup xs) from I.hok a _ ea)
   obtain⟨o,h1,h2,_⟩:=p;exact waJ PySem.W.kitx_tuple I.kIn ⟨o,h1,h2⟩ e (fun z=>nomatch z) h
 | @dK a kvs ea=>
   cases(show u=Value.ref a from rx);obtain⟨_,_,vs,_,p⟩:=(show ObjOk X.prog X.w H s.heap a (.dK kvs) from I.hok a _ ea)
   obtain⟨o,es,ep,h1,h2,_⟩:=p;exact waJ PySem.W.kitx_dict I.kIn ⟨o,h1,h2.1⟩ e (fun z=>nomatch z) h
 | @dT a kvs ea=>
   cases(show u=Value.ref a from rx);obtain⟨_,_,xs,_,o,es,ep,h1,h2,_⟩:=(show ObjOk X.prog X.w H s.heap a (.dT kvs) from I.hok a _ ea)
   exact waJ PySem.W.kitx_dict I.kIn ⟨o,h1,h2.1⟩ e (fun z=>nomatch z) h
 | @ins a C dx fs ea cl ha hn htk hm=>
   cases(show u=Value.ref a from rx);obtain⟨mA,O,_⟩:=zkV I.hok ea;obtain⟨od,J,_⟩:=O.look;exact waJ (PySem.W.kitx_own (cl.get _) cl.hd ha hn htk hm) I.kIn J e (fun z=>nomatch z) h
end
structure Room (k:Nat)(A:Around):Prop where
 hd:A.handled=none
 dp:A.depth+3*k+5<recursionLimit
 un:A.units+16*k+200<cLine
 gd:A.guards=some []
theorem Room.mono {j k:Nat}{A:Around}(r:Room k A)(h:j<=k):Room j A:=⟨r.hd,by have:=r.dp;omega,by have:=r.un;omega,r.gd⟩
theorem Room.deeper {k:Nat}{A:Around}(r:Room (k+1) A)(env:Env):Room k (A.deeper env):=
 ⟨r.hd,by have:=r.dp;show A.depth+1+3*k+5<_;omega,by have:=r.un;show A.units+3+16*k+200<_;omega,r.gd⟩
theorem make_units {A:Around}{C:Addr}{us:List Value}{kw:List (Str×Value)}:(A.under (.builtin "type.__call__" ⟨.ref C::us,kw⟩)).units=A.units+1:=by
 first | rfl | simp[Around.under,Code.cUnits,Code.frames,Code.isFrame]
theorem Room.depth {k:Nat}{A:Around}(r:Room k A):A.depth<recursionLimit:=by have:=r.dp;omega
theorem Room.units {k:Nat}{A:Around}(r:Room k A):A.units+64<cLine:=by have:=r.un;omega
def tNil:TA:=fun _ H Q=>Q [] H
def zi0 (ta:TE)(tr:TA):TA:=fun σ H Q=>ta σ H fun x H1=>tr σ H1 fun xs H2=>Q (x::xs) H2
section
variable {X:Cx}{e:Expr}{es:List Expr}{te:TE}{t:TA}{pos:Pos}
theorem zbA:PA X [] tNil:=fun _ _ _ _ H Q I h=>Calls.spliced_nil ⟨[],H,I,.nil,h⟩
theorem zaC (ha:PE X e te)(hr:PA X es t)(hs:starEach (e::es) X.env=(false,eval e X.env)::starEach es X.env:=by rfl):PA X (e::es) (zi0 te t):=by
 intro pos pins s σ H Q I h;rw[hs];show wpAny _ _ (spliced ((false,eval e X.env)::backTo pos (starEach es X.env))) _ _ s
 refine Calls.spliced_cons (thn (ha pins s σ H _ I h) fun u s1 ⟨x,H1,I1,r1,q1⟩ =>?_);exact thn (hr pos pins s1 σ H1 _ I1 q1) fun us s2 ⟨xs,H2,I2,r2,q2⟩ =>⟨x::xs,H2,I2,.cons r1 r2,q2⟩
def tTup (t:TA):TE:=fun σ H Q=>t σ H fun xs H1=>xs.length<=sizeLine/\∀p,H1 p=none->Q (.ref p) (upd H1 p (.tup xs))
def tLst (t:TA):TE:=fun σ H Q=>t σ H fun xs H1=>xs.length<=sizeLine/\∀p,H1 p=none->Q (.ref p) (upd H1 p (.lst xs))
theorem zhs {x1}(h:PA X es t):PE X (.Tuple es x1 pos) (tTup t):=by
 intro pins s σ H Q I hq;refine wpAny_Tuple_spliced (thn (h pos pins s σ H _ I hq) fun us s1 ⟨xs,H1,I1,r,z,q⟩ =>⟨by rw[<-r.length];exact z,?_⟩);have hf:H1 s1.heap.objs.size=none:=I1.hok.fresh (wan _)
 refine⟨.ref s1.heap.objs.size,upd H1 s1.heap.objs.size (.tup xs),I1.laid (t':=s1.toks) (fun b u e=>wac _ e) (wan _) ?_,rfl,q _ hf⟩;exact⟨z,us,r,⟨_,wav _ rfl,rfl,_,rfl⟩⟩
theorem zht (h:PA X es t):PE X (.List es pos) (tLst t):=by
 intro pins s σ H Q I hq;refine wpAny_List_spliced (thn (h pos pins s σ H _ I hq) fun us s1 ⟨xs,H1,I1,r,z,q⟩ =>⟨by rw[<-r.length];exact z,?_⟩);have hf:H1 s1.heap.objs.size=none:=I1.hok.fresh (wan _)
 refine⟨.ref s1.heap.objs.size,upd H1 s1.heap.objs.size (.lst xs),I1.laid (t':=s1.toks) (fun b u e=>wac _ e) (wan _) ?_,rfl,q _ hf⟩;exact⟨z,us,0,r,wav _ rfl⟩
end
abbrev Sp:=List V->Hp->VK->XK->Prop
abbrev CXT:=List Env->Hp->Shared->XK->Value->Shared->Prop
structure Env0 (P:Program)(w:World)(K:W.Frag)(mg:Str->Option Value)(base:Heap)(A:Around)(outer:List Env)(s:Shared)(H:Hp):Prop where
 frames:A.frames=some outer
 mod:Mod K mg base
 bs:∀b o,base.get? b=some o->s.heap.get? b=some o/\H b=none
 bsz:base.objs.size<=s.heap.objs.size
 funs:s.heap.FunFrames base outer
 frf:∀b∈frs outer,H b=none
 hok:HOk P w H s.heap
 bare:AllBare s.gens
def CE (outer:List Env)(P:Program)(w:World)(H:Hp)(s:Shared)(Q:VK)(u:Value)(s':Shared):Prop:=
 ∃v H',s'.os=s.os/\AllBare s'.gens/\Un (frs outer) [] H H' s.heap s'.heap/\HOk P w H' s'.heap/\RelV v u/\Q v H'
def CR (CX:CXT)(outer:List Env)(P:Program)(w:World)(H:Hp)(s:Shared)(Q:VK)(E:XK)(r:Result)(s':Shared):Prop:=
 match r with
 | .ok (.ret u)=>CE outer P w H s Q u s'
 | .ok _=>False
 | .error e=>CX outer H s E e s'
structure FnOk (P:Program)(w:World)(K:W.Frag)(mg:Str->Option Value)(base:Heap)(CX:CXT)(k:Nat)(f:Addr)(fd:FuncData)(ps:List Str)(sp:Sp):Prop where
 len:∀vs H Q E,sp vs H Q E->vs.length=ps.length
 run:∀(A:Around) (outer:List Env) (s:Shared) (H:Hp) (args:Args) (us:List Value) (vs:List V) (Q:VK) (E:XK),Room k A->Env0 P w K mg base A outer s H->BindsTo s fd args (ps.zip us)->Vals vs us->sp vs H Q E->
  codeAny (model P w) A (.call (.ref f) args) (CR CX outer P w H s Q E) s
theorem FnOk.mono {P:Program}{w:World}{K:W.Frag}{mg:Str->Option Value}{base:Heap}{CX:CXT}{j k:Nat}{f:Addr}{fd:FuncData}{ps:List Str}{sp:Sp}(F:FnOk P w K mg base CX j f fd ps sp)(h:j<=k) :
 FnOk P w K mg base CX k f fd ps sp:=⟨F.len,fun A outer s H args us vs Q E hr=>F.run A outer s H args us vs Q E (hr.mono h)⟩
section
variable {X:Cx}{pins:List (Addr×Obj)}{σ:St}{H:Hp}{s s':Shared}
theorem Inv.env0 (I:Inv X pins σ H s):Env0 X.prog X.w X.K X.mg X.base X.A X.stack s H:=
 ⟨I.ok.frames,I.ok.mod,I.bs,wai I.ok.bsz I.sz,I.stack,I.stkFree,I.hok,I.bare⟩
theorem Inv.after {Q:VK}{u:Value}(I:Inv X pins σ H s)(h:CE X.stack X.prog X.w H s Q u s'):EP X pins σ Q u s':=by
 obtain⟨v,H',os,bare,un,hok,r,q⟩:=h;obtain⟨hh,g,d,t,os'⟩:=s';obtain rfl:os'=s.os:=os;exact⟨v,H',I.call (h':=hh) (g':=g) (d':=d) (t':=t) (ch:=[]) un hok bare (fun b z=>absurd z (by simp)),r,q⟩
end
def zgT (sp:Sp)(dvs:List V)(E:XK)(t:TA):TE:=fun σ H Q=>t σ H fun vs H1=>sp (vs++dvs) H1 Q E
def Binds (K:W.Frag)(fd:FuncData)(ps:List Str)(ds:List Value):Prop:=
 ∀(s:Shared) (us:List Value),K.In s.heap->(us++ds).length=ps.length->BindsTo s fd ⟨us,[]⟩ (ps.zip (us++ds))
theorem Binds.all {K:W.Frag}{fd:FuncData}{ps:List Str}(h:∀us:List Value,us.length=ps.length->bindArgs fd ⟨us,[]⟩=pure (ps.zip us)):Binds K fd ps []:=fun s us _ hl=>by
 rw[waC] at hl⊢;exact .of_eq (h us hl)
def zga (CX:CXT)(X:Cx)(E:XK):Prop:=∀(pins:List (Addr×Obj)) (σ:St) (H:Hp) (s:Shared) (e:Value) (s':Shared),Inv X pins σ H s->CX X.stack H s E e s'->X.xe e s'
section
variable {X:Cx}{CX:CXT}{k:Nat}{f C:Addr}{fd:FuncData}{ps:List Str}{sp:Sp}{dvs:List V}{ds:List Value}{E:XK}{x m:Str}{p pos apos:Pos}{e o:Expr}{es:List Expr}{ta:TE}{t:TA}
theorem zkf {pins:List (Addr×Obj)}{σ:St}{H:Hp}{s:Shared}{Q:VK}{us:List Value}{vs:List V}(F:FnOk X.prog X.w X.K X.mg X.base CX k f fd ps sp)(hr:Room k X.A)(hb:Binds X.K fd ps ds)(hd:Vals dvs ds)(hx:zga CX X E)
 (I:Inv X pins σ H s) (r:Vals vs us) (h:sp (vs++dvs) H Q E):wpAny (model X.prog X.w) X.A (call (.ref f) us) (EP X pins σ Q) X.xe s:=by
 have r2:Vals (vs++dvs) (us++ds):=r.append hd
 have hl:(us++ds).length=ps.length:=by rw[<-r2.length];exact F.len _ _ _ _ h
 refine wci (wca (F.run X.A X.stack s H ⟨us,[]⟩ (us++ds) (vs++dvs) Q E hr I.env0 (hb s us I.kIn hl) r2 h) fun r s' hq=>?_);cases r with
 | error e=>exact hx pins σ H s e s' I hq
 | ok fl=>
   cases fl with
   | ret u=>exact I.after hq
   | next=>exact False.elim hq
   | brk=>exact False.elim hq
   | cont=>exact False.elim hq
theorem zkX (F:FnOk X.prog X.w X.K X.mg X.base CX k f fd ps sp)(hr:Room k X.A)(hg:Gl X x)(hm:X.mg x=some (.ref f))(hk:W.keepIn X.K (.ref f)=true)(hb:Binds X.K fd ps ds)(hd:Vals dvs ds)(hx:zga CX X E)
 (ha:PA X (e::es) t) (hdb:(x == ("__debug__" : Str))=false:=by decide) (he:starEach (e::es) X.env=(false,eval e X.env)::starEach es X.env:=by rfl) (hpl:(backTo pos (starEach es X.env)).any (·.1)=false:=by rfl) :
 PE X (.Call (.Name x p) (e::es) [] pos) (zgT sp dvs E t):=by
 intro pins s σ H Q I h;refine waR (zc1 I hg hm ?_ hdb);refine wbQ (h₀:=X.base) I.ok.mod.kin hk (thn (ha pos pins s σ H _ I h) fun us s1 ⟨vs,H1,I1,r,q⟩ =>⟨I1.kIn,?_⟩) he hpl;exact zkf F hr hb hd hx I1 r q
end
section
variable {X:Cx}{CX:CXT}{k:Nat}{f C:Addr}{fd:FuncData}{ps ks:List Str}{sp:Sp}{E:XK}{x m:Str}{p pos apos kpos:Pos}{e o:Expr}{es:List Expr}{kws:List Keyword}{te ta:TE}{t tk:TA}{nm:Option Str}
variable {g:List Value->List Value->List Value}{gV:List V->List V->List V}
end
structure FnScope (N P:List Str)(sc:Scope):Prop where
 kind:sc.kind=.function
 co:sc.isCoroutine=false
 gen:sc.isGenerator=false
 nd:N.Nodup
 pre:N.take P.length=P
 par:∀x∈P,sc.names.lookup x=some .local\/sc.names.lookup x=some .cell
 nofree:∀y∈sc.names,y.2≠.free
theorem zeN {kindOf:Str->Option NameKind}{x:Str}:∀{binds:List (Str×Value)}{m:Str->Option Value},(∀v,(x,v)∉binds)->bindL kindOf binds m x=m x
 | [],_,_=>rfl
 | (n,v)::r,m,h=>by
   unfold bindL;rw[zeN fun w hw=>h w (waf _ hw)];split
   ·have:x≠n:=by rintro rfl;exact h v wal
    simp[this]
   ·rfl
theorem zeO {kindOf:Str->Option NameKind}{x:Str}:∀{binds:List (Str×Value)}{m:Str->Option Value},(∀v,(x,v)∉binds)->bindC kindOf binds m x=m x
 | [],_,_=>rfl
 | (n,v)::r,m,h=>by
   unfold bindC;rw[zeO fun w hw=>h w (waf _ hw)];split
   ·rfl
   ·have:x≠n:=by rintro rfl;exact h v wal
    simp[this]
theorem zeP {kindOf:Str->Option NameKind}{x:Str}{v:Value}:∀{P:List Str}{vs:List Value}{i:Nat}{m:Str->Option Value},P.Nodup->P[i]?=some x->vs[i]?=some v->kindOf x=some .local->
 bindL kindOf (P.zip vs) m x=some v
 | [],_,_,_,_,h,_,_=>by simp at h
 | _::_,[],_,_,_,_,h,_=>by simp at h
 | p::P,w::vs,0,m,nd,h1,h2,hk=>by
   simp at h1 h2;subst h1;subst h2;show bindL kindOf ((p,w)::P.zip vs) m p=_
   unfold bindL;rw[zeN fun v hv=>(waF.mp nd).1 (List.of_mem_zip hv).1,if_pos hk];simp
 | p::P,w::vs,i+1,m,nd,h1,h2,hk=>by
   show bindL kindOf ((p,w)::P.zip vs) m x=_
   unfold bindL;exact zeP (i:=i) (waF.mp nd).2 (by simpa using h1) (by simpa using h2) hk
theorem zeQ {kindOf:Str->Option NameKind}{x:Str}{v:Value}:∀{P:List Str}{vs:List Value}{i:Nat}{m:Str->Option Value},P.Nodup->P[i]?=some x->vs[i]?=some v->kindOf x≠some .local->
 bindC kindOf (P.zip vs) m x=some v
 | [],_,_,_,_,h,_,_=>by simp at h
 | _::_,[],_,_,_,_,h,_=>by simp at h
 | p::P,w::vs,0,m,nd,h1,h2,hk=>by
   simp at h1 h2;subst h1;subst h2;show bindC kindOf ((p,w)::P.zip vs) m p=_
   unfold bindC;rw[zeO fun v hv=>(waF.mp nd).1 (List.of_mem_zip hv).1,if_neg hk];simp
 | p::P,w::vs,i+1,m,nd,h1,h2,hk=>by
   show bindC kindOf ((p,w)::P.zip vs) m x=_
   unfold bindC;exact zeQ (i:=i) (waF.mp nd).2 (by simpa using h1) (by simpa using h2) hk
def start (N:List Str)(vs:List V):St:=vs.map some++List.replicate (N.length - vs.length) none
def cxOf (CX:CXT)(P:Program)(w:World)(K:W.Frag)(mg:Str->Option Value)(base:Heap)(N:List Str)(qual:Str)(scope:Scope)(f:Addr)(cd:Value)(A:Around)(outer:List Env)(s:Shared)(H:Hp)(E:XK):Cx where
 prog:=P
 w:=w
 K:=K
 mg:=mg
 base:=base
 A:=A.deeper (envOfC qual scope s.heap.objs.size f cd)
 N:=N
 s₀:=s
 Hz:=H
 env:=envOfC qual scope s.heap.objs.size f cd
 outer:=outer
 stack:=envOfC qual scope s.heap.objs.size f cd::outer
 ex:=[]
 calm:=true
 fn:=fun _=>true
 pn:=[]
 xe:=fun e s'=>wpAny (model P w) (A.deeper (envOfC qual scope s.heap.objs.size f cd)) (leaving (envOfC qual scope s.heap.objs.size f cd) e) (fun _ s''=>CX outer H s E e s'') (fun e' s''=>CX outer H s E e' s'') s'
theorem zbM {sc:Scope}{n:Nat}{x:Str}(h:sc.names.lookup x=some .cell):∃c,(cellsFrom n sc.names []).lookup x=some c:=by
 have q:=PySem.W.cellsFrom_some sc.names n [] (.inl h)
 exact Option.isSome_iff_exists.mp q
theorem zhu {CX:CXT}{P:Program}{w:World}{K:W.Frag}{mg:Str->Option Value}{base:Heap}{N ps:List Str}{qual:Str}{scope:Scope}{f:Addr}{cd:Value}{A:Around}{outer:List Env}{s s1:Shared}{H:Hp}{E:XK}{us:List Value}{vs:List V}
 (S:FnScope N ps scope) (hd:A.handled=none) (e0:Env0 P w K mg base A outer s H) (hl:vs.length=ps.length) (r:Vals vs us)
 (x:InCallC s s.heap.objs.size (bindL (envOfC qual scope s.heap.objs.size f cd).kindOf (ps.zip us) fun _=>none) (cellsFrom (s.heap.objs.size+1) scope.names []) (bindC (envOfC qual scope s.heap.objs.size f cd).kindOf (ps.zip us) fun _=>none) s1) :
 Inv (cxOf CX P w K mg base N qual scope f cd A outer s H E) [] (start N vs) H s1:=by
 have hpl:ps.length<=N.length:=by have:=waN List.length S.pre;rw[waK] at this;omega
 obtain⟨h1,tk,rfl,hk⟩:=x.done;have noA:∀b:Addr,b∉(cxOf CX P w K mg base N qual scope f cd A outer s H E).ex:=fun b z=>absurd (show b∈([]:List Addr) from z) (by simp)
 refine⟨⟨e0.mod,S.kind,rfl,rfl,wan _,fun y z c h1 h2=>?_,fun y hy=>?_,fun y c _ h=>?_,fun _=>hd,Around.frames_deeper e0.frames,.inr ⟨rfl,rfl⟩,fun b z=>absurd z (noA b),e0.bs,e0.bsz,fun b _ _=>noA b,fun b z=>absurd z (noA b),e0.funs,e0.frf⟩,
  rfl,e0.bare,Un.kept hk,⟨_,x.toInCall.ns,fun i y v h1 h2 h3=>?_⟩,fun y c h=>⟨_,x.cell y c h⟩,e0.hok.fresh (wan _),fun y c h=>?_,fun p hp=>absurd (show p∈([]:List (Addr×Obj)) from hp) (by simp),e0.hok.kept hk,?_⟩
 ·exact name_of_addr x.apart (wbx h1) (wbx h2)
 ·have hy:scope.names.lookup y=some .cell\/scope.names.lookup y=some .free:=hy
  rcases hy with hy | hy
  ·exact zbM hy
  ·exact absurd rfl (S.nofree _ (wbx hy))
 ·exact waW (x.above y c (wbx h))
 ·have hi:i<vs.length:=by
   unfold start at h2;by_cases hi:i<vs.length
   ·exact hi
   ·rw[wbH (by simpa using hi)] at h2;rw[List.getElem?_replicate] at h2;split at h2 <;> cases h2
  have ha:vs[i]?=some v:=by
   unfold start at h2;rw[wbd (by simpa using hi),wam] at h2;cases e:vs[i]? with
   | none=>rw[e] at h2;cases h2
   | some a=>rw[e] at h2;cases h2;rfl
  obtain⟨u,hu,rv⟩:=r.get ha;have hp:ps[i]?=some y:=by
   rw[<-S.pre,List.getElem?_take_of_lt (by omega)];exact h1
  have ndP:ps.Nodup:=by rw[<-S.pre];exact S.nd.sublist (List.take_sublist _ _)
  refine⟨u,rv,?_⟩;rcases S.par y (waA hp) with k | k
  ·exact .inl ⟨k,zeP ndP hp hu k⟩
  ·obtain⟨c,e⟩:=zbM (n:=s.heap.objs.size+1) k;refine .inr ⟨.inl k,c,e,?_⟩;have q:=x.cell y c e
   rw[zeQ ndP hp hu (by show scope.names.lookup y≠_;rw[k];decide)] at q;exact q
 ·exact e0.hok.fresh (waW (x.above y c (wbx h)))
 ·unfold start;show _=N.length
  rw[was,wao,wbg];omega
theorem zkY {CX:CXT}{P:Program}{w:World}{K:W.Frag}{mg:Str->Option Value}{base:Heap}{k:Nat}{f:Addr}{name qual:Str}{params:Arguments}{body:List Stmt}{scope:Scope}{dV kV doc pm cdv ct oc:Value}{an od:Option Addr}
 {osl:Array (Option Value)}{N ps:List Str}{sp:Sp}(lk:K.lookup f=some ⟨oc,od,.func (W.fnOf name qual params body scope dV kV doc pm an cdv ct),osl⟩) (hcd:W.codeIn K cdv qual=true) (S:FnScope N ps scope)
 (len:∀vs H Q E,sp vs H Q E->vs.length=ps.length)
 (hbody:∀(A:Around) (outer:List Env) (s:Shared) (H:Hp) (vs:List V) (Q:VK) (E:XK),Room k (A.deeper (envOfC qual scope s.heap.objs.size f cdv))->sp vs H Q E->
  ∃t,PSs (cxOf CX P w K mg base N qual scope f cdv A outer s H E) body t/\t {nx:=fun _ H'=>Q .non H',rt:=Q} (start N vs) H) :
 FnOk P w K mg base CX (k+1) f (W.fnOf name qual params body scope dV kV doc pm an cdv ct) ps sp:=by
 refine⟨len,fun A outer s H args us vs Q E hr e0 hb r hsp=>?_⟩;have hl:=len _ _ _ _ hsp
 have KX:K.In s.heap:=e0.mod.kin.keeps fun b o e=>(e0.bs b o e).1
 have lim:s.heap.NoLimit:=e0.mod.nolimit.keeps fun b o e=>(e0.bs b o e).1
 have hkind:∀y∈ps.zip us,scope.names.lookup y.1=some .local\/(scope.names.lookup y.1=some .cell/\((cellsFrom (s.heap.objs.size+1) scope.names []).lookup y.1).isSome=true):=fun⟨n,v⟩ hy=>by
  rcases S.par n (List.of_mem_zip hy).1 with q | q
  ·exact .inl q
  ·exact .inr ⟨q,PySem.W.cellsFrom_some _ _ _ (.inl q)⟩
 refine codeAny_call_function hr.depth (KX _ _ lk) rfl S.co S.gen rfl (PySem.W.codeRec_of KX hcd) (hb _ _ _ _ ?_);refine wpAny_newFunctionEnv_cells S.kind hkind fun env he s1 x=>?_
 subst he;refine⟨lim.keeps x.toInCall.keep,codeAny_func ?_⟩;obtain⟨t,ht,hq⟩:=hbody A outer s H vs Q E (hr.deeper _) hsp;have I:Inv (cxOf CX P w K mg base N qual scope f cdv A outer s H E) [] (start N vs) H s1:=zhu S hr.hd e0 hl r x
 refine waG (ht [] s1 (start N vs) H _ I hq) (fun fl s' hs=>?_) fun e s' hs=>hs
 have fin:∀{σ':St}{H':Hp}{v:V}{u:Value},Inv (cxOf CX P w K mg base N qual scope f cdv A outer s H E) [] σ' H' s'->RelV v u->Q v H'->CE outer P w H s Q u s':=
  fun {σ' H' v u} J rv q=>⟨v,H',J.os,J.bare,J.base,J.hok,rv,q⟩
 cases fl with
 | ret u=>
   obtain⟨v,σ',H',J,rv,q⟩:=hs;exact fin J rv q
 | next=>
   obtain⟨σ',H',J,q⟩:=hs;exact fin (v:=V.non) (u:=Value.none) J rfl q
 | brk=>
   obtain⟨_,_,_,q⟩:=hs;exact False.elim q
 | cont=>
   obtain⟨_,_,_,q⟩:=hs;exact False.elim q
section
variable {X:Cx}{x:Str}{p pos:Pos}{e:Expr}{es:List Expr}{t:TA}{id T:String}{r:List V->Hp->VK->Prop}
def tCB (r:List V->Hp->VK->Prop)(t:TA):TE:=fun σ H Q=>t σ H fun vs H1=>r vs H1 Q
theorem zi1 (hc:zcs X (.builtin id) r)(hg:Gl X x)(hm:X.mg x=none)(hv:bootBuiltins x=some (.builtin id))(ha:PA X (e::es) t)(hn:x≠"__name__":=by decide)(hdb:(x == ("__debug__" : Str))=false:=by decide)
 (he:starEach (e::es) X.env=(false,eval e X.env)::starEach es X.env:=by rfl) (hpl:(backTo pos (starEach es X.env)).any (·.1)=false:=by rfl):PE X (.Call (.Name x p) (e::es) [] pos) (tCB r t):=by
 intro pins s σ H Q I h;refine waR (zc9 I hg hm hv ?_ hn hdb);exact PyProof.Rows.callWith_builtin1 (thn (ha pos pins s σ H _ I h) fun us s1 ⟨vs,H1,I1,r1,q1⟩ =>hc pins s1 σ H1 vs us Q I1 r1 q1) he hpl
theorem zhv (hc:zcs X (.type T) r)(hg:Gl X x)(hm:X.mg x=none)(hv:bootBuiltins x=some (.type T))(ha:PA X (e::es) t)(hn:x≠"__name__":=by decide)(hdb:(x == ("__debug__" : Str))=false:=by decide)
 (he:starEach (e::es) X.env=(false,eval e X.env)::starEach es X.env:=by rfl) (hpl:(backTo pos (starEach es X.env)).any (·.1)=false:=by rfl):PE X (.Call (.Name x p) (e::es) [] pos) (tCB r t):=by
 intro pins s σ H Q I h;refine waR (zc9 I hg hm hv ?_ hn hdb);exact waO (thn (ha pos pins s σ H _ I h) fun us s1 ⟨vs,H1,I1,r1,q1⟩ =>hc pins s1 σ H1 vs us Q I1 r1 q1) he hpl
end
end L2
namespace HT
open PySem PyProof.Rows
theorem zem (A:Around)(s:Shared)(a:Int)(t:Tok)(c:Int)(u:Tok):∃e,SeqAt.EqAt A s (.int a t) (.int c u) e/\(e=true↔a=c):=
 ⟨(a == c),SeqAt.EqAt.int_int a t c u,by simp⟩
section
open PySem.SeqAt
open PySem.AutoSeq1 (wpAny_loadPart')
open PySem.MeetsSeq PySem.MeetsSeq2 PySem.MeetsSeq3
end
section
variable {prog:Program}{w:World}{A:Around}{E:Value->Shared->Prop}{s:Shared}
theorem cat_tup {t b:Addr}{vs ws:List Value}{Q:Value->Shared->Prop}(ht:IsTup s.heap t vs.toArray)(hb:IsTup s.heap b ws.toArray)(hv:vs≠[])
 (h1:ws = []->Q (.ref t) s) (h2:ws≠[]->Q (.ref s.heap.objs.size) {s with heap:=s.heap.push {cls:=.type "tuple",data:=.seq (vs++ws).toArray}})
 (hsz:vs.length+ws.length<=sizeLine):wpAny (model prog w) A (binaryOp .Add (.ref t) (.ref b)) Q E s:=by
 obtain⟨⟨cls,dd,data,sl⟩,ho,hc,n,hd⟩:=id ht;obtain⟨⟨cls2,dd2,data2,sl2⟩,ho2,hc2,n2,hd2⟩:=id hb;simp only at hc hd hc2 hd2;subst hc hd hc2 hd2;have e:vs.toArray++ws.toArray=(vs++ws).toArray:=by simp
 by_cases hw:ws = []
 ·exact concat_meets ⟨_,ho,rfl⟩ ⟨_,ho2,rfl⟩ noFill_tuple_add seq_tuple_add wbX wbR (wbM _ _)
   (tuple_addW1 t b vs.toArray ws.toArray n n2 dd dd2 sl sl2 (by simpa using hv) (by simp[hw])) ⟨ho,ho2,h1 hw⟩
 ·refine concat_meets ⟨_,ho,rfl⟩ ⟨_,ho2,rfl⟩ noFill_tuple_add seq_tuple_add wbX wbR (wbM _ _)
   (tuple_addW2 t b vs.toArray ws.toArray n n2 dd dd2 sl sl2 (by simpa using hv) (by simpa using hw) (by rw[wab,wab];exact hsz)) ⟨ho,ho2,?_⟩
  rw[e];exact h2 hw
def sIx (n d:Nat):Option Int->Nat
 | none=>d
 | some v=>if v<0 then(v+(n:Int)).toNat else min v.toNat n
theorem zmF (n d:Nat)(hd:d<=n)(o:Option Int):sIx n d o<=n:=by
 cases o with
 | none=>exact hd
 | some v=>
   show(if v<0 then(v+(n:Int)).toNat else min v.toNat n)<=n
   by_cases hv:v<0
   ·rw[if_pos hv];omega
   ·rw[if_neg hv];exact Nat.min_le_right _ _
theorem zhw (v:Int)(n d:Nat):(if v<0 then max (v+(n:Int)) 0 else min v (n:Int))=((sIx n d (some v):Nat):Int):=by
 show(if v<0 then max (v+(n:Int)) 0 else min v (n:Int))=(((if v<0 then(v+(n:Int)).toNat else min v.toNat n):Nat):Int)
 by_cases hv:v<0
 ·simp only[if_pos hv];omega
 ·simp only[if_neg hv];omega
theorem zgU (lo hi:Option Int)(n:Nat):Builtin.Slice.sliceAdjust lo hi 1 (n:Int)=(((sIx n 0 lo:Nat):Int),((sIx n n hi:Nat):Int)):=by
 have h1:¬((1:Int)<0):=by omega
 unfold Builtin.Slice.sliceAdjust;simp only[h1,if_false];refine Prod.ext ?_ ?_
 ·cases lo with
  | none=>rfl
  | some v=>exact zhw v n 0
 ·cases hi with
  | none=>rfl
  | some v=>exact zhw v n n
theorem zgV (i j:Nat):Builtin.Slice.slicePlaces (i:Int) (j:Int) 1=j - i:=by
 unfold Builtin.Slice.slicePlaces;have h1:(1:Int)>0:=by omega
 simp only[h1,if_true,Int.ediv_one];split <;> omega
theorem zd3 {v:Value}{o:Option Int}{Q:Option Int->Shared->Prop}(p:IsPart v o)(h:Q o s):wpAny (model prog w) A (Builtin.Slice.slicePartIndex v) Q E s:=by
 cases p with
 | none=>exact slicePart_none h
 | int i t=>exact slicePart_int h
theorem zdf {sl:Addr}{vl vu:Value}{lo hi:Option Int}{n:Nat}{Q:Int×Int×Nat->Shared->Prop}(hs:s.heap.IsSliceOf sl vl vu .none)(pl:IsPart vl lo)(pu:IsPart vu hi)
 (h:Q (((sIx n 0 lo:Nat):Int),1,sIx n n hi - sIx n 0 lo) s):wpAny (model prog w) A (Builtin.Slice.sliceApplied (.ref sl) (pure (n:Int))) Q E s:=by
 obtain⟨os,hos,hcs,hds⟩:=id hs;unfold Builtin.Slice.sliceApplied Builtin.Slice.sliceFields;refine waa (waa (waS hos hds (x:=vl) rfl (waa (waS hos hds (x:=vu) rfl (waa (waS hos hds (x:=.none) rfl (wah ?_)))))));refine waa (slicePart_none ?_);show wpAny _ _ (if((1:Int) == 0)=true then _ else _) _ _ s
 rw[if_neg (by decide)];refine waa (zd3 pl (waa (zd3 pu (waa (wah ?_)))));show wpAny _ _ (match Builtin.Slice.sliceAdjust lo hi 1 (n:Int) with | (lo,hi)=>pure (lo,(1:Int),Builtin.Slice.slicePlaces lo hi 1)) _ _ s
 rw[zgU lo hi n];show wpAny _ _ (pure (((sIx n 0 lo:Nat):Int),(1:Int),Builtin.Slice.slicePlaces ((sIx n 0 lo:Nat):Int) ((sIx n n hi:Nat):Int) 1)) _ _ s
 rw[zgV];exact wah h
theorem zi2 (xs:Array Value)(i k:Nat):((List.range k).filterMap fun(m:Nat)=>xs[((i:Int)+(m:Int)*1).toNat]?).toArray=((xs.toList.drop i).take k).toArray:=by
 have e:(fun(m:Nat)=>xs[((i:Int)+(m:Int)*1).toNat]?)=fun m=>xs[i+m]?:=by
  funext m
  have:((i:Int)+(m:Int)*1).toNat=i+m:=by omega
  rw[this]
 rw[e];have:=pick_run xs i k
 rw[List.filterMap_map] at this;have e2:((fun x=>xs[x]?)∘fun x=>i+x)=fun m=>xs[i+m]?:=rfl
 rw[e2] at this;rw[this]
theorem getItem_tuple_cut {t sl:Addr}{items:Array Value}{vl vu:Value}{lo hi:Option Int}{Q:Value->Shared->Prop}(ht:IsTup s.heap t items)(hs:s.heap.IsSliceOf sl vl vu .none)(pl:IsPart vl lo)(pu:IsPart vu hi)
 (hw:¬(sIx items.size 0 lo=0/\sIx items.size items.size hi=items.size))
 (h:Q (.ref s.heap.objs.size) {s with heap:=s.heap.push {cls:=.type "tuple",data:=.seq ((items.toList.drop (sIx items.size 0 lo)).take (sIx items.size items.size hi - sIx items.size 0 lo)).toArray}})
 (hsz:items.size<=sizeLine):wpAny (model prog w) A (getItem (.ref t) (.ref sl)) Q E s:=by
 have htake:sizeOk (.seq ((items.toList.drop (sIx items.size 0 lo)).take (sIx items.size items.size hi - sIx items.size 0 lo)).toArray):=by
  show((items.toList.drop (sIx items.size 0 lo)).take (sIx items.size items.size hi - sIx items.size 0 lo)).toArray.size<=sizeLine
  rw[wab,waK,List.length_drop,wck];omega
 have hj:sIx items.size items.size hi<=items.size:=zmF _ _ (wan _) hi
 obtain⟨os,hos,hcs,hds⟩:=id hs;have hTs:s.TypeIs (.ref sl) "slice":=⟨os,hos,hcs⟩
 unfold getItem;try with_reducible refine wbw ?_
 first | refine waa (wah ?_) | skip
 refine waa (wpAny_sequenceKey ht.typeIs (by decide) ?_);refine waa (wbS (name:=Str.ofString "__getitem__") ht.typeIs PyProof.Rows.slot_tuple_getitem
  (wbL PyProof.Rows.slot_tuple_getitem ht.typeIs entry_tuple_getitem ?_ (args_tuple_getitem _ _)))
 show wpAny _ _ (Builtin.Tuple.tupleItemsOf (.ref t) >>= _) _ _ s
 refine waa (tupleItemsOf_ ht ?_);refine waa (wpAny_typeOf hTs ?_);rw[if_pos (by decide)];refine waa (zdf hs pl pu ?_);have hno:¬((((sIx items.size 0 lo:Nat):Int) == 0&&(1:Int) == 1&&(sIx items.size items.size hi - sIx items.size 0 lo) == items.size)=true):=by
  intro q;rw[waB,waB] at q;have q1:((sIx items.size 0 lo:Nat):Int)=0:=eq_of_beq q.1.1
  have q2:sIx items.size items.size hi - sIx items.size 0 lo=items.size:=eq_of_beq q.2
  exact hw ⟨by omega,by omega⟩
 show wpAny _ _ (if(((sIx items.size 0 lo:Nat):Int) == 0&&(1:Int) == 1&&(sIx items.size items.size hi - sIx items.size 0 lo) == items.size)=true then _ else _) _ _ s
 rw[if_neg hno,zi2];first
  | exact waa (m:=Builtin.Tuple.tupleExact _) (wbb (wah ⟨_,rfl,wah h⟩) htake)
  | exact waa (m:=Builtin.Tuple.tupleExact _) (wbb (waa (wah (wah ⟨_,rfl,wah h⟩))) htake)
  | exact waa (waa (m:=Builtin.Tuple.tupleExact _) (wbb (wah (wah ⟨_,rfl,wah h⟩)) htake))
  | exact waa (waa (m:=Builtin.Tuple.tupleExact _) (wbb (wah ⟨_,rfl,wah h⟩) htake))
end
end HT
namespace L2
open PySem PySem.Spec PyProof.Rows
abbrev TO:=St->Hp->(Option Int->Hp->Prop)->Prop
def PO (X:Cx)(e:Option Expr)(t:TO):Prop:=
 ∀(pins:List (Addr×Obj)) (s:Shared) (σ:St) (H:Hp) (Q:Option Int->Hp->Prop),Inv X pins σ H s->t σ H Q->
  wpAny (model X.prog X.w) X.A (evalPart e X.env) (fun u s'=>∃o H',Inv X pins σ H' s'/\IsPart u o/\Q o H') X.xe s
def zkZ:TO:=fun _ H Q=>Q none H
def zov (t:TE):TO:=fun σ H Q=>t σ H fun x H1=>∃i,x=.int i/\Q (some i) H1
section
variable {X:Cx}{e:Expr}{te:TE}{lo hi:Option Expr}{tl th:TO}{pos p2:Pos}
theorem zk0:PO X none zkZ:=by
 intro pins s σ H Q I h;rw[evalPart_none];exact wah ⟨none,H,I,.none,h⟩
theorem zk1 (h:PE X e te):PO X (some e) (zov te):=by
 intro pins s σ H Q I hw;rw[evalPart_some];refine thn (h pins s σ H _ I hw) fun u s1 ⟨x,H1,I1,r1,q1⟩ =>?_
 obtain⟨i,rfl,q⟩:=q1;obtain⟨t,rfl⟩:=r1;exact⟨some i,H1,I1,.int i t,q⟩
def SlR (X:Cx)(r:V->Option Int->Option Int->Hp->VK->Prop):Prop:=
 ∀(pins:List (Addr×Obj)) (s:Shared) (σ:St) (H:Hp) (x:V) (v vl vu:Value) (lo hi:Option Int) (sl:Addr) (Q:VK),Inv X pins σ H s->RelV x v->s.heap.IsSliceOf sl vl vu .none->IsPart vl lo->IsPart vu hi->r x lo hi H Q->
  ∃T id,typeLookup (.type T) "__getitem__"=pure (some (.builtin id))/\s.TypeIs v T/\wpAny (model X.prog X.w) X.A (getItem v (.ref sl)) (EP X pins σ Q) X.xe s
theorem SlR.or {r r':V->Option Int->Option Int->Hp->VK->Prop}(h:SlR X r)(h':SlR X r'):SlR X (fun x lo hi H Q=>r x lo hi H Q\/r' x lo hi H Q):=by
 intro pins s σ H x v vl vu lo hi sl Q I rx hs pl pu q;rcases q with q | q
 ·exact h pins s σ H x v vl vu lo hi sl Q I rx hs pl pu q
 ·exact h' pins s σ H x v vl vu lo hi sl Q I rx hs pl pu q
def tSl (r:V->Option Int->Option Int->Hp->VK->Prop)(te:TE)(tl th:TO):TE:=fun σ H Q=>te σ H fun x H1=>tl σ H1 fun l H2=>th σ H2 fun u H3=>r x l u H3 Q
theorem zi3 {r:V->Option Int->Option Int->Hp->VK->Prop}(hr:SlR X r)(he:PE X e te)(hl:PO X lo tl)(hu:PO X hi th):PE X (.Subscript e (.Slice lo hi none p2) pos) (tSl r te tl th):=by
 intro pins s σ H Q I h;refine Subscript_ (thn (he pins s σ H _ I h) fun v s1 ⟨x,H1,I1,r1,q1⟩ =>?_);refine wpAny_Slice (thn (hl pins s1 σ H1 _ I1 q1) fun vl s2 ⟨l,H2,I2,pl,q2⟩ =>thn (hu pins s2 σ H2 _ I2 q2) fun vu s3 ⟨u,H3,I3,pu,q3⟩ =>?_);rw[evalPart_none];refine wah ?_;have I4:Inv X pins σ H3 {s3 with heap:=s3.heap.push {cls:=.type "slice",data:=.fields #[vl,vu,.none]}}:=I3.kept (t':=s3.toks) fun b ob q=>wac _ q
 obtain⟨T,id,hT,ht,hg⟩:=hr pins {s3 with heap:=s3.heap.push {cls:=.type "slice",data:=.fields #[vl,vu,.none]}} σ H3 x v vl vu l u s3.heap.objs.size Q I4 r1 (Heap.IsSliceOf.new ..) pl pu q3;show wpAny (model X.prog X.w) X.A (subscriptTail e (.Slice lo hi none p2) v (.ref s3.heap.objs.size)) (EP X pins σ Q) X.xe {s3 with heap:=s3.heap.push {cls:=.type "slice",data:=.fields #[vl,vu,.none]}}
 exact tail_any (ops:=[.ref s3.heap.objs.size,v]) ht hT hg (by with_unfolding_all rfl)
def cutV (xs:List V)(lo hi:Option Int):List V:=(xs.drop (HT.sIx xs.length 0 lo)).take (HT.sIx xs.length xs.length hi - HT.sIx xs.length 0 lo)
theorem zdu (xs:List V)(lo hi:Option Int):(cutV xs lo hi).length<=xs.length:=by
 unfold cutV;rw[waK,List.length_drop];omega
def rSlT (K:W.Frag):V->Option Int->Option Int->Hp->VK->Prop:=fun x lo hi H Q=>∃a xs,x=.ref a/\SqT K H a xs/\
 ¬(HT.sIx xs.length 0 lo=0/\HT.sIx xs.length xs.length hi=xs.length)/\∀p,H p=none->Q (.ref p) (upd H p (.tup (cutV xs lo hi)))
theorem sl_tup:SlR X (rSlT X.K):=by
 intro pins s σ H x v vl vu lo hi sl Q I rx hs pl pu h;obtain⟨a,xs,rfl,hx,hw,q⟩:=h;cases rx;obtain⟨its,r,ht,hz⟩:=I.tuple hx;have hlen:its.toArray.size=xs.length:=by rw[wab];exact r.length.symm
 refine⟨"tuple",_,PyProof.Rows.slot_tuple_getitem.lookup,ht.typeIs,?_⟩;refine HT.getItem_tuple_cut ht hs pl pu (by rw[hlen];exact hw) ?_ (by rw[hlen];exact hz);rw[hlen];refine⟨.ref s.heap.objs.size,_,I.laid (t':=s.toks) (o:=.tup (cutV xs lo hi)) (fun b ob q=>wac _ q) (wan _) ?_,rfl,q _ (I.hok.fresh (wan _))⟩;exact⟨wai (zdu xs lo hi) hz,_,(r.drop (HT.sIx xs.length 0 lo)).take (HT.sIx xs.length xs.length hi - HT.sIx xs.length 0 lo),IsTup.new _ _⟩
def zow (K:W.Frag):R2:=fun x y H Q=>∃a b xs ys,x=.ref a/\y=.ref b/\SqT K H a xs/\SqT K H b ys/\xs≠[]/\xs.length+ys.length<=sizeLine/\
 (ys = []->Q (.ref a) H)/\(ys≠[]->∀p,H p=none->Q (.ref p) (upd H p (.tup (xs++ys))))
theorem Vals.nil_iff {xs:List V}{us:List Value}(r:Vals xs us):us = []↔xs = []:=by
 cases r with
 | nil=>simp
 | cons _ _=>simp
theorem zk2:OpR X (binaryOp .Add) (zow X.K):=by
 intro pins s σ H x y v u Q I rx ry h;obtain⟨a,b,xs,ys,rfl,rfl,ha,hb,hx,hz,q1,q2⟩:=h;cases rx;cases ry;obtain⟨its,r1,p1,_⟩:=I.tuple ha;obtain⟨its2,r2,p2,_⟩:=I.tuple hb;refine HT.cat_tup p1 p2 (fun z=>hx (r1.nil_iff.mp z)) (fun z=>⟨.ref a,H,I,rfl,q1 (r2.nil_iff.mp z)⟩) (fun z=>?_) (by rw[<-r1.length,<-r2.length];exact hz);refine⟨.ref s.heap.objs.size,_,I.laid (t':=s.toks) (o:=.tup (xs++ys)) (fun b ob q=>wac _ q) (wan _) ?_,rfl,q2 (fun w=>z (r2.nil_iff.mpr w)) _ (I.hok.fresh (wan _))⟩;exact⟨by rw[was];exact hz,_,r1.append r2,IsTup.new _ _⟩
end
def ixN (n:Nat)(i:Int):Option Nat:=if 0<=i then(if i<n then some i.toNat else none) else if -(n:Int)<=i then some (i+n).toNat else none
def atI {α:Type}(xs:List α)(i:Int):Option α:=(ixN xs.length i).bind fun j=>xs[j]?
theorem zhx {n:Nat}{i:Int}{j:Nat}(h:ixN n i=some j):seqIndex? i n=some j/\j<n/\-(n:Int)<=i/\i<n:=by
 unfold ixN at h;by_cases h0:0<=i
 ·rw[if_pos h0] at h;by_cases h1:i<n
  ·rw[if_pos h1] at h;have e:i.toNat=j:=wau h
   exact⟨by rw[seqIndex_of h0 h1,e],by omega,by omega,h1⟩
  ·rw[if_neg h1] at h;cases h
 ·rw[if_neg h0] at h;by_cases h1:-(n:Int)<=i
  ·rw[if_pos h1] at h;have e:(i+n).toNat=j:=wau h
   exact⟨by rw[seqIndex_neg (by omega) h1,e],by omega,h1,by omega⟩
  ·rw[if_neg h1] at h;cases h
theorem zfB {α:Type}{xs:List α}{i:Int}{v:α}(h:atI xs i=some v):∃j,seqIndex? i xs.length=some j/\xs[j]?=some v/\j<xs.length/\-(xs.length:Int)<=i/\i<xs.length:=by
 unfold atI at h;cases e:ixN xs.length i with
 | none=>rw[e] at h;cases h
 | some j=>
   rw[e] at h;obtain⟨h1,h2,h3,h4⟩:=zhx e;exact⟨j,h1,h,h2,h3,h4⟩
theorem zav {α:Type}{xs:List α}{j:Nat}{v:α}(h:xs[j]?=some v):atI xs (j:Int)=some v:=by
 have hj:j<xs.length:=(wak.mp h).1
 have e:ixN xs.length (j:Int)=some j:=by
  unfold ixN;rw[if_pos (by omega),if_pos (by omega)];simp
 unfold atI;rw[e];exact h
def zct (b:Expr):Prop:=∀o i,subscripted b false o i=operate [o,i] (getItem o i)
def IxR (X:Cx)(r:R2):Prop:=
 ∀(value slice:Expr) (pins:List (Addr×Obj)) (s:Shared) (σ:St) (H:Hp) (x y:V) (v u:Value) (Q:VK),Inv X pins σ H s->RelV x v->RelV y u->r x y H Q->
  subscripted slice false v u=operate [v,u] (getItem v u)->wpAny (model X.prog X.w) X.A (subscriptTail value slice v u) (EP X pins σ Q) X.xe s
def MtR (X:Cx)(id:String)(r:V->List V->Hp->VK->Prop):Prop:=
 ∀(pins:List (Addr×Obj)) (s:Shared) (σ:St) (H:Hp) (x:V) (xs:List V) (v:Value) (us:List Value) (Q:VK),Inv X pins σ H s->RelV x v->Vals xs us->r x xs H Q->
  wpAny (model X.prog X.w) X.A (call (.builtin id) (v::us)) (EP X pins σ Q) X.xe s
section
variable {X:Cx}{a b:Expr}{ta tb:TE}{pos:Pos}
theorem IxR.or {r r':R2}(h:IxR X r)(h':IxR X r'):IxR X (fun x y H Q=>r x y H Q\/r' x y H Q):=by
 intro value slice pins s σ H x y v u Q I rx ry q hs;rcases q with q | q
 ·exact h value slice pins s σ H x y v u Q I rx ry q hs
 ·exact h' value slice pins s σ H x y v u Q I rx ry q hs
theorem zgW {r:R2}(hr:IxR X r)(ha:PE X a ta)(hb:PE X b tb)(hs:zct b):PE X (.Subscript a b pos) (tOp r ta tb):=by
 intro pins s σ H Q I h;exact Subscript_ (binT ha hb I h fun v u s2 x y H2 I2 rx ry q=>hr a b pins s2 σ H2 x y v u Q I2 rx ry q (hs _ _))
def rIxL (K:W.Frag):R2:=fun x y H Q=>∃p xs i v,x=.ref p/\y=.int i/\SqL K H p xs/\atI xs i=some v/\Q v H
def rIxT (K:W.Frag):R2:=fun x y H Q=>∃p xs i v,x=.ref p/\y=.int i/\SqT K H p xs/\atI xs i=some v/\Q v H
def rIxS:R2:=fun x y H Q=>∃z i c,x=.str z/\y=.int i/\z.length<=sizeLine/\atI z.cps.toList i=some c/\Q (.str ⟨#[c]⟩) H
theorem ix_list:IxR X (rIxL X.K):=by
 intro value slice pins s σ H x y v u Q I rx ry h hs;obtain⟨p,xs,i,z,rfl,rfl,hq,he,q⟩:=h;cases rx;obtain⟨t,rfl⟩:=ry;obtain⟨its,r,pl,hz⟩:=I.list hq;obtain⟨j,h1,h2,h3,h4,h5⟩:=zfB he;obtain⟨w,ew,rw'⟩:=r.get h2;have hl:=r.length
 have hn:=zdt
 have fin:EP X pins σ Q w s:=⟨z,H,I,rw',q⟩
 by_cases h0:0<=i
 ·have hj:i.toNat=j:=by
   rw[seqIndex_of h0 h5] at h1;exact wau h1
  exact item_listR pl.isList h0 (by omega) (by rw[hj];simpa using ew) fin hs
 ·have hj:(i+(its.toArray.size:Int)).toNat=j:=by
   rw[seqIndex_neg (by omega) h4] at h1;rw[wab,<-hl];exact wau h1
  exact subscriptTail_builtinR (x:=w) pl.isList.typeIs slot_list_getitem.lookup
   (wpAny_getItem_list_neg (Q:=fun r s'=>r=w/\EP X pins σ Q r s') pl.isList (by omega) (by rw[wab] <;> omega) (by omega) (by rw[hj];simpa using ew) ⟨rfl,fin⟩) hs
theorem ix_tup:IxR X (rIxT X.K):=by
 intro value slice pins s σ H x y v u Q I rx ry h hs;obtain⟨p,xs,i,z,rfl,rfl,hq,he,q⟩:=h;cases rx;obtain⟨t,rfl⟩:=ry;obtain⟨its,r,pl,hz⟩:=I.tuple hq;obtain⟨j,h1,h2,h3,h4,h5⟩:=zfB he;obtain⟨w,ew,rw'⟩:=r.get h2;have hl:=r.length
 have hn:=zdt
 have fin:EP X pins σ Q w s:=⟨z,H,I,rw',q⟩
 exact subscriptTail_builtinR (x:=w) pl.typeIs slot_tuple_getitem.lookup
  (getItem_tuple (j:=j) (Q:=fun r s'=>r=w/\EP X pins σ Q r s') pl (by omega) (by omega) (by rw[wab,<-hl];exact h1) (by simpa using ew) ⟨rfl,fin⟩) hs
theorem zmG:IxR X rIxS:=by
 intro value slice pins s σ H x y v u Q I rx ry h hs;obtain⟨z,i,c,rfl,rfl,hz,he,q⟩:=h;obtain⟨t,rfl⟩:=rx;obtain⟨t',rfl⟩:=ry;obtain⟨j,h1,h2,h3,h4,h5⟩:=zfB he;have hl:z.cps.toList.length=z.length:=by simp[Str.length]
 rw[hl] at h1 h4 h5;have hn:=zdt
 exact tail_any (typeIs_str s z t) slot_str_getitem.lookup (getItem_str (c:=c) (by
  have e1:decide (i < -(2 ^ 63:Int))=false:=war (by omega)
  have e2:decide (i≥2 ^ 63)=false:=war (by omega)
  rw[e1,e2,Bool.or_false]) (by rw[h1];simpa using h2) ⟨.str ⟨#[c]⟩,H,I.tok _,⟨_,rfl⟩,q⟩) hs
def rIx (K:W.Frag):R2:=fun x y H Q=>rIxL K x y H Q\/rIxT K x y H Q\/rIxS x y H Q
theorem zgb:IxR X (rIx X.K):=ix_list.or (ix_tup.or zmG)
theorem zgX (its:List Value)(n j:Nat)(u:Value):Obj.mapSeq (·.setIfInBounds j u) {cls:=.type "list",data:=.seq its.toArray n} = {cls:=.type "list",data:=.seq (its.set j u).toArray n}:=by
 simp[Obj.mapSeq]
theorem Inv.lst {pins:List (Addr×Obj)}{σ:St}{H:Hp}{s:Shared}{p:Addr}{xs:List V}(I:Inv X pins σ H s)(h:H p=some (.lst xs)) :
 ∃(its:List Value) (n:Nat),Vals xs its/\s.heap.get? p=some {cls:=.type "list",data:=.seq its.toArray n}/\xs.length<=sizeLine:=by
 obtain⟨z,its,n,r,e⟩:=I.hok p _ h;exact⟨its,n,r,e,z⟩
theorem Inv.lstUpd {pins:List (Addr×Obj)}{σ:St}{H:Hp}{s:Shared}{p:Addr}{xs ys:List V}{its its':List Value}{n n':Nat}{f:Obj->Obj}(I:Inv X pins σ H s)(h:H p=some (.lst xs))
 (ho:s.heap.get? p=some {cls:=.type "list",data:=.seq its.toArray n}) (hf:f {cls:=.type "list",data:=.seq its.toArray n} = {cls:=.type "list",data:=.seq its'.toArray n'}) (r:Vals ys its') (hz:ys.length<=sizeLine) (t:Nat) :
 Inv X pins σ (upd H p (.lst ys)) {s with heap:=s.heap.update p f,toks:=t}:=by
 have e:(s.heap.update p f).get? p=some {cls:=.type "list",data:=.seq its'.toArray n'}:=by
  rw[waU f ho (by rw[hf] <;> rfl),hf]
 refine I.write (x:=p) (e:=p) (by rw[h];trivial) (.inl rfl) (fun b u hb q=>(waH _ _ (Ne.symm hb)).trans q) ⟨_,e⟩ ?_;exact⟨hz,its',n',r,e⟩
def zox:V->V->V->Hp->(Hp->Prop)->Prop:=fun o i v H Q=>∃p xs k j,o=.ref p/\i=.int k/\H p=some (.lst xs)/\ixN xs.length k=some j/\Q (upd H p (.lst (xs.set j v)))
theorem zgc:PSet X zox:=by
 intro pins s σ H o i v ov iv u Q I ro ri rv h;obtain⟨p,xs,k,j,rfl,rfl,hp,hj,q⟩:=h;cases ro;obtain⟨t,rfl⟩:=ri;obtain⟨its,n,r,ho,hz⟩:=I.lst hp;obtain⟨h1,h2,h3,h4⟩:=zhx hj;have hl:=r.length
 have hn:=zdt
 have I':Inv X pins σ (upd H p (.lst (xs.set j v))) {s with heap:=s.heap.update p (Obj.mapSeq (·.setIfInBounds j u))}:=
  I.lstUpd hp ho (zgX its n j u) (r.set rv j) (by rw[List.length_set];exact hz) s.toks
 by_cases h0:0<=k
 ·have hk:k.toNat=j:=by
   rw[seqIndex_of h0 h4] at h1;exact wau h1
  exact PySem.W.ki_setAt ho h0 (by omega) (by rw[wab,<-hl];exact h4) (by rw[hk];exact⟨_,I',q⟩)
 ·have hk:(k+(its.toArray.size:Int)).toNat=j:=by
   rw[seqIndex_neg (by omega) h3] at h1;rw[wab,<-hl];exact wau h1
  exact PySem.W.ki_setBack ho (by omega) (by rw[wab,<-hl];exact h3) (by omega) (by rw[hk];exact⟨_,I',q⟩)
theorem zeR (lo hi:Option Int)(n:Nat):(sliceBounds lo hi none n).1=((HT.sIx n 0 lo:Nat):Int)/\(sliceBounds lo hi none n).2.1=((HT.sIx n n hi:Nat):Int)/\(sliceBounds lo hi none n).2.2=1:=by
 refine⟨?_,?_,rfl⟩
 ·cases lo with
  | none=>simp[sliceBounds,HT.sIx]
  | some i=>
    simp only[sliceBounds,HT.sIx,Option.getD_none,show(1:Int)>0 by decide,if_true];by_cases h:i<0
    ·simp only[h,if_true] <;> omega
    ·simp only[h,if_false] <;> omega
 ·cases hi with
  | none=>simp[sliceBounds,HT.sIx]
  | some i=>
    simp only[sliceBounds,HT.sIx,Option.getD_none,show(1:Int)>0 by decide,if_true];by_cases h:i<0
    ·simp only[h,if_true] <;> omega
    ·simp only[h,if_false] <;> omega
theorem zen (its:List Value)(lo hi:Option Int):slicePick its.toArray lo hi none=((its.drop (HT.sIx its.length 0 lo)).take (HT.sIx its.length its.length hi - HT.sIx its.length 0 lo)).toArray:=by
 obtain⟨h1,h2,h3⟩:=zeR lo hi its.toArray.size;unfold slicePick;rw[h1,h2,h3];simp only[sliceRange_one,pick_run,wab] <;> rfl
def rSlL (K:W.Frag):V->Option Int->Option Int->Hp->VK->Prop:=fun x lo hi H Q=>∃a xs,x=.ref a/\SqL K H a xs/\∀p,H p=none->Q (.ref p) (upd H p (.lst (cutV xs lo hi)))
theorem sl_list:SlR X (rSlL X.K):=by
 intro pins s σ H x v vl vu lo hi sl Q I rx hs pl pu h;obtain⟨a,xs,rfl,hx,q⟩:=h;cases rx;obtain⟨its,r,ht,hz⟩:=I.list hx;have hlen:=r.length
 refine⟨"list",_,slot_list_getitem.lookup,ht.isList.typeIs,?_⟩;refine wpAny_getItem_list_slice ht.isList hs pl pu .none (by simp) ?_ (by rw[wab] <;> omega);rw[zen,<-hlen];refine⟨.ref s.heap.objs.size,_,I.laid (t':=s.toks) (o:=.lst (cutV xs lo hi)) (fun b ob q=>wac _ q) (wan _) ?_,rfl,q _ (I.hok.fresh (wan _))⟩;exact⟨wai (zdu xs lo hi) hz,_,0,(r.drop (HT.sIx xs.length 0 lo)).take (HT.sIx xs.length xs.length hi - HT.sIx xs.length 0 lo),wav _ rfl⟩
theorem zeS:zcs X (.builtin "len") (fun xs H Q=>∃p ys,xs = [.ref p]/\(SqL X.K H p ys\/SqT X.K H p ys)/\Q (.int ys.length) H):=by
 intro pins s σ H xs us Q I r h;obtain⟨p,ys,rfl,hq,q⟩:=h;obtain⟨u,rfl,rx⟩:=ziZ r;cases rx;have hn:=zdt
 rcases hq with hq | hq
 ·obtain⟨its,r',pl,hz⟩:=I.list hq;have hlen:=r'.length
  exact Calls.call_len_list pl.isList (by simp only[wab] <;> omega) ⟨.int ys.length,H,I.tok _,⟨s.toks+1,by rw[wab,hlen]⟩,q⟩
 ·obtain⟨its,r',pl,hz⟩:=I.tuple hq;have hlen:=r'.length
  exact len_tuple pl (by simp only[wab] <;> omega) ⟨.int ys.length,H,I.tok _,⟨s.toks+1,by rw[wab,hlen]⟩,q⟩
theorem zcK:zcs X (.type "tuple") (fun xs H Q=>∃p ys,xs = [.ref p]/\((SqL X.K H p ys/\∀l,H l=none->Q (.ref l) (upd H l (.tup ys)))\/(SqT X.K H p ys/\Q (.ref p) H))):=by
 intro pins s σ H xs us Q I r h;obtain⟨p,ys,rfl,h⟩:=h;obtain⟨u,rfl,rx⟩:=ziZ r;cases rx;rcases h with⟨hq,q⟩ | ⟨hq,q⟩
 ·obtain⟨its,r',pl,hz⟩:=I.list hq;have hlen:=r'.length
  refine call_tuple_list pl.isList (fun h' kp=>?_) (by simp only[wab] <;> omega);have I1:Inv X pins σ H {s with heap:=h'}:=I.kept (t':=s.toks) kp
  have I2:Inv X pins σ (upd H h'.objs.size (.tup ys)) {s with heap:=h'.push {cls:=.type "tuple",data:=.seq its.toArray}}:=
   I1.laid (t':=s.toks) (fun b o e=>wac _ e) (wan _) (show ObjOk X.prog X.w _ _ _ (.tup ys) from⟨hz,its,r',IsTup.new _ _⟩)
  exact⟨.ref h'.objs.size,_,I2,rfl,q _ (I1.hok.fresh (wan _))⟩
 ·obtain⟨its,r',pl,hz⟩:=I.tuple hq;exact call_tuple_same pl ⟨.ref p,H,I,rfl,q⟩
def tyV (K:W.Frag)(T:String)(x:V)(H:Hp):Prop:=match x with
 | .str _=>T = "str"
 | .int _=>T = "int"
 | .ref p=>(T = "list"/\∃xs,SqL K H p xs)\/(T = "tuple"/\∃o,K.lookup p=some o/\o.cls=.type "tuple"/\o.dict=none)\/
  (T = "dict"/\((∃kvs,H p=some (.dK kvs))\/∃kvs,H p=some (.dT kvs)))\/(T = "set"/\∃S n,H p=some (.set S n))
 | _=>False
theorem zmH {pins:List (Addr×Obj)}{σ:St}{H:Hp}{s:Shared}{T:String}{x:V}{v:Value}(I:Inv X pins σ H s)(r:RelV x v)(ty:tyV X.K T x H) :
 s.TypeIs v T/\∀a,v=.ref a->∃ob,s.heap.get? a=some ob/\ob.dict=none:=by
 cases x with
 | str z=>
   obtain⟨t,rfl⟩:=r;cases(show T = "str" from ty);exact⟨typeIs_str s z t,fun _ e=>nomatch e⟩
 | int i=>
   obtain⟨t,rfl⟩:=r;cases(show T = "int" from ty);exact⟨typeIs_int s i t,fun _ e=>nomatch e⟩
 | ref p=>
   cases r;rcases ty with⟨rfl,xs,hq⟩ | ⟨rfl,o,hk,hc,hd⟩ | ⟨rfl,hk⟩ | ⟨rfl,S,n,hk⟩
   ·obtain⟨its,_,pl,_⟩:=I.list hq;refine⟨pl.isList.typeIs,fun a e=>?_⟩;cases e;obtain⟨o,n,e,c,hd,_⟩:=pl;exact⟨o,e,hd⟩
   ·refine⟨⟨o,I.kIn p o hk,hc⟩,fun a e=>?_⟩;cases e;exact⟨o,I.kIn _ o hk,hd⟩
   ·have z:∃o,s.heap.get? p=some o/\o.ExactDict:=by
     rcases hk with⟨kvs,hk⟩ | ⟨kvs,hk⟩
     ·obtain⟨_,_,_,_,o,_,_,e,ex,_⟩:=I.hok p _ hk;exact⟨o,e,ex⟩
     ·obtain⟨_,_,_,_,o,_,_,e,ex,_⟩:=I.hok p _ hk;exact⟨o,e,ex⟩
    obtain⟨o,e,ex⟩:=z;refine⟨⟨o,e,ex.1⟩,fun a e2=>?_⟩;cases e2;exact⟨o,e,ex.2.1⟩
   ·obtain⟨o,_,_,_,e,ex,_⟩:=I.hok p _ hk;refine⟨⟨o,e,ex.1⟩,fun a e2=>?_⟩;cases e2;exact⟨o,e,ex.2.1⟩
 | _=>exact False.elim ty
def tBM (K:W.Frag)(T:String)(r:V->List V->Hp->VK->Prop)(to:TE)(t:TA):TE:=fun σ H Q=>to σ H fun x H1=>tyV K T x H1/\t σ H1 fun xs H2=>r x xs H2 Q
variable {o e:Expr}{es:List Expr}{to:TE}{t:TA}{name:Str}{apos cpos:Pos}{T id:String}{r:V->List V->Hp->VK->Prop}
theorem zmI (pa:PlainAttrs T)(slot:Slot T name id)(hty:typeOf (.builtin id)=pure (.type "method_descriptor"))(hm:MtR X id r)(ho:PE X o to)(ha:PA X (e::es) t)
 (hbase:attributeBase o name X.env (eval o X.env)=eval o X.env:=by rfl)
 (hfew:((backTo cpos (starEach (e::es) X.env)).all (fun x=>!x.1)&&(backToKw cpos (keywordEach [] X.env)).all (fun x=>x.1.isSome)
  && decide ((e::es).length+([]:List Keyword).length+(if([]:List Keyword).isEmpty then 0 else 1)<30))=true:=by rfl)
 (hline:(apos.endLine == cpos.line)=true:=by rfl) (hs:starEach (e::es) X.env=(false,eval e X.env)::starEach es X.env:=by rfl) (hplain:(backTo cpos (starEach es X.env)).any (·.1)=false:=by rfl) :
 PE X (.Call (.Attribute o name apos) (e::es) [] cpos) (tBM X.K T r to t):=by
 intro pins s σ H Q I h;refine wpAny_Call_method_late hbase hfew hline rfl (thn (ho pins s σ H _ I h) fun v s1 ⟨x,H1,I1,r1,ty,q1⟩ =>?_);obtain⟨h1,h2⟩:=zmH I1 r1 ty;refine⟨T,id,pa,slot,hty,h1,h2,?_⟩;have hA:=ha cpos pins s1 σ H1 _ I1 q1
 rw[hs] at hA⊢;refine Calls.callWith_builtin (by show(false||(backTo cpos (starEach es X.env)).any (·.1))=false;rw[hplain] <;> rfl) (Calls.evalArgs_plain ?_);exact thn hA fun us s2 ⟨vs,H2,I2,r2,q2⟩ =>hm pins s2 σ H2 x vs v us Q I2 r1 r2 q2
end
def MtM (X:Cx)(id:String)(r:V->List V->Hp->VK->Prop):Prop:=
 ∀(pins:List (Addr×Obj)) (s:Shared) (σ:St) (H:Hp) (x:V) (xs:List V) (v:Value) (us:List Value) (Q:VK),Inv X pins σ H s->RelV x v->Vals xs us->r x xs H Q->
  wpAny (model X.prog X.w) X.A (call (.builtin id) (v::us)) (EP X pins σ Q) X.xe s
theorem Vals.one:∀{x:V}{us:List Value},Vals [x] us->∃u,us = [u]/\RelV x u
 | _,_,.cons r .nil=>⟨_,rfl,r⟩
theorem Vals.reverse {xs:List V}{us:List Value}(h:Vals xs us):Vals xs.reverse us.reverse:=by
 induction h with
 | nil=>exact .nil
 | cons r t ih=>rw[wbF,wbF];exact Vals.append ih (.cons r .nil)
theorem Vals.rep {xs:List V}{us:List Value}(h:Vals xs us):∀k:Nat,Vals (List.replicate k xs).flatten (List.replicate k us).flatten
 | 0=>.nil
 | k+1=>by
   rw[waT,waT,wbr,wbr];exact Vals.append h (Vals.rep h k)
theorem zeT (its:List Value):∀(k:Nat) (acc:List Value),
 List.foldl (fun x1 x2=>x1++x2) acc.toArray (List.replicate k its.toArray)=(acc++(List.replicate k its).flatten).toArray
 | 0,acc=>by simp
 | k+1,acc=>by
   have e:acc.toArray++its.toArray=(acc++its).toArray:=by simp
   have e2:(acc++its)++(List.replicate k its).flatten=acc++(List.replicate (k+1) its).flatten:=by
    rw[waT,wbr,wbc]
   rw[<-e2,<-zeT its k (acc++its),<-e,waT,List.foldl_cons]
section
variable {X:Cx}{pins:List (Addr×Obj)}{σ:St}{H:Hp}{s:Shared}{l b:Addr}{xs ys zs:List V}
theorem Inv.lset {its its':List Value}{n:Nat}{f:Array Value->Array Value}{t':Nat}(I:Inv X pins σ H s)(hH:H l=some (.lst xs))
 (e:s.heap.get? l=some {cls:=.type "list",data:=.seq its.toArray n}) (hf:f its.toArray=its'.toArray) (hv:Vals ys its') (hz:ys.length<=sizeLine) :
 Inv X pins σ (upd H l (.lst ys)) {s with heap:=s.heap.update l (Obj.mapSeq f),toks:=t'}:=by
 have q:=PySem.IsL.update e f
 rw[hf] at q;refine I.write (x:=l) (e:=l) (by rw[hH];exact trivial) (.inl rfl) (fun b' u hb hu=>(waH s.heap (Obj.mapSeq f) (Ne.symm hb)).trans hu) ⟨_,q⟩ ?_;exact⟨hz,its',_,hv,q⟩
theorem Inv.lnew {its:List Value}{t':Nat}(I:Inv X pins σ H s)(hv:Vals ys its)(hz:ys.length<=sizeLine) :
 Inv X pins σ (upd H s.heap.objs.size (.lst ys)) {s with heap:=s.heap.push {cls:=.type "list",data:=.seq its.toArray},toks:=t'}:=
 I.laid (fun _ _ q=>wac _ q) (wan _) ⟨hz,its,0,hv,wav _ rfl⟩
theorem Inv.fresh (I:Inv X pins σ H s):H s.heap.objs.size=none:=I.hok.fresh (wan _)
theorem Inv.lstM (I:Inv X pins σ H s)(hH:H l=some (.lst xs)):xs.length<=sizeLine/\∃(its:List Value) (n:Nat),Vals xs its/\xs.length=its.length/\s.heap.get? l=some {cls:=.type "list",data:=.seq its.toArray n}:=by
 obtain⟨z,its,n,r,e⟩:=I.hok l _ hH;exact⟨z,its,n,r,r.length,e⟩
theorem zgd {n:Nat}(h:n<=sizeLine):Builtin.List.listTooLong n=false:=by
 unfold Builtin.List.listTooLong;exact war (by omega)
end
section
variable {X:Cx}
def zeo:V->List V->Hp->VK->Prop:=fun x vs H Q=>∃l xs y,x=.ref l/\vs = [y]/\H l=some (.lst xs)/\xs.length<sizeLine/\Q .non (upd H l (.lst (xs++[y])))
theorem zeU:MtM X "list.append" zeo:=by
 intro pins s σ H x vs v us Q I rx rv h;obtain⟨l,xs,y,rfl,rfl,hH,hz,q⟩:=h;cases rx;obtain⟨u,rfl,ru⟩:=rv.one;obtain⟨z,its,n,r,hl,e⟩:=I.lstM hH;refine call_meets F.slot_list_append ⟨_,e,rfl⟩ F.entry_list_append (F.args_list_append_2 _ _) (PySem.list_append l its.toArray n u (by rw[wab];omega)) ⟨e,?_⟩;refine⟨.non,_,I.lset (its':=its++[u]) hH e (by simp) (r.append (.cons ru .nil)) ?_,rfl,q⟩;rw[was,List.length_singleton];omega
def zhy:V->List V->Hp->VK->Prop:=fun x vs H Q=>∃l b xs zs,x=.ref l/\vs = [.ref b]/\H l=some (.lst xs)/\H b=some (.lst zs)/\xs.length+zs.length<=sizeLine/\Q .non (upd H l (.lst (xs++zs)))
theorem zhz:MtM X "list.extend" zhy:=by
 intro pins s σ H x vs v us Q I rx rv h;obtain⟨l,b,xs,zs,rfl,rfl,hH,hB,hz,q⟩:=h;cases rx;obtain⟨u,rfl,ru⟩:=rv.one;cases ru;obtain⟨z,its,n,r,hl,e⟩:=I.lstM hH;obtain⟨z2,its2,n2,r2,hl2,e2⟩:=I.lstM hB;have hsz:its.toArray.size+its2.toArray.size<=sizeLine:=by rw[wab,wab];omega
 have hlong:¬(!its.toArray.isEmpty&&Builtin.List.listTooLong (its.toArray.size+its2.toArray.size))=true:=by
  rw[zgd hsz,Bool.and_false];exact wbB
 refine call_meets F.slot_list_extend ⟨_,e,rfl⟩ F.entry_list_extend (F.args_list_extend_2 _ _)
  (AutoSeq1.list_extend_list_list_0 l its.toArray n b its2.toArray n2 hlong (by rw[wab];omega) (by omega)) ⟨e,e2,?_⟩
 refine⟨.non,_,I.lset (its':=its++its2) hH e (by simp) (r.append r2) ?_,rfl,q⟩;rw[was];omega
def rCat:R2:=fun x y H Q=>∃l b xs zs,x=.ref l/\y=.ref b/\H l=some (.lst xs)/\H b=some (.lst zs)/\xs.length+zs.length<=sizeLine/\∀p,H p=none->Q (.ref p) (upd H p (.lst (xs++zs)))
theorem op_cat:OpR X (binaryOp .Add) rCat:=by
 intro pins s σ H x y v u Q I rx ry h;obtain⟨l,b,xs,zs,rfl,rfl,hH,hB,hz,q⟩:=h;cases rx;cases ry;obtain⟨z,its,n,r,hl,e⟩:=I.lstM hH;obtain⟨z2,its2,n2,r2,hl2,e2⟩:=I.lstM hB;refine PySem.P.add_list e e2 ?_ (by rw[wab,wab];omega);have ea:its.toArray++its2.toArray=(its++its2).toArray:=by simp
 rw[ea];exact⟨.ref _,_,I.lnew (t':=s.toks) (r.append r2) (by rw[was];omega),rfl,q _ I.fresh⟩
def rRep:R2:=fun x y H Q=>∃l k xs,x=.ref l/\y=.int k/\H l=some (.lst xs)/\-(2 ^ 63)<=k/\k<2 ^ 63/\xs.length*k.toNat<=sizeLine/\
 ∀p,H p=none->Q (.ref p) (upd H p (.lst (List.replicate k.toNat xs).flatten))
theorem zk3 {α:Type}(xs:List α)(k:Nat):(List.replicate k xs).flatten.length=k*xs.length:=by
 induction k with
 | zero=>simp
 | succ k ih=>rw[waT,wbr,was,ih,Nat.succ_mul,Nat.add_comm]
theorem zmJ:OpR X (binaryOp .Mult) rRep:=by
 intro pins s σ H x y v u Q I rx ry h;obtain⟨l,k,xs,rfl,rfl,hH,h1,h2,hz,q⟩:=h;cases rx;obtain⟨t,rfl⟩:=ry;obtain⟨z,its,n,r,hl,e⟩:=I.lstM hH;have hlen:its.toArray.size*k.toNat<=sizeLine:=by rw[wab,<-hl];exact hz
 have hcap:¬its.toArray.size*k.toNat>(2 ^ 63 - 1) / 8:=by
  have:(sizeLine:Nat)<=(2 ^ 63 - 1) / 8:=by decide
  omega
 have hfit:¬(!Builtin.List.listFitsIndex k)=true:=by
  rw[fitsIndex_both h1 h2];exact wbB
 have hlong:¬Builtin.List.listTooLong (its.toArray.size*k.toNat)=true:=by
  rw[zgd hlen];exact wbB
 have hnew:List.foldl (fun x1 x2=>x1++x2) #[] (List.replicate (if its.toArray.isEmpty=true then 0 else k.toNat) its.toArray)=(List.replicate k.toNat its).flatten.toArray:=by
  have f0:∀m:Nat,List.foldl (fun x1 x2=>x1++x2) #[] (List.replicate m its.toArray)=(List.replicate m its).flatten.toArray:=fun m=>by
   have:=zeT its m []
   rw[List.nil_append] at this;exact this
  rw[f0];cases its with
  | nil=>simp
  | cons a r'=>rw[if_neg (by simp)]
 refine wpAny_binaryOp_repeat_ref (T:="list") (U:="int") (by decide) ⟨_,e,rfl⟩ (fun s'=>typeIs_int s' k t) noFill_list_mul F.fills_int_mul F.slot_int_rmul repeat_list F.slot_int_index.lookup
  (call_meets F.slot_int_rmul (typeIs_int s k t) F.entry_int_rmul (F.args_int_rmul_2 _ _) (int___rmul___int_list k t l its.toArray n)
   ⟨e,rfl,⟨_,e,rfl⟩,call_meets F.slot_list_mul ⟨_,e,rfl⟩ F.entry_list_mul (F.args_list_mul_2 _ _) (AutoListH.list___mul___list_int_3 l its.toArray n k t hfit hcap hlong) ⟨e,?_⟩⟩)
 rw[hnew];exact⟨.ref _,_,I.lnew (t':=s.toks) (r.rep k.toNat) (by rw[zk3,Nat.mul_comm];exact hz),rfl,q _ I.fresh⟩
end
section
variable {prog:Program}{w:World}{A:Around}{E:Value->Shared->Prop}{s:Shared}
end
section
variable {X:Cx}
end
end L2
namespace Att
open PySem PySem.W PySem.Calls PyProof.Rows
theorem zdv {P:Params}{h:Heap}:∀(ns:List Int) (vs:List Value),WellAll P h vs (ns.map WData.int)->IntsAre vs ns:=by
 intro ns;induction ns with
 | nil=>
   intro vs w;rw[List.map_nil] at w;cases w;exact .nil
 | cons n ns ih=>
   intro vs w;rw[wbe] at w;cases w with
   | cons a b=>
     cases a;exact .cons _ _ (ih _ b)
theorem zhA {l:OpenLaw}{n:Nat}(hn:l.most=some n){P:Params}{h:Heap}{args:List WData}{vals:List Value}
 (hpre:l.row.toRowW.claim.pre args=true) (hwl:WellAll P h vals args) :
 ∃a vs ns,vals = [Value.ref a]/\args = [WData.list (ns.map WData.int)]/\h.get? a=some {cls:=.type "list",data:=.seq vs.toArray}/\IntsAre vs ns/\ns.length<=n:=by
 have hsh:WShape.hasAll [] args [.list .int]=true:=(pre_splitW hpre).1
 have hc:l.pre.holds [] {args:=args}=true:=(pre_splitW hpre).2
 obtain⟨d,r,rfl,h1,h2⟩:=hasAllW_cons hsh;obtain rfl:=hasAllW_nil h2;obtain⟨xs,rfl,h3⟩:=hasW_list h1;obtain⟨ns,rfl⟩:=items_int h3;have hlen:ns.length<=n:=by
  unfold OpenLaw.pre at hc;have h4:(WTm.not (.lt (.lit (.int (n:Int))) (.len (.arg 0)))).holds [] {args:=[.list (ns.map .int)]}=true:=by
   have h4:=(holds_andW hc).1
   rw[hn] at h4;exact h4
  have h5:=condW_of h4 (w_not (w_lt w_lit (w_len_list (w_arg rfl))))
  rw[wao] at h5;refine Nat.le_of_not_lt fun q=>?_
  have q':(n:Int)<((ns.length:Nat):Int):=by omega
  first
   | (rw[wax q'] at h5;exact absurd h5 (by decide))
   | (simp at h5;omega)
 cases hwl with
 | cons w1 w2=>
   cases w2;cases w1 with
   | list ho hall=>exact⟨_,_,ns,rfl,rfl,ho,zdv ns _ hall,hlen⟩
theorem zhB (l:OpenLaw)(args:List WData):l.row.toRowW.claim.post args (.bool true) args=true:=
 postW_of (r:=l.row.toRowW) (X:=(true == true))
  (show WShape.has [] (.bool true) .bool=true by first | rfl | decide | simp[WShape.has,WShape.arms,WShape.armsAll])
  (show(WTm.eq .res (.lit (.bool true))).value [] {args:=args,res:=some (.bool true),after:=args}=some (.bool (true == true)) from w_eq_bool (w_res rfl) w_lit) rfl
theorem attach_call {l:OpenLaw}{n:Nat}{q:Program}{loose:List Str}{XP:(Str->Option Value)->Heap->Prop}{YP:World->Heap->Prop}{d:DefRec}
 (hn:l.most=some n) (hdf:d.params.defaults = [])
 (call:∀(w:World) (s₀ s₁:Shared) (mg mb:Str->Option Value) (fa:Addr) (o:Obj) (pm cd doc:Value) (a:Addr) (vs:List Value) (ns:List Int),
  Ground q loose [] XP w s₀ mg mb s₁.heap->YP w s₁.heap->
  s₁.heap.get? fa=some o->o.data=.func (docDef d.name d.params d.body d.scope pm cd doc)->s₁.heap.CodeRec cd d.name->mg d.name=some (.ref fa)->
  s₁.heap.get? a=some {cls:=.type "list",data:=.seq vs.toArray}->IntsAre vs ns->ns.length<=n->s₁.gens = #[]->
  codeAny (model l.prog w) callerA (.call (.ref fa) ⟨[.ref a],[]⟩) (fun r s'=>r=.ok (.ret (.bool true))/\OldK s₁.heap s'.heap/\s'.os=s₁.os/\AllBare s'.gens) s₁) :
 WalkO q loose XP YP l.row.toRowW d [] (fun f vs=>PySem.call f vs):=by
 intro w s₀ s₁ mg mb G Y fa o pm cd doc dV kV ho hd hcd hD hmg hg args vals as hpre hlay hrd hwl hlo;obtain rfl:dV=.none:=Dflts.none hD hdf;obtain rfl:kV=.none:=Dflts.noKw hD;obtain⟨a,vs,ns,rfl,rfl,hobj,hints,hlen⟩:=zhA hn hpre hwl;refine enter_call (wca (call w s₀ s₁ mg mb fa o pm cd doc a vs ns G Y ho (fd_plain hd) hcd hmg hobj hints hlen hg) fun r s' hq=>?_);obtain⟨rfl,h2,h3,h4⟩:=hq;exact⟨.inl ⟨.bool true,.bool true,[],rfl,fun _=>rfl,.bool true,zhB l _,fun _=>⟨List.Pairwise.nil,fun _ hm=>(nomatch hm)⟩⟩,h2,h3,h4⟩
section
variable {prog:Program}{w:World}{A:Around}{E:Value->Shared->Prop}{s:Shared}{K:Frag}
end
end Att
namespace L2
open PySem PySem.Spec PyProof.Rows
theorem zeV:∀{vs:List Value}{ns:List Int},IntsAre vs ns->Vals (ns.map V.int) vs
 | _,_,.nil=>.nil
 | _,_,.cons n t h=>.cons ⟨t,rfl⟩ (zeV h)
def Only (H:Hp):Prop:=∀b,H b=none\/∃o xs,H b=some (.frz o (.lst xs))
theorem zi4 {P:Program}{w:World}{K:W.Frag}{mg mb:Str->Option Value}{CX:CXT}{k:Nat}{fa a:Addr}{fd:FuncData}{x:Str}{sp:Sp}{s₁:Shared}{vs:List Value}{ns:List Int}
 (KX:K.In s₁.heap) (hns:s₁.heap.Ns mainGlobals mg) (hb:s₁.heap.Ns builtinsNs mb) (hbb:∀x:Str,x≠"__name__"->mb x=bootBuiltins x) (hlim:s₁.heap.NoLimit) (hg:s₁.gens = #[])
 (ha:s₁.heap.get? a=some {cls:=.type "list",data:=.seq vs.toArray}) (hi:IntsAre vs ns) (hl:ns.length<=sizeLine) (hr:Room k callerA)
 (F:∀base:Heap,K.In base->base.Ns mainGlobals mg->FnOk P w K mg base CX k fa fd [x] sp) (hbind:∀(s:Shared) (u:Value),BindsTo s fd ⟨[u],[]⟩ [(x,u)])
 (hsp:∀H:Hp,Only H->SqL K H a (ns.map V.int)->sp [.ref a] H (fun v _=>v=.bl true) fun _ _ _=>False)
 (hCX:∀H e s',CX [] H s₁ (fun _ _ _=>False) e s'->False) :
 codeAny (model P w) callerA (.call (.ref fa) ⟨[.ref a],[]⟩) (fun r s'=>r=.ok (.ret (.bool true))/\OldK s₁.heap s'.heap/\s'.os=s₁.os/\AllBare s'.gens) s₁:=by
 have rv:=zeV hi
 have lenV:=hi.length
 have core:∀H:Hp,Only H->SqL K H a (ns.map V.int)->HOk P w H s₁.heap->(∀b,H b≠none->b=a)->(H a≠none->K.lookup a=none)->
  codeAny (model P w) callerA (.call (.ref fa) ⟨[.ref a],[]⟩) (fun r s'=>r=.ok (.ret (.bool true))/\OldK s₁.heap s'.heap/\s'.os=s₁.os/\AllBare s'.gens) s₁:=by
  intro H hO hS hok hA hK;have base_of:∀{b:Addr}{o:Obj},s₁.heap.get? b=some o->H b=none->(hidT s₁.heap H).get? b=some o:=fun e n=>ziT e n
  have noA:∀{b:Addr}{o:Obj}{es:Array DictEntry}{ep:Nat},s₁.heap.get? b=some o->o.data=.dict es ep->H b=none:=fun {b o es ep} e d=>by
   cases q:H b with
   | none=>rfl
   | some u=>
     have e':b=a:=hA b (by rw[q];simp)
     subst e';rw[ha] at e;cases e;have d':Data.seq vs.toArray _=Data.dict es ep:=d
     cases d'
  have nsK:∀{b:Addr}{m:Str->Option Value},s₁.heap.Ns b m->(hidT s₁.heap H).Ns b m:=fun {b m} ⟨o,es,ep,e,d,r⟩ =>⟨o,es,ep,base_of e (noA e d),d,r⟩
  have hKb:K.In (hidT s₁.heap H):=fun b o e=>base_of (KX b o e) (by
   cases q:H b with
   | none=>rfl
   | some u=>
     have e':b=a:=hA b (by rw[q];simp)
     subst e';rw[hK (by rw[q];simp)] at e;cases e)
  have hM:Mod K mg (hidT s₁.heap H):=⟨hKb,nsK hns,⟨mb,nsK hb,hbb⟩,let ⟨mc,h1,h2⟩:=hlim;⟨mc,nsK h1,h2⟩⟩
  have e0:Env0 P w K mg (hidT s₁.heap H) callerA [] s₁ H:=⟨rfl,hM,fun b o e=>zkQ e,wbu (zhe _ _),trivial,fun b hb=>absurd (show b∈([]:List Addr) from hb) (by simp),hok,.of_eq hg⟩
  refine wca ((F _ hKb (nsK hns)).run callerA [] s₁ H ⟨[.ref a],[]⟩ [.ref a] [.ref a] _ _ hr e0 (hbind s₁ (.ref a)) (.cons rfl .nil) (hsp H hO hS)) fun r s' h=>?_
  cases r with
  | error e=>exact(hCX H e s' h).elim
  | ok fl=>
    cases fl with
    | next=>exact False.elim h
    | brk=>exact False.elim h
    | cont=>exact False.elim h
    | ret u=>
      obtain⟨v,H',os,bare,un,hok',r',q⟩:=h;have q':v=.bl true:=q
      subst q';obtain rfl:u=Value.bool true:=r';refine⟨rfl,OldK.of_keep fun b o e=>?_,os,bare⟩;cases q:H b with
      | none=>exact un.keep b o e q (by intro z;exact absurd (show b∈([]:List Addr) from z) (by simp)) (by simp)
      | some u=>
        rcases hO b with z | ⟨ob,xs,z⟩
        ·rw[q] at z;cases z
        ·have z2:=un.frzs b ob _ z
         obtain⟨e1,_⟩:=hok b _ z;obtain⟨e2,_⟩:=hok' b _ z2;rw[e] at e1;cases e1;exact e2
 cases hk:K.lookup a with
 | some o=>
   have e:=KX a o hk
   rw[ha] at e;cases e;refine core (fun _=>none) (fun _=>.inl rfl) (.inr ⟨_,vs.toArray,_,hk,rfl,rfl,rfl,by rw[wab,lenV];exact hl,by simpa using rv⟩) (fun b u z=>by have z':(none:Option HO)=some u:=z;cases z') (fun b z=>absurd rfl z) fun z=>absurd rfl z
 | none=>
   refine core (fun b=>if b=a then some (.frz {cls:=.type "list",data:=.seq vs.toArray} (.lst (ns.map V.int))) else none) (fun b=>?_) (.inl (.inr ⟨{cls:=.type "list",data:=.seq vs.toArray},if_pos rfl⟩)) (fun b u z=>?_) (fun b z=>?_) fun _=>hk
   ·by_cases hb:b=a
    ·exact .inr ⟨_,_,if_pos hb⟩
    ·exact .inl (if_neg hb)
   ·by_cases hb:b=a
    ·have z':=(if_pos hb).symm.trans z
     cases z';subst hb;exact⟨ha,by rw[wao];exact hl,vs,_,rv,ha⟩
    ·have z':=(if_neg hb).symm.trans z
     cases z'
   ·by_cases hb:b=a
    ·exact hb
    ·exact absurd (if_neg hb) z
theorem zk4 {l:PySem.W.OpenLaw}{n k:Nat}{q:Program}{loose:List Str}{XP:(Str->Option Value)->Heap->Prop}{YP:World->Heap->Prop}{d:DefRec}{K:Params->W.Frag}{CX:World->CXT}{sp:World->Sp}{x:Str}
 (hn:l.most=some n) (hn2:n<=sizeLine) (hdf:d.params.defaults = []) (hr:Room k callerA)
 (hY:∀(w:World) (h:Heap),YP w h->(K w.params).In h)
 (F:∀(w:World) (mg:Str->Option Value) (fa:Addr) (h:Heap),(K w.params).In h->h.Ns mainGlobals mg->mg d.name=some (.ref fa)->
  ∃fd:FuncData,(∀(s:Shared) (u:Value),BindsTo s fd ⟨[u],[]⟩ [(x,u)])/\
   ∀base:Heap,(K w.params).In base->base.Ns mainGlobals mg->FnOk l.prog w (K w.params) mg base (CX w) k fa fd [x] (sp w))
 (hsp:∀(w:World) (H:Hp) (a:Addr) (ns:List Int),ns.length<=n->Only H->SqL (K w.params) H a (ns.map V.int)->sp w [.ref a] H (fun v _=>v=.bl true) fun _ _ _=>False)
 (hCX:∀(w:World) (H:Hp) (s:Shared) (e:Value) (s':Shared),CX w [] H s (fun _ _ _=>False) e s'->False) :
 PySem.W.WalkO q loose XP YP l.row.toRowW d [] (fun f vs=>PySem.call f vs):=by
 refine Att.attach_call hn hdf fun w s₀ s₁ mg mb fa o pm cd doc a vs ns G Y ho hd hcd hmg hobj hints hlen hg=>?_
 have KX:=hY w _ Y
 obtain⟨fd,hb,hF⟩:=F w mg fa _ KX G.T.g hmg;exact zi4 KX G.T.g G.T.b G.T.builtins G.T.nolimit hg hobj hints (wai hlen hn2) hr hF hb (fun H hO hS=>hsp w H a ns hlen hO hS) fun H e s'=>hCX w H s₁ e s'
theorem walk_ofK {l:PySem.W.OpenLaw}{n k:Nat}{q:Program}{loose:List Str}{XP:(Str->Option Value)->Heap->Prop}{YP:World->Heap->Prop}{d:DefRec}{K:Params->W.Frag}{CX:CXT}{sp:W.Frag->Sp}{x:Str}
 (hn:l.most=some n) (hn2:n<=sizeLine) (hdf:d.params.defaults = []) (hr:Room k callerA)
 (hY:∀(w:World) (h:Heap),YP w h->(K w.params).In h)
 (F:∀(w:World) (mg:Str->Option Value) (fa:Addr) (h:Heap),(K w.params).In h->h.Ns mainGlobals mg->mg d.name=some (.ref fa)->
  ∃fd:FuncData,(∀(s:Shared) (u:Value),BindsTo s fd ⟨[u],[]⟩ [(x,u)])/\
   ∀base:Heap,(K w.params).In base->base.Ns mainGlobals mg->FnOk l.prog w (K w.params) mg base CX k fa fd [x] (sp (K w.params)))
 (hsp:∀(K:W.Frag) (H:Hp) (a:Addr) (ns:List Int),ns.length<=n->Only H->SqL K H a (ns.map V.int)->sp K [.ref a] H (fun v _=>v=.bl true) fun _ _ _=>False)
 (hCX:∀(H:Hp) (s:Shared) (e:Value) (s':Shared),CX [] H s (fun _ _ _=>False) e s'->False) :
 PySem.W.WalkO q loose XP YP l.row.toRowW d [] (fun f vs=>PySem.call f vs):=
 zk4 (K:=K) (CX:=fun _=>CX) (sp:=fun w=>sp (K w.params)) hn hn2 hdf hr hY F (fun w H a ns h1 h2 h3=>hsp (K w.params) H a ns h1 h2 h3) fun _ H s e s'=>hCX H s e s'
def zcu (s:Stmt):Arguments:=match s with
 | .FunctionDef _ a _ _ _ _ _ _ _ _=>a
 | _=>{posonlyargs:=[],args:=[],vararg:=none,kwonlyargs:=[],kw_defaults:=[],kwarg:=none,defaults:=[]}
def zaT (s:Stmt):List Stmt:=match s with
 | .FunctionDef _ _ b _ _ _ _ _ _ _=>b
 | _=>[]
def zac (s:Stmt):Scope:=match s with
 | .FunctionDef _ _ _ _ _ _ sc _ _ _=>sc
 | _=>{kind:=.function,names:=[],isGenerator:=false,isCoroutine:=false}
abbrev CX0:CXT:=fun _ _ _ _ _ _=>False
abbrev E0:XK:=fun _ _ _=>False
theorem zmK {X:Cx}:zga CX0 X E0:=fun _ _ _ _ _ _ _ h=>h.elim
structure Fun (K:W.Frag)(x qual:Str)(st:Stmt)(f:Addr)(fd:FuncData):Prop where
 ex:∃(oc:Value) (od:Option Addr) (kV doc pm:Value) (an:Option Addr) (cdv ct:Value) (osl:Array (Option Value)),
  fd=W.fnOf x qual (zcu st) (zaT st) (zac st) .none kV doc pm an cdv ct/\K.lookup f=some ⟨oc,od,.func fd,osl⟩ /\W.codeIn K cdv qual=true
 kp:W.keepIn K (.ref f)=true
section
variable {P:Program}{w:World}{K:W.Frag}{mg:Str->Option Value}{base:Heap}
theorem Fun.ok {x qual:Str}{st:Stmt}{f:Addr}{fd:FuncData}{N ps:List Str}{k:Nat}{sp:Sp}(F:Fun K x qual st f fd)(S:FnScope N ps (zac st))(len:∀vs H Q E,sp vs H Q E->vs.length=ps.length)
 (hbody:∀(cdv:Value) (A:Around) (outer:List Env) (s:Shared) (H:Hp) (vs:List V) (Q:VK) (E:XK),Room k (A.deeper (envOfC qual (zac st) s.heap.objs.size f cdv))->sp vs H Q E->
  ∃t,PSs (cxOf CX0 P w K mg base N qual (zac st) f cdv A outer s H E).nox (zaT st) t/\t {nx:=fun _ H'=>Q .non H',rt:=Q} (start N vs) H):FnOk P w K mg base CX0 (k+1) f fd ps sp:=by
 obtain⟨oc,od,kV,doc,pm,an,cdv,ct,osl,rfl,lk,hcd⟩:=F.ex;refine zkY lk hcd S len fun A outer s H vs Q E hr hsp=>?_
 obtain⟨t,h,q⟩:=hbody cdv A outer s H vs Q E hr hsp;exact⟨t,h.nox,q⟩
theorem Fun.binds {x qual:Str}{st:Stmt}{f:Addr}{fd:FuncData}{ps:List Str}(F:Fun K x qual st f fd)
 (h:∀(kV doc pm:Value) (an:Option Addr) (cdv ct:Value) (us:List Value),us.length=ps.length->bindArgs (W.fnOf x qual (zcu st) (zaT st) (zac st) .none kV doc pm an cdv ct) ⟨us,[]⟩=pure (ps.zip us)):Binds K fd ps []:=by
 obtain⟨oc,od,kV,doc,pm,an,cdv,ct,osl,rfl,lk,hcd⟩:=F.ex;exact .all (h kV doc pm an cdv ct)
theorem zkg {x qual:Str}{st:Stmt}{f:Addr}{oc:Value}{od an:Option Addr}{osl:Array (Option Value)}{kV doc pm cdv ct:Value}(l:K.lookup f=some ⟨oc,od,.func (W.fnOf x qual (zcu st) (zaT st) (zac st) .none kV doc pm an cdv ct),osl⟩)
 (c:W.codeIn K cdv qual=true) (k:W.keepIn K (.ref f)=true):Fun K x qual st f (W.fnOf x qual (zcu st) (zaT st) (zac st) .none kV doc pm an cdv ct):=⟨⟨oc,od,kV,doc,pm,an,cdv,ct,osl,rfl,l,c⟩,k⟩
end
theorem zoy {A:Around}{k:Nat}(hr:Room k A):A.units+1<cLine:=waV (Nat.add_le_add_left (by decide:1<=64) _) hr.units
section
variable {X:Cx}
end
theorem iteF {A B:Prop}(h:B):if false=true then A else B:=by
 rw[if_neg wbB];exact h
theorem iteT {A B:Prop}(h:A):if true=true then A else B:=by
 rw[if_pos rfl];exact h
def Same (H H':Hp):Prop:=∀b o,H b=some o->H' b=some o
theorem Same.refl (H:Hp):Same H H:=fun _ _ h=>h
theorem Same.trans {H H1 H2:Hp}(a:Same H H1)(b:Same H1 H2):Same H H2:=fun c o h=>b c o (a c o h)
theorem Same.free {H H':Hp}(e:Same H H'){l:Addr}(h:H' l=Option.none):H l=Option.none:=by
 cases q:H l with
 | none=>rfl
 | some o=>
   rw[e l o q] at h;cases h
end L2
namespace L2
open PySem PySem.Spec PyProof PyProof.Rows
section
variable {X:Cx}{pins:List (Addr×Obj)}{σ:St}{H:Hp}{s:Shared}
end
section
variable {X:Cx}{a b c:Expr}{ta tb tc:TE}{pos:Pos}
def rSlS:V->Option Int->Option Int->Hp->VK->Prop:=fun x lo hi H Q=>∃z,x=.str z/\z.length<=sizeLine/\Q (.str (Txt.slice z lo hi)) H
theorem zmL:SlR X rSlS:=by
 intro pins s σ H x v vl vu lo hi sl Q I rx hs pl pu h;obtain⟨z,rfl,hz,q⟩:=h;obtain⟨t,rfl⟩:=rx;refine⟨"str",_,F.slot_str_getitem.lookup,typeIs_str _ _ _,?_⟩;obtain⟨o,e1,e2,e3⟩:=hs;cases pl with
 | none=>
   cases pu with
   | none=>exact wby (l:=none) (u:=none) (st:=none) ⟨o,e1,e2,e3⟩ rfl (post_val_or_str ⟨wai (wcs z _ _) hz,fun t' k=>⟨.str (Txt.slice z none none),H,I.tok _,⟨_,rfl⟩,q⟩⟩)
   | int j uj=>exact wby (l:=none) (u:=some (j,uj)) (st:=none) ⟨o,e1,e2,e3⟩ rfl (post_val_or_str ⟨wai (wcs z _ _) hz,fun t' k=>⟨.str (Txt.slice z none (some j)),H,I.tok _,⟨_,rfl⟩,q⟩⟩)
 | int i ui=>
   cases pu with
   | none=>exact wby (l:=some (i,ui)) (u:=none) (st:=none) ⟨o,e1,e2,e3⟩ rfl (post_val_or_str ⟨wai (wcs z _ _) hz,fun t' k=>⟨.str (Txt.slice z (some i) none),H,I.tok _,⟨_,rfl⟩,q⟩⟩)
   | int j uj=>exact wby (l:=some (i,ui)) (u:=some (j,uj)) (st:=none) ⟨o,e1,e2,e3⟩ rfl (post_val_or_str ⟨wai (wcs z _ _) hz,fun t' k=>⟨.str (Txt.slice z (some i) (some j)),H,I.tok _,⟨_,rfl⟩,q⟩⟩)
theorem zfC {z:Str}{n:Int}(h1:-1000<=n)(h2:n<=1000)(h3:z.length<=1000):MulOk z n:=by
 refine⟨?_,fun h _=>?_,fun h _=>?_⟩
 ·have e1:¬n < -(2 ^ 63:Int):=by omega
  have e2:¬n≥2 ^ 63:=by omega
  rw[war e1,war e2];rfl
 ·have:(1000:Int)<=(2 ^ 63 - 1) / n:=by
   rw[Int.le_ediv_iff_mul_le (by omega)];omega
  omega
 ·have h4:z.length*n.toNat<=1000*1000:=Nat.mul_le_mul h3 (by omega)
  unfold PySem.Builtin.Str.tooLong;simp only[decide_eq_false_iff_not];have:sizeLine=16777216:=sizeLine_eq
  omega
theorem op_rep_str:OpR X (binaryOp .Mult) (fun x y H Q=>∃z n,x=.str z/\y=.int n/\-1000<=n/\n<=1000/\z.length<=1000/\Q (.str (Txt.mul z n)) H):=by
 intro pins s σ H x y v u Q I rx ry h;obtain⟨z,n,rfl,rfl,h1,h2,h3,q⟩:=h;obtain⟨t,rfl⟩:=rx;obtain⟨t',rfl⟩:=ry;exact SB.mul (zfC h1 h2 h3) fun t' k=>⟨.str (Txt.mul z n),H,I.tok _,⟨_,rfl⟩,q⟩
theorem zfD:zcs X (.builtin "isinstance") (fun xs H Q=>∃x n t k,xs = [x,.ty n]/\TyOf X.K H x t/\PySem.W.kitOne X.K t (.type n)=some k/\Q (.bl k) H):=by
 intro pins s σ H xs us Q I r h;obtain⟨x,n,t,k,rfl,ty,e,q⟩:=h;obtain⟨u,w',rfl,r1,r2⟩:=zho r;obtain rfl:w'=Value.type n:=r2;exact zhr I r1 ty e fun tk=>⟨.bl k,H,I.tok _,rfl,q⟩
end
theorem ObjOk.there {P:Program}{w:World}{H:Hp}{h:Heap}{a:Addr}{o:HO}(x:ObjOk P w H h a o):∃ob,h.get? a=some ob:=by
 induction o with
 | lst xs=>obtain⟨z,its,n,r,e⟩:=x;exact⟨_,e⟩
 | tup xs=>obtain⟨z,its,r,ob,e,c⟩:=x;exact⟨_,e⟩
 | dK kvs=>obtain⟨z,y,vs,r,ob,es,ep,e,c⟩:=x;exact⟨_,e⟩
 | dT kvs=>obtain⟨z,y,xs,r,ob,es,ep,e,c⟩:=x;exact⟨_,e⟩
 | set S n=>obtain⟨ob,es,ep,t,e,c⟩:=x;exact⟨_,e⟩
 | ins C dx fs=>obtain⟨d,z,ne,e,_⟩:=x;exact⟨_,e⟩
 | own y=>exact x
 | xd fs=>obtain⟨mA,⟨od,es,ep,e,c⟩,r⟩:=x;exact⟨_,e⟩
 | rng lo hi=>obtain⟨t,u,v,e⟩:=x;exact⟨_,e⟩
 | frz ob u ih=>exact⟨_,x.1⟩
 | tbl ps=>obtain⟨_,e,_⟩:=x;exact⟨_,e⟩
 | met f y=>exact⟨_,x⟩
 | ext φ=>exact x.2.1
section
variable {P:Program}{w:World}{K:W.Frag}{mg:Str->Option Value}{base:Heap}
theorem Fun.okC {x qual:Str}{st:Stmt}{f:Addr}{fd:FuncData}{N ps:List Str}{k:Nat}{sp:Sp}(F:Fun K x qual st f fd)(S:FnScope N ps (zac st))(len:∀vs H Q E,sp vs H Q E->vs.length=ps.length)
 (hbody:∀(cdv:Value) (A:Around) (outer:List Env) (s:Shared) (H:Hp) (vs:List V) (Q:VK) (E:XK),fd.code=cdv->Room k (A.deeper (envOfC qual (zac st) s.heap.objs.size f cdv))->sp vs H Q E->
  ∃t,PSs (cxOf CX0 P w K mg base N qual (zac st) f cdv A outer s H E).nox (zaT st) t/\t {nx:=fun _ H'=>Q .non H',rt:=Q} (start N vs) H):FnOk P w K mg base CX0 (k+1) f fd ps sp:=by
 obtain⟨oc,od,kV,doc,pm,an,cdv,ct,osl,rfl,lk,hcd⟩:=F.ex;refine zkY lk hcd S len fun A outer s H vs Q E hr hsp=>?_
 obtain⟨t,h,q⟩:=hbody cdv A outer s H vs Q E rfl hr hsp;exact⟨t,h.nox,q⟩
end
def PTs (X:Cx)(ifs:List Expr)(t:TT):Prop:=
 ∀(pins:List (Addr×Obj)) (s:Shared) (σ:St) (H:Hp) (Q:Bool->Hp->Prop),Inv X pins σ H s->t σ H Q->
  wpAny (model X.prog X.w) X.A (forIn ifs true fun c r=>if r=true then do let ok <-isTrue c X.env (eval c X.env);pure (ForInStep.yield ok) else pure (ForInStep.yield r)) (TP X pins σ Q) X.xe s
def zk5:TT:=fun _ H Q=>Q true H
theorem zk6 {X:Cx}:PTs X [] zk5:=fun _ _ _ H _ I h=>wpAny_tests_nil ⟨H,I,h⟩
theorem zk7 {X:Cx}{c:Expr}{t:TT}(h:PT X c t):PTs X [c] t:=fun pins s σ H Q I hw=>wpAny_tests_one (h pins s σ H Q I hw)
def cxC (X:Cx)(scope:Scope)(cl:List (Str×Addr))(NC:List Str)(C:Addr)(s0:Shared)(H0:Hp)(ex:List Addr)(pn:List (Addr×Obj)):Cx where
 prog:=X.prog
 w:=X.w
 K:=X.K
 mg:=X.mg
 base:=X.base
 A:=X.A
 N:=NC
 s₀:=s0
 Hz:=H0
 env:=compEnvC scope cl C X.env
 outer:=X.stack
 stack:=X.stack
 ex:=ex
 fn:=fun _=>false
 calm:=true
 pn:=pn
 xe:=fun _ _=>False
def pick (σ:St)(fr:List (Option Nat)):St:=fr.map fun o=>o.bind fun j=>(σ[j]?).join
theorem zhC {prog:Program}{w:World}{A:Around}{R:Result->Shared->Prop}{s:Shared}{elt target iter:Expr}{ifs:List Expr}{scope:Scope}{pos:Pos}{it acc:Value}{env:Env}(I:Nat->Shared->Prop)
 (turn:∀n s,I n s->wpAny (model prog w) A (pyNext it) (fun r s1=>
  (r=none->R (.ok .next) s1)/\∀v,r=some v->wpAny (model prog w) A (letOwnedTupleGo target it v) (fun _ s2=>wpAny (model prog w) A (assign target env v) (fun _ s3=>
   wpAny (model prog w) A (forIn ifs true fun c r=>if r=true then do let ok <-isTrue c env (eval c env);pure (ForInStep.yield ok) else pure (ForInStep.yield r)) (fun ok s4=>
    (ok=true->wpAny (model prog w) A (eval elt env) (fun x s5=>wpAny (model prog w) A (call (.builtin "list.append") [acc,x]) (fun _ s6=>∃m,m<n/\I m s6) (fun _ _=>False) s5) (fun _ _=>False) s4)/\
    (ok=false->∃m,m<n/\I m s4)) (fun _ _=>False) s3) (fun _ _=>False) s2) (fun _ _=>False) s1) (fun _ _=>False) s)
 (n:Nat) (h:I n s):codeAny (model prog w) A (.compLoop (.ListComp elt [⟨target,iter,ifs,0⟩] scope pos) 0 it acc env) R s:=by
 refine codeAny_loop rfl I (fun n s hI=>?_) n h;refine wpAny_noted (m:=compTurn (.ListComp elt [⟨target,iter,ifs,0⟩] scope pos) 0 it acc env) ?_;rw[compTurn_list];refine waa (wch (waa (waG (turn n s hI) (fun r s1 h1=>?_) fun _ _ f=>f.elim)));cases r with
 | none=>exact wah (h1.1 rfl)
 | some v=>
   refine waa (waG (h1.2 v rfl) (fun _ s2 h2=>?_) fun _ _ f=>f.elim);refine waa (waG h2 (fun _ s3 h3=>?_) fun _ _ f=>f.elim);refine waa (waG h3 (fun ok s4 h4=>?_) fun _ _ f=>f.elim);cases ok with
   | false=>exact wah ⟨rfl,h4.2 rfl⟩
   | true=>exact waa (waa (waG (h4.1 rfl) (fun x s5 h5=>waa (waG h5 (fun _ s6 h6=>wah (wah ⟨rfl,h6⟩)) fun _ _ f=>f.elim)) fun _ _ f=>f.elim))
def zfE (fr:List (Option Nat))(wi:TI)(g:TG)(tt:TT)(te:TE):TE:=fun σ H Q=>wi σ H fun J H1=>∀D,H1 D=none->∃W:Nat->Nat->List V->St->Hp->Prop,
 (∃m,W 0 m [] (pick σ fr) (upd H1 D (.lst [])))/\∀i m ys σ2 H2,W i m ys σ2 H2->H2 D=some (.lst ys)->
  (J.stop i H2/\Q (.ref D) H2)\/(J.go i H2/\∃N:List V->St->Hp->Prop,(∀zs σ' H',N zs σ' H'->∃m',m'<m/\W (i+1) m' zs σ' H')/\∀x H3,J.yld i H2 x H3->g x σ2 H3 fun σ4 H4=>tt σ4 H4 fun ok H5=>
   (ok=true->te σ4 H5 fun v H6=>H6 D=some (.lst ys)/\ys.length<sizeLine/\N (ys++[v]) σ4 (upd H6 D (.lst (ys++[v]))))/\
   (ok=false->H5 D=some (.lst ys)/\N ys σ4 H5))
theorem zge {X:Cx}{use:Option (Value->Sem Unit)}{R:Value->Shared->Prop}{pins:List (Addr×Obj)}{s:Shared}{σ:St}{H:Hp}{Q:VK}{cpos:Pos}{elt iter tg:Expr}{ifs:List Expr}{scope:Scope}{pos:Pos}{cl:List (Str×Addr)}{NC:List Str}{fr:List (Option Nat)}{wi:TI}{g:TG}{tt:TT}{te:TE}{RR:Hp->Prop}(hRR:∀pins σ H s,Inv X pins σ H s->RR H)(hcalm:X.calm=true)(hi:PI X tg iter wi)
 (hclos:closureFor scope X.env=pure cl) (hcell:∀y∈scope.names,y.2≠.cell) (hkind:scope.kind=.function) (hnames:∀y∈scope.names,y.2=.local->scope.names.lookup y.1=some .local)
 (hcl:∀x c,cl.lookup x=some c->X.env.cells.lookup x=some c)
 (hhas:∀x,((compEnvC scope cl 0 X.env).kindOf x=some .cell\/(compEnvC scope cl 0 X.env).kindOf x=some .free)->∃c,cl.lookup x=some c)
 (hfr:∀(i:Nat) (x:Str) (j:Nat),NC[i]?=some x->fr[i]?=some (some j)->X.N[j]?=some x/\Vis X.env.scope x/\X.env.kindOf x≠some .local/\((compEnvC scope cl 0 X.env).kindOf x=some .cell\/(compEnvC scope cl 0 X.env).kindOf x=some .free))
 (hlen:fr.length=NC.length)
 (hg:∀C s0 H0 ex pn,PG (cxC X scope cl NC C s0 H0 ex pn) tg g) (ht:∀C s0 H0 ex pn,PTs (cxC X scope cl NC C s0 H0 ex pn) ifs tt) (he:∀C s0 H0 ex pn,RR H0->PE (cxC X scope cl NC C s0 H0 ex pn) elt te)
 (hs:∀x,foldedSetIterable iter X.env x=pure x) (I:Inv X pins σ H s) (h:zfE fr wi g tt te σ H Q)
 (hfin:∀(C D:Addr) (H':Hp) (s':Shared) (m:Str->Option Value),Inv X pins σ H' s'->s'.heap.Ns C m->FpOk X pins H' C->Q (.ref D) H'->compPost (model X.prog X.w) X.A X.xe use R (.ref D) C (.ok .next) s') :
 wpAny (model X.prog X.w) X.A (comprehension (.ListComp elt [⟨tg,iter,ifs,0⟩] scope pos) scope X.env cpos (newList []) false (eval iter X.env) use) R X.xe s:=by
 refine wpAny_comprehension_free (use:=use) (g:=⟨tg,iter,ifs,0⟩) (gs:=[]) rfl hs hclos hkind hnames (thn (hi pins s σ H _ I h) fun v s1 h1=>thn h1 fun itv s2 h2=>?_);obtain⟨it,fp,tn,J,H1,e,I2,T,st2,f2,hW⟩:=h2;subst e;refine wbb (wpAny_newFunctionEnv hcell (by intro y hy;simp at hy) (fun h4 hn4 hs4=>?_) hkind);have hD0:H1 s2.heap.objs.size=none:=I2.hok.fresh (wan _)
 obtain⟨W,⟨m0,w0⟩,turn⟩:=hW s2.heap.objs.size hD0;generalize hDe:s2.heap.objs.size=D at hD0 w0 turn;generalize h3e:s2.heap.push {cls:=.type "list",dict:=none,data:=.seq ([]:List Value).toArray}=h3 at hn4 hs4;have sz3:h3.objs.size=D+1:=by rw[<-h3e,wct,hDe]
 have k3:∀b o,s2.heap.get? b=some o->h3.get? b=some o:=fun b o e=>by rw[<-h3e];exact wac _ e
 have ltD:∀{b:Addr}{o:Obj},s2.heap.get? b=some o->b<D:=fun e=>by rw[<-hDe];exact wae e
 have d3:h3.get? D=some {cls:=.type "list",data:=.seq ([]:List Value).toArray}:=by rw[<-h3e,<-hDe];exact wav _ rfl
 have I3:Inv X pins σ (upd H1 D (.lst [])) {s2 with heap:=h3}:=I2.laid (h':=h3) (t':=s2.toks) k3 (wbu hDe) ⟨wcm _,[],0,.nil,d3⟩
 have rH:=hRR _ _ _ _ I3
 generalize hCe:h3.objs.size=C at hn4 hs4;have k4:∀b o,h3.get? b=some o->h4.get? b=some o:=fun b o e=>hs4.extBut b o (fun z=>by rw[z,<-hCe] at e;exact absurd (wae e) (wbj _)) (wac _ e)
 have ltC:∀{b:Addr}{o:Obj},h3.get? b=some o->b<C:=fun e=>by rw[<-hCe];exact wae e
 have hne:∀(c:Env->Addr),True:=fun _=>trivial
 have okC:(cxC X scope cl NC C {s2 with heap:=h3} (upd H1 D (.lst [])) fp (X.pn++pins)).Ok:=by
  refine⟨I.ok.mod,?_,I.ok.glob,I.ok.blt,wbu hCe,fun x y c h1 h2=>I.ok.inj x y c (hcl x c h1) (hcl y c h2),fun x hx=>hhas x hx,fun x c hf _=>(by cases hf),fun _=>I.ok.hd hcalm,I.ok.frames,.inl rfl,fun b hb=>⟨?_,fun x c e=>?_⟩,fun b o e=>I3.bs b o e,?_,fun b o e hb=>?_,fun b hb hf=>?_,?_,fun b hb=>I3.stkFree b hb⟩
  ·show(relabel scope X.env).kind=.function
   exact hkind
  ·obtain⟨o,eo,_⟩:=T.obj _ _ st2 b hb;exact waz (ltC (k3 b o eo))
  ·exact(f2 b hb).2.2.2.2.1 x c (hcl x c e)
  ·exact wai I.ok.bsz I3.sz
  ·obtain⟨e1,_⟩:=I.ok.bs b o e;have f:=f2 b hb
   rcases f.2.2.2.1 with z | z
   ·exact I.ok.noex b o e z
   ·exact absurd (waj (wae e1) z) (wbj _)
  ·rcases wag.mp (I2.stkSub b hf) with z | z
   ·exact(f2 b hb).2.1 z
   ·exact(f2 b hb).2.2.1 z
  ·exact I3.stack
 have IC:Inv (cxC X scope cl NC C {s2 with heap:=h3} (upd H1 D (.lst [])) fp (X.pn++pins)) [] (pick σ fr) (upd H1 D (.lst [])) {s2 with heap:=h4,toks:=s2.toks+([]:List (Str×Value)).length}:=by
  refine⟨okC,rfl,I2.bare,Un.kept k4,⟨_,hn4,fun i x v hN hv hvis=>?_⟩,fun x c e=>?_,?_,fun x c e=>I3.freeC x c (hcl x c e),fun p hp=>?_,I3.hok.kept k4,?_⟩
  ·have hfi:∃j,fr[i]?=some (some j)/\σ[j]?=some (some v):=by
    unfold pick at hv;rw[wam] at hv;cases e1:fr[i]? with
    | none=>rw[e1] at hv;cases hv
    | some o=>
      rw[e1] at hv;cases o with
      | none=>cases hv
      | some j=>
        refine⟨j,rfl,?_⟩;have hv':(σ[j]?).join=some v:=wau hv
        cases e2:σ[j]? with
        | none=>rw[e2] at hv';cases hv'
        | some w'=>rw[e2] at hv';exact waN some hv'
   obtain⟨j,hj,hσ⟩:=hfi;obtain⟨q1,q2,q3,q4⟩:=hfr i x j hN hj;obtain⟨m,hm,hl⟩:=I3.loc;obtain⟨u,ru,lk⟩:=hl j x v q1 hσ q2;refine⟨u,ru,?_⟩;rcases lk with⟨z,_⟩ | ⟨_,c,ec,ic⟩
   ·exact absurd z q3
   ·obtain⟨c',ec'⟩:=hhas x q4;have:c'=c:=by rw[hcl x c' ec'] at ec;exact wau ec
    subst this;obtain⟨oc,h1,h2⟩:=ic;exact .inr ⟨q4,c',ec',oc,k4 _ _ h1,h2⟩
  ·obtain⟨v,oc,h1,h2⟩:=I3.cell x c (hcl x c e);exact⟨v,oc,k4 _ _ h1,h2⟩
  ·show upd H1 D (.lst []) C=none
   exact I3.hok.fresh (wbu hCe)
  ·have hp':p∈X.pn++pins:=by simpa[cxC] using hp
   obtain⟨e1,e2,e3,e4,e5⟩:=I3.pin p hp';refine⟨k4 _ _ e1,e2,waz (ltC e1),fun z=>?_,e5⟩;rcases wag.mp (I2.stkSub p.1 z) with z' | z'
   ·exact e3 z'
   ·exact e4 z'
  ·unfold pick;rw[wao];exact hlen
 have fC:∀b∈fp,FpOk (cxC X scope cl NC C {s2 with heap:=h3} (upd H1 D (.lst [])) fp (X.pn++pins)) [] H1 b:=fun b hb=>by
  obtain⟨q1,q2,q3,q4,q5,q6⟩:=f2 b hb;obtain⟨o,eo,_⟩:=T.obj _ _ st2 b hb;refine⟨q1,waz (ltC (k3 b o eo)),fun z=>?_,.inl hb,fun x c e=>q5 x c (hcl x c e),fun p hp=>q6 p (by simpa[cxC] using hp)⟩;rcases wag.mp (I2.stkSub b z) with z' | z'
  ·exact q2 z'
  ·exact q3 z'
 have stat:∀{H':Hp},(∀b∈fp,H' b=none)->∀b∈fp,FpOk (cxC X scope cl NC C {s2 with heap:=h3} (upd H1 D (.lst [])) fp (X.pn++pins)) [] H' b:=fun hn b hb=>⟨hn b hb,(fC b hb).2⟩
 have fD:∀b∈fp,b≠D:=fun b hb z=>by
  obtain⟨o,eo,_⟩:=T.obj _ _ st2 b hb;have:=ltD eo
  rw[z] at this;exact absurd this (wbj _)
 have st4:tn 0 h4:=T.keep _ _ _ st2 fun b hb o e=>k4 b o (k3 b o e)
 have fin:∀{σ':St}{H':Hp}{s':Shared},Inv (cxC X scope cl NC C {s2 with heap:=h3} (upd H1 D (.lst [])) fp (X.pn++pins)) [] σ' H' s'->Q (.ref D) H'->compPost (model X.prog X.w) X.A X.xe use R (.ref D) C (.ok .next) s':=fun {σ' H' s'} I' q'=>by
  obtain⟨m,hm,_⟩:=I'.loc;have hfp:FpOk X pins H' C:=⟨I'.free,(I3.fpOk (wbu hCe) (I3.hok.fresh (wbu hCe))).2⟩
  refine hfin C D H' s' m ?_ hm hfp q';have nC:∀{b:Addr}{o:Obj},s2.heap.get? b=some o->b≠C:=fun e=>waz (ltC (k3 _ _ e))
  have nD:∀{b:Addr}{o:Obj},s2.heap.get? b=some o->b≠D:=fun e=>waz (ltD e)
  refine I2.call' (s':=s') (ch:=fp) ?_ ⟨fun b o e n hf hx=>?_,fun b o e n hf hx=>?_,fun b o e n hx=>?_,fun b o e hx=>?_,fun b xs e=>?_,fun b o u e=>?_,fun b ps e=>?_⟩ (fun b u e=>?_) I'.bare fun b hb=>?_
  ·exact I'.os
  ·exact(I'.base.keep b o (k3 b o e) (by show upd H1 D _ b=none;rw[zag (nD e)];exact n) hf hx)
  ·obtain⟨sl,z⟩:=I'.base.slot b o (k3 b o e) (by show upd H1 D _ b=none;rw[zag (nD e)];exact n) hf hx;exact⟨sl,z⟩
  ·exact I'.base.free b o (k3 b o e) (by show upd H1 D _ b=none;rw[zag (nD e)];exact n) hx
  ·obtain⟨o',z⟩:=I'.base.there b o (k3 b o e) hx;exact⟨o',z⟩
  ·exact I'.base.tups b xs (by show upd H1 D _ b=_;rw[zag (zaH e hD0)];exact e)
  ·exact I'.base.frzs b o u (by show upd H1 D _ b=_;rw[zag (zaH e hD0)];exact e)
  ·exact I'.base.tbls b ps (by show upd H1 D _ b=_;rw[zag (zaH e hD0)];exact e)
  ·exact I'.hok b u e
  ·obtain⟨q1,q2,q3,q4,q5,q6⟩:=f2 b hb;exact⟨q4,q2,q5,q6⟩
 have loop:codeAny (model X.prog X.w) X.A (.compLoop (.ListComp elt [⟨tg,iter,ifs,0⟩] scope pos) 0 (.ref it) (.ref D) (compEnvC scope cl C X.env)) (compPost (model X.prog X.w) X.A X.xe use R (.ref D) C) {s2 with heap:=h4,toks:=s2.toks+([]:List (Str×Value)).length}:=by
  refine zhC (fun n s'=>∃i ys σ' H',Inv (cxC X scope cl NC C {s2 with heap:=h3} (upd H1 D (.lst [])) fp (X.pn++pins)) [] σ' H' s'/\tn i s'.heap/\(∀b∈fp,H' b=none)/\H' D=some (.lst ys)/\W i n ys σ' H') ?_ m0 ⟨0,[],_,_,IC,st4,fun b hb=>by rw[zag (fD b hb)];exact(f2 b hb).1,zaf,w0⟩;rintro n s3 ⟨i,ys,σ3,H3,J3,st3,fr3,hD3,w3⟩;rcases turn i n ys σ3 H3 w3 hD3 with⟨stop,qn⟩ | ⟨go,N,hN,step⟩
  ·refine thn (T.done (cxC X scope cl NC C {s2 with heap:=h3} (upd H1 D (.lst [])) fp (X.pn++pins)) rfl rfl rfl rfl i [] s3 σ3 H3 _ J3 (stat fr3) st3 stop) fun r s4 ⟨hr,J4⟩ =>⟨fun _=>fin J4 qn,fun v z=>?_⟩
   rw[hr] at z;cases z
  ·refine thn (T.item (cxC X scope cl NC C {s2 with heap:=h3} (upd H1 D (.lst [])) fp (X.pn++pins)) rfl rfl rfl rfl i [] s3 σ3 H3 _ J3 (stat fr3) st3 go) fun r s4 ⟨u,hr,h4'⟩ =>⟨fun z=>?_,fun v z=>?_⟩
   ·rw[hr] at z;cases z
   rw[hr] at z;cases z;refine thn h4' fun _ s5 ⟨x,H5,J5,r5,y5,st5,fr5⟩ =>?_
   have J5':=J5.pinned (stat fr5) (T.obj _ _ st5)
   refine thn (hg C _ _ fp _ _ s5 σ3 H5 x _ _ J5' r5 (step x H5 y5)) fun _ s6 ⟨σ6,H6,J6,q6⟩ =>?_
   have back:∀{σ7:St}{H7:Hp}{s7:Shared},Inv (cxC X scope cl NC C {s2 with heap:=h3} (upd H1 D (.lst [])) fp (X.pn++pins)) ([]++zeM fp s5.heap) σ7 H7 s7->tn (i+1) s7.heap/\∀b∈fp,H7 b=none:=fun {σ7 H7 s7} J7=>
    ⟨T.keep _ _ _ st5 fun b hb o e=>(J7.pin (b,o) (waw _ (waw _ (zb9 hb e)))).1,fun b hb=>by
     obtain⟨o,e,d⟩:=T.obj _ _ st5 b hb;exact(J7.pin (b,o) (waw _ (waw _ (zb9 hb e)))).2.1⟩
   refine thn (ht C _ _ fp _ _ s6 σ6 H6 _ J6 q6) fun ok s7 ⟨H7,J7,q7⟩ =>⟨fun hok=>?_,fun hok=>?_⟩
   ·refine thn (he C _ _ fp _ rH _ s7 σ6 H7 _ J7 (q7.1 hok)) fun xv s8 ⟨v,H8,J8,r8,hD8,hz,n8⟩ =>?_
    obtain⟨m',hm,w8⟩:=hN _ _ _ n8;refine thn (zeU (X:=cxC X scope cl NC C {s2 with heap:=h3} (upd H1 D (.lst [])) fp (X.pn++pins)) _ s8 σ6 H8 (.ref D) [v] (.ref D) [xv] (fun _ H9=>H9=upd H8 D (.lst (ys++[v]))) J8 rfl (.cons r8 .nil) ⟨D,ys,v,rfl,rfl,hD8,hz,rfl⟩) fun _ s9 ⟨_,H9,J9,_,e9⟩ =>?_
    subst e9;obtain⟨b1,b2⟩:=back J9;exact⟨m',hm,i+1,_,_,_,J9.unpinned,b1,b2,zaf,w8⟩
   ·obtain⟨hD7,n7⟩:=q7.2 hok;obtain⟨m',hm,w7⟩:=hN _ _ _ n7;obtain⟨b1,b2⟩:=back J7;exact⟨m',hm,i+1,_,_,_,J7.unpinned,b1,b2,hD7,w7⟩
 refine codeAny_compStart_list (rest:=[]) loop (T.self X.A 0 _ _ _ st4 loop)
theorem zi5 {X:Cx}{elt iter tg:Expr}{ifs:List Expr}{scope:Scope}{pos:Pos}{cl:List (Str×Addr)}{NC:List Str}{fr:List (Option Nat)}{wi:TI}{g:TG}{tt:TT}{te:TE}{RR:Hp->Prop}(hRR:∀pins σ H s,Inv X pins σ H s->RR H)(hcalm:X.calm=true)(hi:PI X tg iter wi)
 (hclos:closureFor scope X.env=pure cl) (hcell:∀y∈scope.names,y.2≠.cell) (hkind:scope.kind=.function) (hnames:∀y∈scope.names,y.2=.local->scope.names.lookup y.1=some .local)
 (hcl:∀x c,cl.lookup x=some c->X.env.cells.lookup x=some c)
 (hhas:∀x,((compEnvC scope cl 0 X.env).kindOf x=some .cell\/(compEnvC scope cl 0 X.env).kindOf x=some .free)->∃c,cl.lookup x=some c)
 (hfr:∀(i:Nat) (x:Str) (j:Nat),NC[i]?=some x->fr[i]?=some (some j)->X.N[j]?=some x/\Vis X.env.scope x/\X.env.kindOf x≠some .local/\((compEnvC scope cl 0 X.env).kindOf x=some .cell\/(compEnvC scope cl 0 X.env).kindOf x=some .free))
 (hlen:fr.length=NC.length)
 (hg:∀C s0 H0 ex pn,PG (cxC X scope cl NC C s0 H0 ex pn) tg g) (ht:∀C s0 H0 ex pn,PTs (cxC X scope cl NC C s0 H0 ex pn) ifs tt) (he:∀C s0 H0 ex pn,RR H0->PE (cxC X scope cl NC C s0 H0 ex pn) elt te)
 (hs:∀x,foldedSetIterable iter X.env x=pure x:=by intro _;rfl):PE X (.ListComp elt [⟨tg,iter,ifs,0⟩] scope pos) (zfE fr wi g tt te):=by
 intro pins s σ H Q I h;rw[eval_ListComp];refine zge (use:=none) (R:=EP X pins σ Q) hRR hcalm hi hclos hcell hkind hnames hcl hhas hfr hlen hg ht he hs I h fun C D H' s' m I' hm hfp q=>?_
 obtain⟨f0,f1,f2,f3,f4,f5⟩:=hfp;exact⟨m,hm,fun h' hs'=>⟨.ref D,H',I'.turned (t':=s'.toks) (fun b o hb e=>hs'.extBut b o hb e) f0 f1 f3 f4 f5,rfl,q⟩⟩
theorem pgC (i:Nat){X:Cx}{scope:Scope}{cl:List (Str×Addr)}{NC:List Str}{C:Addr}{s0:Shared}{H0:Hp}{ex:List Addr}{pn:List (Addr×Obj)}{x:Str}{pos:Pos}(nd:NC.Nodup)(hi:NC[i]?=some x)(hx:scope.names.lookup x=some .local) :
 PG (cxC X scope cl NC C s0 H0 ex pn) (.Name x pos) (zdV i):=zhj (X:=cxC X scope cl NC C s0 H0 ex pn) nd hi (.inl (lookup_relabel_local hx)) (.inr (lookup_relabel_local hx))
end L2
namespace En
open PySem
open AutoSeq1 (wpAny_loadPart')
section
variable {prog:Program}{w:World}{A:Around}{E:Value->Shared->Prop}{s:Shared}
theorem zk8 {it t:Addr}{i:Nat}{items:Array Value}{x:Value}{Q:Value->Shared->Prop}(a1:s.heap.IsTupleIter it t i)(a2:s.heap.IsTuple t items)(a3:items[i]?=some x)
 (q:∀h',h'.IsTupleIter it t (i+1)->Heap.SameBut it s.heap h'->Q x {s with heap:=h'}):wpAny (model prog w) A (Builtin.SmallTypes.nextOf (.ref it)) Q E s:=by
 obtain⟨o,b1,b2,b3⟩:=id a1;obtain⟨ot,c1,_,n,c2⟩:=a2;unfold Builtin.SmallTypes.nextOf;have body:wpAny (model prog w) A.in1 (Builtin.«tuple_iterator.__next__» ⟨[.ref it],[]⟩) (fun f s'=>∃v,f=.done (.ret v)/\Q v s') E s:=by
  show wpAny _ _ (do let v <-field (.ref it) 0;_) _ _ s
  refine waa (waS b1 b3 (x:=.ref t) rfl ?_);show wpAny _ _ (ite ((Value.ref t == Value.none)=true) _ _) _ _ s
  rw[if_neg (show ¬(Value.ref t == Value.none)=true by intro z;cases z)];show wpAny _ _ (do let v <-field (.ref it) 1;_) _ _ s
  refine waa (waS b1 b3 (x:=.int i 0) rfl ?_);show wpAny _ _ (do let v <-seqItems? (.ref t);_) _ _ s
  refine waa (wpAny_seqItems c1 c2 ?_);simp only[wbG,a3];refine waa (wbK b1 b3 (by simp) (wah ⟨x,rfl,q _ ⟨_,waU _ b1 (wbD (wbi b3 _)),(Obj.cls_mapFields ..).trans b2,?_⟩ (Heap.SameBut.update ..)⟩));rw[wbi b3];simp[rawInt]
 have nx:=F.slot_tuple_iterator_next
 exact waa (wbS (name:=Str.ofString "__next__") a1.typeIs nx (wbL nx a1.typeIs F.entry_tuple_iterator_next (waG body (fun f s' ⟨v,e,h⟩ =>⟨v,e,wah h⟩) fun _ _ x=>x) (F.args_tuple_iterator_next_1 _)))
theorem zkh {it t:Addr}{i:Nat}{items:Array Value}{Q:Value->Shared->Prop}(hh:A.handled=none)(a1:s.heap.IsTupleIter it t i)(a2:s.heap.IsTuple t items)(a3:items[i]?=none)
 (q:∀h' e,Heap.ExtBut it s.heap h'->(∃o,h'.get? e=some o/\o.cls=.type "StopIteration")->E (.ref e) {s with heap:=h'}):wpAny (model prog w) A (Builtin.SmallTypes.nextOf (.ref it)) Q E s:=by
 obtain⟨o,b1,b2,b3⟩:=id a1;obtain⟨ot,c1,_,n,c2⟩:=a2;unfold Builtin.SmallTypes.nextOf;have nx:=F.slot_tuple_iterator_next
 refine waa (wbS (name:=Str.ofString "__next__") a1.typeIs nx (wbL nx a1.typeIs F.entry_tuple_iterator_next ?_ (F.args_tuple_iterator_next_1 _)));show wpAny _ _ (do let v <-field (.ref it) 0;_) _ _ s
 refine waa (waS b1 b3 (x:=.ref t) rfl ?_);show wpAny _ _ (ite ((Value.ref t == Value.none)=true) _ _) _ _ s
 rw[if_neg (show ¬(Value.ref t == Value.none)=true by intro z;cases z)];show wpAny _ _ (do let v <-field (.ref it) 1;_) _ _ s
 refine waa (waS b1 b3 (x:=.int i 0) rfl ?_);show wpAny _ _ (do let v <-seqItems? (.ref t);_) _ _ s
 refine waa (wpAny_seqItems c1 c2 ?_);simp only[wbG,a3];refine waa (wpAny_rule (waa (wbK b1 b3 (by simp) ?_)));show wpAny _ _ (do let x <-newExc (.type "StopIteration") [];_) _ _ _
 refine waa ?_;simp only[newExc,newTuple];refine waa (wbb ?_ (by size_fits));refine waa (m:=firstArgMember _ _) (wbY (a:=Value.none) (by first | rfl | (simp only[firstArgMember];rfl)) ?_);refine wbb ?_ (by size_fits);simp only[raiseNew];refine waa (wpAny_handled ?_);first | rw[show A.in1.handled=none from hh] | rw[hh]
 exact waa (wah (wpAny_throw (q _ _ (((Heap.SameBut.update ..).extBut.push _).push _) ⟨_,wav _ rfl,rfl⟩)))
end
theorem draws_tuple {prog:Program}{w:World}{A:Around}(hh:A.handled=none)(it t:Addr)(hne:t≠it)(items:Array Value) :
 Draws prog w A it [it,t] items.size (fun i v=>items[i]?=some v) (fun i h=>h.IsTupleIter it t i/\h.IsTuple t items) where
 live:=fun _ _ st=>let ⟨o,ho,_⟩:=st.1;⟨o,ho⟩
 frame:=fun _ _ _ ⟨⟨o,e,r⟩,⟨o',e',r'⟩⟩ hk=>⟨⟨o,hk it (by simp) o e,r⟩,⟨o',hk t (by simp) o' e',r'⟩⟩
 item:=fun i s Q E hi st hQ=>zk8 st.1 st.2 (x:=items[i]) (by simp[hi]) fun h' a b=>hQ _ h' s.toks (by simp[hi]) ⟨a,st.2.extBut b.extBut hne⟩ b
 done:=fun s Q E st hE=>zkh hh st.1 st.2 (by simp) hE
theorem draws_end {prog:Program}{w:World}{A:Around}(hh:A.handled=none)(it t:Addr)(i:Nat)(items:Array Value)(hx:items[i]?=none) :
 Draws prog w A it [it,t] i (fun i v=>items[i]?=some v) (fun j h=>j=i/\h.IsTupleIter it t i/\h.IsTuple t items) where
 live:=fun _ _ st=>let ⟨o,ho,_⟩:=st.2.1;⟨o,ho⟩
 frame:=fun _ _ _ ⟨hj,⟨o,e,r⟩,⟨o',e',r'⟩⟩ hk=>⟨hj,⟨o,hk it (by simp) o e,r⟩,⟨o',hk t (by simp) o' e',r'⟩⟩
 item:=fun j s Q E hi st hQ=>by rw[st.1] at hi;exact absurd hi (wbj _)
 done:=fun s Q E st hE=>zkh hh st.2.1 st.2.2 hx hE
theorem zhD (t:Addr)(items:Array Value)(n:Nat)(dct:Option Addr)(sl:Array (Option Value)) :
 Meets (Builtin.«enumerate.__new__» ⟨[.type "enumerate",.ref t],[]⟩) (fun _ R s=>s.heap.get? t=some {cls:=.type "tuple",dict:=dct,data:=.seq items n,slots:=sl}/\
  R (.ok (.ret (.ref (s.heap.push {cls:=.type "tuple_iterator",data:=.fields #[.ref t,.int 0 0]}).objs.size)))
    {s with heap:=(s.heap.push {cls:=.type "tuple_iterator",data:=.fields #[.ref t,.int 0 0]}).push {cls:=.type "enumerate",data:=.fields #[.none,.bool false,.ref s.heap.objs.size,rawInt 0,.none,.none]}}):=
 .of_wp fun prog w A R s h=>by
  obtain⟨hp,g,d,tk,os⟩:=s;obtain⟨hl,h⟩:=h;have hsub:=PySem.sub_enumerate
  have hL:Heap.IsTuple (Shared.heap ⟨hp,g,d,tk,os⟩) t items:=⟨_,hl,rfl,n,rfl⟩
  wp_walk using wbh hl
  refine wpAny_stack_any fun st=>wah ?_
  split
  ·rename_i c _ _ _ _ _
   cases(c == Value.type "enumerate")
   ·wp_walk using wbh hl,wbN hL
    exact⟨_,rfl,h⟩
   ·wp_walk using wbh hl,wbN hL
    exact⟨_,rfl,h⟩
  ·wp_walk using wbh hl,wbN hL
   exact⟨_,rfl,h⟩
theorem call_enum {prog:Program}{w:World}{A:Around}{E:Value->Shared->Prop}{s:Shared}{t:Addr}{items:Array Value}{Q:Value->Shared->Prop}(hL:s.heap.IsTuple t items)
 (h:∀h',IsEnum h' (s.heap.objs.size+1) s.heap.objs.size 0 .none->h'.IsTupleIter s.heap.objs.size t 0->h'.objs.size=s.heap.objs.size+2->
  (∀b o,s.heap.get? b=some o->h'.get? b=some o)->Q (.ref (s.heap.objs.size+1)) {s with heap:=h'}) :
 wpAny (model prog w) A (call (.type "enumerate") [.ref t]) Q E s:=by
 obtain⟨⟨c,dct,dt,sl⟩,hl,hc,n,hd⟩:=hL;obtain rfl:c=.type "tuple":=hc;obtain rfl:dt=.seq items n:=hd;refine callType_new F.called_enumerate (by decide) (F.typeCall_enumerate_1 _) (F.newCall_enumerate_1 _) (fun obj=>F.args_object_init_2 obj _) F.entry_enumerate_new (zhD t items n dct sl) ⟨hl,?_⟩;have hz:(s.heap.push {cls:=.type "tuple_iterator",data:=.fields #[.ref t,.int 0 0]}).objs.size=s.heap.objs.size+1:=wct ..
 have q:=wav (s.heap.push {cls:=.type "tuple_iterator",data:=.fields #[.ref t,.int 0 0]}) (o:={cls:=.type "enumerate",data:=.fields #[.none,.bool false,.ref s.heap.objs.size,rawInt 0,.none,.none]}) rfl
 show _/\_
 rw[hz] at q⊢;exact⟨⟨_,q,rfl⟩,h _ q ⟨_,wac _ (wav _ rfl),rfl,rfl⟩ (by rw[wct,hz]) fun b o x=>wac _ (wac _ x)⟩
end En
namespace L2
open PySem PySem.Spec PyProof PyProof.Rows
theorem Inv.laidF {X:Cx}{pins:List (Addr×Obj)}{σ:St}{H:Hp}{s:Shared}{h':Heap}{t':Nat}{fp:List Addr}{D:Addr}{o:HO}(I:Inv X pins σ H s)(hf:∀b∈fp,FpOk X pins H b)(k:∀b o,b∉fp->s.heap.get? b=some o->h'.get? b=some o)
 (hth:∀b∈fp,∃o,h'.get? b=some o) (hD:s.heap.get? D=none) (new:ObjOk X.prog X.w (upd H D o) h' D o):H D=none/\Inv X pins σ (upd H D o) {s with heap:=h',toks:=t'}:=by
 have hHD:H D=none:=by
  cases e:H D with
  | none=>rfl
  | some u=>
    obtain⟨ob,q⟩:=(I.hok D u e).there;rw[hD] at q;cases q
 refine⟨hHD,?_⟩;have nit:∀b u,H b=some u->b∉fp:=fun b u e z=>by rw[(hf b z).1] at e;cases e
 have nD:∀b u,H b=some u->b≠D:=fun b u e z=>by rw[z,hHD] at e;cases e
 have nD':∀b ob,s.heap.get? b=some ob->b≠D:=fun b u e z=>by rw[z,hD] at e;cases e
 refine I.step (g':=s.gens) (d':=s.drawn) (t':=t') (ch:=fp) (fun b hb=>?_) (fun b o _ _ hc e _=>k b o hc e) (fun b o _ _ hc e _=>⟨o.slots,k b o hc e⟩) (fun b ob _ e n=>by rw[zag (nD' b ob e)];exact n)
  (fun b o hc e=>⟨o,k b o hc e⟩) (fun b _ e=>by rw[zag (nD b _ e)];exact e) (fun b _ _ e=>by rw[zag (nD b _ e)];exact e) (fun b ps e=>⟨#[],by rw[zag (nD b _ e),e];simp⟩) (fun m hm=>?_) (fun b u e=>?_) I.bare
 ·obtain⟨f0,f1,f2,f3,f4,f5⟩:=hf b hb;exact⟨f3,f1,f4,f5⟩
 ·obtain⟨o,es,ep,ho,r⟩:=hm;exact⟨o,es,ep,k _ o (fun z=>(hf _ z).2.1 rfl) ho,r⟩
 ·by_cases z:b=D
  ·subst z;rw[zaf] at e;cases e;exact new
  ·rw[zag z] at e;refine(I.hok b u e).stay (fun c v hc q=>k c v ?_ q) (fun c q=>by rw[zag (nD c _ q)];exact q) fun c _ _ q=>by rw[zag (nD c _ q)];exact q
   rcases hc with z | z
   ·rw[z];exact nit b u e
   ·exact nit c _ z
def Ite (K:W.Frag)(a:Addr):It:=
 ⟨fun i H=>∃xs x,SqT K H a xs/\xs[i]?=some x,fun i H x H'=>∃p,H p=none/\x=.ref p/\∀xs,SqT K H a xs->∃y,xs[i]?=some y/\H'=upd H p (.tup [.int (i:Nat),y]),fun i H=>∃xs,SqT K H a xs/\xs.length<=i⟩
theorem zhE {P:Program}{w:World}{K:W.Frag}{elts:List Expr}{x1}{tpos:Pos}(a e it:Addr)(hei:e≠it)(hae:a≠e)(hai:a≠it) :
 Turn P w K (.Tuple elts x1 tpos) (Ite K a) [e,it] e (fun i h=>(∃old,IsEnum h e it (i:Nat) old)/\h.IsTupleIter it a i) where
 mem:=by simp
 obj:=fun i h st b hb=>by
  obtain⟨⟨old,e1⟩,o,e2,c,d⟩:=st;rcases wag.mp hb with z | z
  ·subst z;exact⟨_,e1,fun v z=>by cases z⟩
  ·have z:=waq.mp z
   subst z;exact⟨o,e2,fun v z=>by rw[d] at z;cases z⟩
 keep:=fun i h h' st k=>by
  obtain⟨⟨old,e1⟩,o,e2,c,d⟩:=st;exact⟨⟨old,k e (by simp) _ e1⟩,o,k it (by simp) _ e2,c,d⟩
 item:=by
  intro X hP hw hK hc i pins s σ H E I hf st hg;subst hP hw hK;obtain⟨⟨old,en⟩,ti⟩:=st;obtain⟨xs,x,hq,hx⟩:=hg;obtain⟨its,rv,p,hz⟩:=I.tuple hq;obtain⟨u,hu,ru⟩:=rv.get hx;have hl:=rv.length
  have hlt:i<its.toArray.size:=by
   rw[wab,<-hl];exact(wak.mp hx).1
  have hh:X.A.in1.handled=none:=I.ok.hd hc
  refine wpAny_pyNext_enum_itemD (En.draws_tuple (A:=X.A.in1) hh it a hai its.toArray) en ⟨ti,p⟩ hlt hei (by simp[hei,Ne.symm hae]) fun y h' tk hy en' st' tup sz k=>?_
  have ey:y=u:=by
   have hy':its[i]?=some y:=by simpa using hy
   rw[hu] at hy';exact(wau hy').symm
  subst ey;refine⟨_,rfl,wpAny_letOwnedTupleGo_enum en' fun h2 en2 sb2=>?_⟩;have frS:s.heap.get? s.heap.objs.size=none:=by
   cases q:s.heap.get? s.heap.objs.size with
   | none=>rfl
   | some o=>exact absurd (wae q) (wbj _)
  have neS:∀b∈[e,it],b≠s.heap.objs.size:=fun b hb z=>by
   rcases wag.mp hb with q | q
   ·have en1:=(show s.heap.get? e=some _ from en)
    rw[<-z,q,en1] at frS;cases frS
   ·obtain⟨o,e2,_⟩:=ti;rw[<-z,waq.mp q,e2] at frS;cases frS
  obtain⟨hn,I1⟩:=I.laidF (h':=h2) (t':=tk+1) (fp:=[e,it]) (D:=s.heap.objs.size) (o:=.tup [.int (i:Nat),x]) hf (fun b o hb q=>sb2.extBut b o (fun z=>hb (by simp[z])) (k b o (fun z=>hb (by simp[z])) (fun z=>hb (by simp[z])) q))
   (fun b hb=>by
    rcases wag.mp hb with q | q
    ·subst q;exact⟨_,en2⟩
    ·have q:=waq.mp q
     subst q;obtain⟨o,e2,_⟩:=st'.1;exact⟨o,sb2.extBut _ o (Ne.symm hei) e2⟩) frS
   ⟨by show 2<=sizeLine;decide,[.int (i:Nat) tk,y],.cons ⟨_,rfl⟩ (.cons ru .nil),⟨_,sb2.extBut _ _ (neS e (by simp)).symm tup,rfl,_,rfl⟩⟩
  refine⟨.ref s.heap.objs.size,_,I1,rfl,⟨_,hn,rfl,fun ys hy=>⟨x,by rw[I.tuple_inj hy hq];exact hx,rfl⟩⟩,⟨⟨_,en2⟩,?_⟩,fun b hb=>?_⟩
  ·obtain⟨o,e2,c,d⟩:=st'.1;exact⟨o,sb2.extBut _ o (Ne.symm hei) e2,c,d⟩
  ·rw[zag (neS b hb)];exact(hf b hb).1
 done:=by
  intro X hP hw hK hc i pins s σ H E I hf st hg;subst hP hw hK;obtain⟨⟨old,en⟩,ti⟩:=st;obtain⟨xs,hq,hx⟩:=hg;obtain⟨its,rv,p,hz⟩:=I.tuple hq;obtain⟨f0,f1,f2,f3,f4,f5⟩:=hf it (by simp);have hl:=rv.length
  have hh:X.A.in1.handled=none:=I.ok.hd hc
  refine wpAny_pyNext_enum_endD (En.draws_end (A:=X.A.in1) hh it a i its.toArray (by simp;omega)) en ⟨rfl,ti,p⟩ fun h' eb=>⟨rfl,I.turned (t':=s.toks) (fun b o hb e=>eb b o hb e) f0 f1 f3 f4 f5⟩
 self:=fun _ _ _ _ _ st h=>by
  obtain⟨⟨old,en⟩,_⟩:=st;exact wpAny_pyIter_enum en h
def zoz (K:W.Frag)(ta:TA):TI:=fun σ H R=>ta σ H fun vs H1=>∃a,vs = [.ref a]/\(∃xs,SqT K H1 a xs)/\R (Ite K a) H1
theorem zk9 {X:Cx}{elts:List Expr}{x1}{tpos:Pos}{l:Expr}{ta:TA}{p pos:Pos}(hg:Gl X "enumerate")(hm:X.mg "enumerate"=none)(ha:PA X [l] ta)(hs:starEach [l] X.env = [(false,eval l X.env)]:=by rfl) :
 PI X (.Tuple elts x1 tpos) (.Call (.Name "enumerate" p) [l] [] pos) (zoz X.K ta):=by
 intro pins s σ H R I h;refine waR (zc9 I hg hm boot_enumerate ?_ (by decide) (by decide));refine waO (thn (ha pos pins s σ H _ I h) fun us s1 ⟨vs,H1,I1,rv,q1⟩ =>?_) hs rfl;obtain⟨a,e,⟨xs,hq⟩,q⟩:=q1;subst e;obtain⟨u,rfl,r1⟩:=ziZ rv;obtain rfl:u=Value.ref a:=r1;obtain⟨its,rv,pt,hz⟩:=I1.tuple hq;refine En.call_enum pt fun h' en ti sz k=>?_
 have alt:a<s1.heap.objs.size:=pt.lt
 refine wpAny_pyIter_enum en ⟨s1.heap.objs.size+1,[s1.heap.objs.size+1,s1.heap.objs.size],_,_,H1,rfl,I1.kept (t':=s1.toks) k,zhE a _ _ (Nat.succ_ne_self _) (waz (Nat.lt_succ_of_lt alt)) (waz alt),⟨⟨_,en⟩,ti⟩,fun b hb=>?_,q⟩;rcases wag.mp hb with z | z
 ·subst z;exact I1.fpOk (wcv _) (I1.hok.fresh (wcv _))
 ·have z:=waq.mp z
  subst z;exact I1.fpOk (wan _) (I1.hok.fresh (wan _))
section
variable {X:Cx}
theorem zla:OpR X (binaryOp .Add) (fun x y H Q=>∃a b ys,x=.ref a/\y=.ref b/\SqT X.K H a []/\SqT X.K H b ys/\Q (.ref b) H):=by
 intro pins s σ H x y v u Q I rx ry h;obtain⟨a,b,ys,rfl,rfl,ha,hb,q⟩:=h;cases rx;cases ry;obtain⟨its,r1,p1,_⟩:=I.tuple ha;obtain⟨its2,r2,p2,_⟩:=I.tuple hb;have e1:its = []:=r1.nil_iff.mpr rfl
 subst e1;obtain⟨⟨c1,d1,dt1,s1⟩,g1,g2,n1,g3⟩:=p1;obtain⟨⟨c2,d2,dt2,s2⟩,k1,k2,n2,k3⟩:=p2;obtain rfl:c1=.type "tuple":=g2;obtain rfl:c2=.type "tuple":=k2;obtain rfl:dt1=.seq _ n1:=g3;obtain rfl:dt2=.seq _ n2:=k3;exact concat_meets ⟨_,g1,rfl⟩ ⟨_,k1,rfl⟩ noFill_tuple_add seq_tuple_add wbX wbR (wbM _ _) (tuple_addW0 a b _ _ n1 n2 d1 d2 s1 s2 rfl) ⟨g1,k1,⟨.ref b,H,I,rfl,q⟩⟩
def zmM (K:W.Frag):R2:=fun x y H Q=>∃a b xs ys,x=.ref a/\y=.ref b/\SqT K H a xs/\SqT K H b ys/\ys≠[]/\xs.length+ys.length<=sizeLine/\
 (xs = []->Q (.ref b) H)/\(xs≠[]->∀p,H p=none->Q (.ref p) (upd H p (.tup (xs++ys))))
theorem zlb:OpR X (binaryOp .Add) (zmM X.K):=by
 intro pins s σ H x y v u Q I rx ry h;obtain⟨a,b,xs,ys,rfl,rfl,ha,hb,hy,hz,q1,q2⟩:=h;by_cases hx:xs = []
 ·subst hx;exact zla pins s σ H _ _ v u Q I rx ry ⟨a,b,ys,rfl,rfl,ha,hb,q1 rfl⟩
 ·exact zk2 pins s σ H _ _ v u Q I rx ry ⟨a,b,xs,ys,rfl,rfl,ha,hb,hx,hz,fun z=>absurd z hy,fun _=>q2 hx⟩
end
theorem zep {H:Hp}{p:Addr}(h:H p=none)(o:HO):Same H (upd H p o):=fun b u q=>by rw[zag (zaH q h)];exact q
end L2
namespace Sh
open PySem L2
namespace Tr
end Tr
end Sh
namespace SO
open PySem PySem.W PyProof.Rows
def lx (k:Nat->Int)(a b:Nat):Prop:=k a<k b\/(k a=k b/\a<b)
def cmpO (n:Nat)(k:Nat->Int)(i j:Nat)(C:Bool->Shared->Prop)(s:Shared):Prop:=i<n/\j<n/\C (decide (k i<k j)) s
section
variable {k:Nat->Int}{N:Nat}
structure Pre (N:Nat)(p:Array Nat)(m:Nat):Prop where
 sz:p.size=N
 lo:∀i,i<m->p.getD i 0<m
 id:∀i,m<=i->i<N->p.getD i 0=i
 pm:p.Perm (List.toArray (List.range N))
structure Asc (k:Nat->Int)(N:Nat)(p:Array Nat)(m:Nat):Prop extends Pre N p m where
 up:∀i j,i<j->j<m->lx k (p.getD i 0) (p.getD j 0)
theorem Pre.lt {p:Array Nat}{m:Nat}(P:Pre N p m){i:Nat}(h:i<N)(hm:m<=N):p.getD i 0<N:=by
 by_cases q:i<m
 ·have:=P.lo i q;omega
 ·rw[P.id i (by omega) h];exact h
theorem zcL {s:Shared}{p:Array Nat}{m:Nat}(A:Asc k N p m)(hm:m<N):∀(f l r:Nat),r - l<=f->l<=r->r<=m->(∀i,i<l->¬k (p.getD m 0)<k (p.getD i 0))->(∀i,r<=i->i<m->k (p.getD m 0)<k (p.getD i 0))->
 (kas_place p m f l r).kasWp (cmpO N k) (fun x _=>x<=m/\(∀i,i<x->¬k (p.getD m 0)<k (p.getD i 0))/\∀i,x<=i->i<m->k (p.getD m 0)<k (p.getD i 0)) s
 | 0,l,r,hf,hl,hr,h1,h2=>⟨by omega,h1,fun i hi=>h2 i (by omega)⟩
 | f+1,l,r,hf,hl,hr,h1,h2=>by
   unfold kas_place;by_cases e:l≥r
   ·rw[if_pos e];exact⟨by omega,h1,fun i hi=>h2 i (by omega)⟩
   ·rw[if_neg e];refine⟨A.lt (by omega) (by omega),A.lt (by omega) (by omega),?_⟩;by_cases h:k (p.getD m 0)<k (p.getD ((l+r) / 2) 0)
    ·rw[wax h];dsimp only[];rw[if_pos rfl];refine zcL A hm f _ _ (by omega) (by omega) (by omega) h1 fun i hi him=>?_
     by_cases z:i=(l+r) / 2
     ·rw[z];exact h
     ·have:=A.up ((l+r) / 2) i (by omega) him
      unfold lx at this;omega
    ·rw[war h];dsimp only[];rw[if_neg (by decide)];refine zcL A hm f _ _ (by omega) (by omega) (by omega) (fun i hi=>?_) h2;by_cases z:i=(l+r) / 2
     ·rw[z];exact h
     ·have:=A.up i ((l+r) / 2) (by omega) (by omega)
      unfold lx at this;omega
end
end SO
namespace L2
open PySem PySem.Spec PyProof PyProof.Rows PySem.W
section
variable {X:Cx}{pins:List (Addr×Obj)}{σ:St}{H:Hp}{s:Shared}
end
section
variable {X:Cx}{pins:List (Addr×Obj)}{σ:St}{H:Hp}{s:Shared}
end
end L2
namespace L2
open PySem PySem.Spec PyProof.Rows
section
variable {κ:Type}[DecidableEq κ]
def valV (kvs:List (κ×V))(k:κ):Option V:=(kvs.find? fun kv=>decide (kv.1=k)).map (·.2)
theorem zgf {p:κ×V}{r:List (κ×V)}{k:κ}(e:p.1=k):valV (p::r) k=some p.2:=by simp[valV,wbE,e]
theorem zgg {p:κ×V}{r:List (κ×V)}{k:κ}(e:¬p.1=k):valV (p::r) k=valV r k:=by simp[valV,wbE,e]
theorem RelO.isSome_eq {o:Option V}{u:Option Value}(r:RelO o u):o.isSome=u.isSome:=by
 cases o with
 | none=>cases u with
   | none=>rfl
   | some _=>exact(show False from r).elim
 | some _=>cases u with
   | none=>exact(show False from r).elim
   | some _=>rfl
theorem KV.val {kvs:List (κ×V)}{vs:List (κ×Value)}(r:KV kvs vs)(k:κ):RelO (valV kvs k) (valueAt vs k):=by
 unfold KV at r;induction r with
 | nil=>exact True.intro
 | @cons p q ps qs h t ih=>
   obtain⟨h1,h2⟩:=h;by_cases e:p.1=k
   ·have e':q.1=k:=h1.symm.trans e
    have b:valueAt (q::qs) k=some q.2:=by simp[valueAt,wbE,e']
    rw[zgf e,b];exact h2
   ·have e':¬q.1=k:=fun z=>e (h1.trans z)
    have b:valueAt (q::qs) k=valueAt qs k:=by simp[valueAt,wbE,e']
    rw[zgg e,b];exact ih
end
theorem zmN {P:Program}{w:World}{k:Key}{u:Value}(r:RelV (kV k) u):(zbj P w).is k u=true:=by
 cases k with
 | inl i=>obtain⟨t,e⟩:=(show ∃t,u=Value.int i t from r);subst e;exact zfy P w i t
 | inr x=>obtain⟨t,e⟩:=(show ∃t,u=Value.str x t from r);subst e;exact zfz P w x t
theorem zeW {P:Program}{w:World}:∀{ks:List Key}{us:List Value},Vals (ks.map kV) us->ItemsAre (zbj P w) ks us
 | [],_,r=>by rw[List.map_nil] at r;cases r;exact .nil
 | k::ks,_,r=>by
   rw[wbe] at r;cases r with
   | cons h t=>exact .cons (zmN h) (zeW t)
abbrev KT (H:Hp):List (List Key×V)->List (List Key×Addr×Value)->Prop:=Paired fun p q=>p.1=q.1/\H q.2.1=some (.tup (p.1.map kV))/\RelV p.2 q.2.2
theorem KT.val {H:Hp}{kvs:List (List Key×V)}{xs:List (List Key×Addr×Value)}(r:KT H kvs xs)(k:List Key):RelO (valV kvs k) ((atKey xs k).map (·.2)):=by
 induction r with
 | nil=>exact True.intro
 | @cons p q ps qs h t ih=>
   obtain⟨h1,_,h2⟩:=h;by_cases e:p.1=k
   ·have e':q.1=k:=h1.symm.trans e
    have b:atKey (q::qs) k=some q.2:=by simp[atKey,wbE,e']
    rw[zgf e,b];exact h2
   ·have e':¬q.1=k:=fun z=>e (h1.trans z)
    have b:atKey (q::qs) k=atKey qs k:=by simp[atKey,wbE,e']
    rw[zgg e,b];exact ih
section
variable {P:Program}{w:World}{H:Hp}{h:Heap}{a:Addr}
theorem zmO {u:HO}(ok:HOk P w H h)(e:Rd H a u):ObjOk P w H h a u:=e.ok ok
theorem zoA {kvs:List (Key×V)}(ok:HOk P w H h)(e:Rd H a (.dK kvs)):kvs.length<=sizeLine/\(a == sysModules)=false/\∃vs,KV kvs vs/\h.DictOf (zbj P w) a vs:=
 show ObjOk P w H h a (.dK kvs) from zmO ok e
theorem zki {ks:List Key}(ok:HOk P w H h)(e:H a=some (.tup (ks.map kV))):(tupleKind (zbj P w)).is h ks a:=by
 obtain⟨_,its,r,o,h1,h2,n,h3⟩:=(show ObjOk P w H h a (.tup (ks.map kV)) from ok a _ e)
 exact⟨o,its.toArray,n,h1,h2,h3,by simpa using zeW r⟩
theorem zoB {kvs:List (List Key×V)}(ok:HOk P w H h)(e:Rd H a (.dT kvs)):kvs.length<=sizeLine/\(a == sysModules)=false/\
 ∃xs,KT H kvs xs/\h.DictOfH (tupleKind (zbj P w)) a xs:=by
 obtain⟨z,y,xs,r,o,es,ep,h1,h2,h3,h4,h5⟩:=(show ObjOk P w H h a (.dT kvs) from zmO ok e)
 refine⟨z,y,xs,r,o,es,ep,h1,h2,h3,h4,fun x hx=>?_,h5⟩;have all:∀{l:List (List Key×V)}{m:List (List Key×Addr×Value)},KT H l m->∀x∈m,(tupleKind (zbj P w)).is h x.1 x.2.1:=by
  intro l m q;induction q with
  | nil=>intro x hx;exact nomatch hx
  | @cons p q ps qs hq t ih=>
    intro x hx;rcases wag.mp hx with e | hx
    ·subst e;exact zki ok (by rw[<-hq.1];exact hq.2.1)
    ·exact ih x hx
 exact all r x hx
end
def DGet (H:Hp)(a:Addr)(y:V)(r:Option V):Prop:=
 (∃kvs k,Rd H a (.dK kvs)/\y=kV k/\r=valV kvs k)\/∃kvs k b,Rd H a (.dT kvs)/\y=.ref b/\H b=some (.tup (k.map kV))/\r=valV kvs k
theorem DGet.k {H:Hp}{a:Addr}{kvs:List (Key×V)}{k:Key}(e:H a=some (.dK kvs)):DGet H a (kV k) (valV kvs k):=.inl ⟨kvs,k,.inl e,rfl,rfl⟩
section
variable {X:Cx}{pins:List (Addr×Obj)}{σ:St}{H:Hp}{s:Shared}{a:Addr}{y v:V}{u r:Value}{o:Option V}{A:Around}{E:Value->Shared->Prop}
theorem zlc {Q:Value->Shared->Prop}(hu:A.units+1<cLine)(I:Inv X pins σ H s)(g:DGet H a y o)(ry:RelV y u)(h:∀s',Inv X pins σ H s'->Q (.bool (!o.isSome)) s') :
 wpAny (model X.prog X.w) A (compareOp .NotIn u (.ref a)) Q E s:=by
 rcases g with⟨kvs,k,e,ey,l⟩ | ⟨kvs,k,b,e,ey,eb,l⟩
 ·subst ey;obtain⟨z,hd,vs,rel,dd⟩:=zoA I.hok e;refine wpAny_notIn_of (zmN ry) hd dd.mapOf ?_;rw[<-(rel.val k).isSome_eq,<-l];exact h _ (I.tok _)
 ·subst ey;cases(show u=Value.ref b from ry);obtain⟨z,hd,xs,rel,dd⟩:=zoB I.hok e;refine wpAny_notIn_heap (tupleKind_room_in1 hu) (zki I.hok eb) hd dd ?_;have q:=(rel.val k).isSome_eq
  rw[Option.isSome_map] at q;rw[<-q,<-l];exact h _ (I.tok _)
end
section
variable {X:Cx}{pins:List (Addr×Obj)}{σ:St}{H:Hp}{s:Shared}{a:Addr}{kvs:List (Key×V)}{k:Key}{u:Value}{A:Around}{E:Value->Shared->Prop}
end
section
variable {X:Cx}{o i e value:Expr}{pos pos' tpos:Pos}{td ty tv:TE}
end
section
variable {X:Cx}{pos:Pos}
end
section
variable {X:Cx}{pins:List (Addr×Obj)}{σ:St}{H:Hp}{s:Shared}{a:Addr}{y d:V}{u r:Value}{o:Option V}{A:Around}{E:Value->Shared->Prop}
end
section
variable {X:Cx}{o e f:Expr}{apos cpos:Pos}{td ty tx:TE}
end
section
variable {X:Cx}{pins:List (Addr×Obj)}{σ:St}{H:Hp}{s:Shared}{a:Addr}{kvs:List (Key×V)}{A:Around}{E:Value->Shared->Prop}
end
section
variable {X:Cx}{pins:List (Addr×Obj)}{σ:St}{H:Hp}{s:Shared}{a:Addr}{y:V}{u:Value}{A:Around}{E:Value->Shared->Prop}
end
end L2
namespace L2
open PySem PySem.Spec PyProof PyProof.Rows
section
variable {X:Cx}
def tRev (K:W.Frag)(te:TE):TE:=fun σ H Q=>te σ H fun x H1=>∃a xs,x=.ref a/\SqL K H1 a xs/\∀p,H1 p=none->Q (.ref p) (upd H1 p (.lst xs.reverse))
theorem zmP {e:Expr}{te:TE}{p2 p3 p4 pos:Pos}{j:Nat}(he:PE X e te):PE X (.Subscript e (.Slice none none (some (.UnaryOp .USub (.Constant (.int 1) j p3) p4)) p2) pos) (tRev X.K te):=by
 intro pins s σ H Q I h;refine Subscript_ (thn (he pins s σ H _ I h) fun v s1 ⟨x,H1,I1,r1,q1⟩ =>?_);obtain⟨a,xs,rfl,hx,q⟩:=q1;cases r1;refine wpAny_Slice ?_;rw[evalPart_none];refine wah ?_;refine wah ?_;rw[evalPart_some];refine UnaryOp_ (wpAny_Constant_int ?_);refine PyProof.Rows.neg_int ?_;obtain⟨its,r,ht,hz⟩:=I1.list hx;have hlen:=r.length
 have I4:Inv X pins σ H1 {s1 with heap:=s1.heap.push {cls:=.type "slice",data:=.fields #[.none,.none,.int (-1) (s1.toks+1)]},toks:=s1.toks+1+1}:=I1.kept (t':=s1.toks+1+1) fun b ob q=>wac _ q
 obtain⟨its4,r4,ht4,hz4⟩:=I4.list hx;have hlen4:=r4.length
 refine tail_any (ops:=[.ref a,.ref s1.heap.objs.size]) ht4.isList.typeIs slot_list_getitem.lookup ?_ (by with_unfolding_all rfl);refine wpAny_getItem_list_slice ht4.isList (Heap.IsSliceOf.new s1.heap .none .none (.int (-1) (s1.toks+1))) .none .none (.int (-1) _) (by simp) ?_ (by rw[wab] <;> omega);rw[PySem.W.krv_pick];refine⟨.ref _,_,I4.laid (t':=s1.toks+1+1) (o:=.lst xs.reverse) (fun b ob q=>wac _ q) (wan _) ?_,rfl,q _ (I4.hok.fresh (wan _))⟩;exact⟨by rw[wbk];exact hz,its4.reverse,0,r4.reverse,wav (s1.heap.push {cls:=.type "slice",data:=.fields #[.none,.none,.int (-1) (s1.toks+1)]}) (o:={cls:=.type "list",data:=.seq its4.reverse.toArray}) rfl⟩
end
structure Cal (P:Program)(w:World)(K:W.Frag)(mg:Str->Option Value)(base:Heap)(k:Nat)(x:Str)(ps:List Str)(sp:Sp):Prop where
 ex:∃(f:Addr) (fd:FuncData),FnOk P w K mg base CX0 k f fd ps sp/\Binds K fd ps []/\W.keepIn K (.ref f)=true/\mg x=some (.ref f)
section
variable {X:Cx}{k:Nat}{x:Str}{ps:List Str}{sp:Sp}{t:TA}{p pos:Pos}{e:Expr}{es:List Expr}
theorem pc {k':Nat}(C:Cal X.prog X.w X.K X.mg X.base k x ps sp)(hr:Room k' X.A)(ha:PA X (e::es) t)(hk:k<=k':=by decide)(hg:Gl X x:=by rfl)(hdb:(x == ("__debug__" : Str))=false:=by decide)
 (he:starEach (e::es) X.env=(false,eval e X.env)::starEach es X.env:=by rfl) (hpl:(backTo pos (starEach es X.env)).any (·.1)=false:=by rfl):PE X (.Call (.Name x p) (e::es) [] pos) (zgT sp [] E0 t):=by
 obtain⟨f,fd,a,b,c,d⟩:=C.ex;exact zkX (a.mono hk) hr hg d c b .nil zmK ha hdb he hpl
end
def zbr:List Str:=["len","range","min","max","int","str","bool","list","tuple","isinstance","any","all","enumerate","abs","sorted","dict","ord","chr","reversed"]
def Blt (mg:Str->Option Value):Prop:=∀x∈zbr,mg x=none
theorem Blt.get {mg:Str->Option Value}(B:Blt mg)(x:Str)(h:x∈zbr:=by decide +kernel):mg x=none:=B x h
theorem zaU {P:Program}{w:World}{K:W.Frag}{mg:Str->Option Value}{base:Heap}{k:Nat}{x:Str}{ps:List Str}{sp:Sp}{f:Addr}{fd:FuncData}(h:FnOk P w K mg base CX0 k f fd ps sp)(b:Binds K fd ps [])(c:W.keepIn K (.ref f)=true)(d:mg x=some (.ref f)) :
 Cal P w K mg base k x ps sp:=⟨f,fd,h,b,c,d⟩
section
variable {X:Cx}{r:List V->Hp->VK->Prop}{t:TA}{p pos:Pos}{e:Expr}{es:List Expr}{id T:String}{x:Str}
theorem pb (hc:zcs X (.builtin id) r)(B:Blt X.mg)(hv:bootBuiltins x=some (.builtin id))(ha:PA X (e::es) t)(hB:x∈zbr:=by decide +kernel)(hg:Gl X x:=by rfl)(hn:x≠"__name__":=by decide)(hdb:(x == ("__debug__" : Str))=false:=by decide)
 (he:starEach (e::es) X.env=(false,eval e X.env)::starEach es X.env:=by rfl) (hpl:(backTo pos (starEach es X.env)).any (·.1)=false:=by rfl):PE X (.Call (.Name x p) (e::es) [] pos) (tCB r t):=
 zi1 hc hg (B x hB) hv ha hn hdb he hpl
theorem pty (hc:zcs X (.type T) r)(B:Blt X.mg)(hv:bootBuiltins x=some (.type T))(ha:PA X (e::es) t)(hB:x∈zbr:=by decide +kernel)(hg:Gl X x:=by rfl)(hn:x≠"__name__":=by decide)(hdb:(x == ("__debug__" : Str))=false:=by decide)
 (he:starEach (e::es) X.env=(false,eval e X.env)::starEach es X.env:=by rfl) (hpl:(backTo pos (starEach es X.env)).any (·.1)=false:=by rfl):PE X (.Call (.Name x p) (e::es) [] pos) (tCB r t):=
 zhv hc hg (B x hB) hv ha hn hdb he hpl
theorem ptn {v:V}{u:Value}(B:Blt X.mg)(hv:bootBuiltins x=some u)(rl:RelV v u)(hB:x∈zbr:=by decide +kernel)(hg:Gl X x:=by rfl)(hn:x≠"__name__":=by decide)(hdb:(x == ("__debug__" : Str))=false:=by decide):PE X (.Name x pos) (tC v):=
 zhf hg (B x hB) hv rl hn hdb
theorem papp {o:Expr}{to:TE}{apos cpos:Pos}(ho:PE X o to)(ha:PA X [e] t)
 (hbase:attributeBase o "append" X.env (eval o X.env)=eval o X.env:=by rfl)
 (hfew:((backTo cpos (starEach [e] X.env)).all (fun x=>!x.1)&&(backToKw cpos (keywordEach [] X.env)).all (fun x=>x.1.isSome)
  && decide ([e].length+([]:List Keyword).length+(if([]:List Keyword).isEmpty then 0 else 1)<30))=true:=by rfl)
 (hline:(apos.endLine == cpos.line)=true:=by rfl) (hs:starEach [e] X.env = [(false,eval e X.env)]:=by rfl) :
 PE X (.Call (.Attribute o "append" apos) [e] [] cpos) (tBM X.K "list" zeo to t):=
 zmI PySem.F.plainAttrs_list PySem.F.slot_list_append PySem.F.type_list_append zeU ho ha hbase hfew hline hs rfl
end
def zmQ (K:W.Frag):List V->Hp->VK->Prop:=fun xs H Q=>∃x n t k,xs = [x,.ty n]/\TyOf K H x t/\PySem.W.kitOne K t (.type n)=some k/\Q (.bl k) H
theorem zld {X:Cx}:zcs X (.builtin "isinstance") (zmQ X.K):=zfD
end L2
namespace Rv
open PySem PySem.Spec PyProof PyProof.Rows
open Sem (wp)
theorem zcM:Slot "reversed" "__init__" "object.__init__":=
 .of (owner:="object") (n:="__init__") (by rw[typeLookup_type,builtinLookup_eq_fast];kernel_rfl) (by decide +kernel) (by decide +kernel) (by decide +kernel)
  (by first | exact .inl (by decide +kernel) | exact .inr (by decide +kernel)) (by rw[isSubtype_type];kernel_rfl)
theorem zda:mroOf (.type "reversed")=pure [.type "reversed",.type "object"]:=by rw[mroOf_type];kernel_rfl
theorem zcv:typeLookup (.type "reversed") "__new__"=pure (some (.builtin "reversed.__new__")):=by rw[typeLookup_type,builtinLookup_eq_fast];kernel_rfl
theorem called_reversed:TypeCalled "reversed" "reversed.__new__" "object.__init__":=
 ⟨by decide +kernel,by decide +kernel,⟨_,_,zda⟩,madeBy_type zda zcv (by decide +kernel),by decide +kernel,by rw[isSubtype_type];kernel_rfl,zcM⟩
theorem typeCall_reversed_1 (a:Value):checkTypeCall "reversed" ⟨[a],[]⟩=pure ():=by kernel_rfl
theorem newCall_reversed_1 (a:Value):checkBuiltinCall "reversed.__new__" ⟨[.type "reversed",a],[]⟩=pure ():=by kernel_rfl
theorem entry_reversed_new:entryFor table "reversed.__new__"=some Builtin.«reversed.__new__»:=entryFor_of_tree (by kernel_rfl)
theorem sub_ri:isSubtype (.type "range_iterator") (.type "reversed")=pure false:=by rw[isSubtype_type];kernel_rfl
section
variable {prog:Program}{w:World}{A:Around}{E:Value->Shared->Prop}{s:Shared}
theorem callType_else {T T' newId initId:String}{Bn:Builtin}{args:List Value}{S:PySem.Spec}{Q Q₁:Value->Shared->Prop}(ft:TypeCalled T newId initId)
 (hct:checkTypeCall T ⟨args,[]⟩=pure ()) (hcn:checkBuiltinCall newId ⟨.type T::args,[]⟩=pure ())
 (entryN:entryFor table newId=some Bn) (g:Meets (Bn ⟨.type T::args,[]⟩) S) (hsub':isSubtype (.type T') (.type T)=pure false)
 (h:S A.in1 (wants Q₁ E) s) (hnext:∀obj s₁,Q₁ obj s₁->s₁.TypeIs obj T'/\Q obj s₁) :
 wpAny (model prog w) A (call (.type T) args) Q E s:=by
 obtain⟨c,tl,hmro⟩:=ft.mro;have hmade:=ft.made
 have hsub:=ft.sub
 refine wci (codeAny_of_tree ?_);show wpAny _ _ (callAny (.type T) _) _ _ _
 refine wah ⟨wbT _ (by decide +kernel),codeAny_builtin F.entry_type_call ?_⟩;rw[Around.under_plain (weight_type_call_type T args []) (units_type_call_type T args [])];have h1:=ft.notType
 have h2:=ft.canCreate
 repeat (any_goals (first | assumption | wp_step))
 refine wca (wbJ ft.plain entryN (wbY hcn (g prog w A.in1 _ s h))) fun r s₁ hr=>?_
 cases r with
 | error e=>exact hr
 | ok fl=>
   cases fl with
   | ret obj=>
     obtain⟨hT,hq⟩:=hnext _ _ hr;repeat (any_goals (first | assumption | wp_step))
   | _=>exact hr.elim
end
theorem zi6 (r:Addr)(lo hi:Int)(t u v:Tok)(hs:(Builtin.Range.rangeFitsLong lo&&Builtin.Range.rangeFitsLong hi&&Builtin.Range.rangeFitsLong 1&&Builtin.Range.rangeFitsLong (-1)&&Builtin.Range.rangeFitsLong (lo - 1)&&Builtin.Range.rangeFitsLong (Builtin.Range.rangeSize lo hi 1))=true) :
 Meets (Builtin.«range.__reversed__» ⟨[.ref r],[]⟩) (fun _ R s=>s.heap.get? r=some {cls:=.type "range",data:=.fields #[.int lo t,.int hi u,.int 1 v]}/\
  R (.ok (.ret (.ref s.heap.objs.size))) {s with heap:=s.heap.push {cls:=.type "range_iterator",data:=.fields #[rawInt (lo+(Builtin.Range.rangeSize lo hi 1 - 1)*1),rawInt (Builtin.Range.rangeSize lo hi 1),rawInt (-1)]}}):=
 .of_wp fun prog w A R s h=>by
  obtain⟨hp,g,d,tk,os⟩:=s;obtain⟨hl,h⟩:=h;wp_walk using wbh hl
  rw[hs,if_pos rfl];exact⟨_,rfl,h⟩
theorem meets_new_range (r:Addr)(lo hi:Int)(t u v:Tok)(hs:(Builtin.Range.rangeFitsLong lo&&Builtin.Range.rangeFitsLong hi&&Builtin.Range.rangeFitsLong 1&&Builtin.Range.rangeFitsLong (-1)&&Builtin.Range.rangeFitsLong (lo - 1)&&Builtin.Range.rangeFitsLong (Builtin.Range.rangeSize lo hi 1))=true) :
 Meets (Builtin.«reversed.__new__» ⟨[.type "reversed",.ref r],[]⟩) (fun _ R s=>s.heap.get? r=some {cls:=.type "range",data:=.fields #[.int lo t,.int hi u,.int 1 v]}/\
  R (.ok (.ret (.ref s.heap.objs.size))) {s with heap:=s.heap.push {cls:=.type "range_iterator",data:=.fields #[rawInt (lo+(Builtin.Range.rangeSize lo hi 1 - 1)*1),rawInt (Builtin.Range.rangeSize lo hi 1),rawInt (-1)]}}):=
 .of_wp fun prog w A R s h=>by
  obtain⟨hp,g,d,tk,os⟩:=s;obtain⟨hl,h⟩:=h;have hsub:=called_reversed.sub
  have hT:Shared.TypeIs ⟨hp,g,d,tk,os⟩ (.ref r) "range":=⟨_,hl,rfl⟩
  wp_walk using wbh hl
  rw[F.slot_range_reversed.lookup];refine wah ?_;show wpAny _ _ (bindSpecial (.builtin "range.__reversed__") (Value.ref r) >>= _) _ _ _
  rw[F.slot_range_reversed.bind];refine waa (wah ?_);refine waa (wpAny_rule ?_);refine waa (m:=call (.builtin "range.__reversed__") [Value.ref r]) (call_meets F.slot_range_reversed hT F.entry_range_reversed (F.args_range_reversed_1 _) (zi6 r lo hi t u v hs) ⟨hl,?_⟩);exact wah ⟨_,rfl,h⟩
end Rv
namespace L2
open PySem PySem.Spec PyProof PyProof.Rows
def Itd (hi:Int)(n:Nat):It:=⟨fun i _=>i<n,fun i H x H'=>H'=H/\x=.int (hi - i),fun i _=>n<=i⟩
theorem zhF {P:Program}{w:World}{K:W.Frag}{tg:Expr}(it:Addr)(lo:Int)(n:Nat):Turn P w K tg (Itd lo n) [it] it (fun i h=>IsRangeIter h it (lo+(i:Nat)*(-1)) ((n:Int) - (i:Nat)) (-1)) where
 mem:=by simp
 obj:=fun i h st b hb=>by
  have e:b=it:=by simpa using hb
  subst e;exact⟨_,st,fun v z=>by
   have z':Data.fields _=Data.cell v:=z
   cases z'⟩
 keep:=fun i h h' st k=>k it (by simp) _ st
 item:=by
  intro X hP hw hK hc i pins s σ H E I hf st hg;subst hP hw hK;obtain⟨f0,f1,f2,f3,f4,f5⟩:=hf it (by simp);have W:=Walks.range (prog:=X.prog) (w:=X.w) (I.ok.hd hc) it lo (-1) n
  refine W.item i s _ _ hg st fun v h' tk hv st' kk=>?_
  obtain⟨t,rfl⟩:=hv;have I1:Inv X pins σ H {s with heap:=h',toks:=tk}:=I.turned (fun b o hb e=>kk b o (by simpa using hb) e) f0 f1 f3 f4 f5
  refine⟨_,rfl,zhk (s:={s with heap:=h',toks:=tk}) (n:="range_iterator") st' rfl rfl (by decide) ⟨.int (lo - i),H,I1,⟨t,?_⟩,⟨rfl,rfl⟩,st',fun b hb=>(hf b hb).1⟩⟩;rw[Int.mul_neg,Int.mul_one] <;> rfl
 done:=by
  intro X hP hw hK hc i pins s σ H E I hf st hg;subst hP hw hK;obtain⟨f0,f1,f2,f3,f4,f5⟩:=hf it (by simp);exact wpAny_pyNext_range_end (I.ok.hd hc) st (by have:n<=i:=hg;omega) fun h' eb=>⟨rfl,I.turned (t':=s.toks) (fun b o hb e=>eb b o hb e) f0 f1 f3 f4 f5⟩
 self:=fun _ _ _ _ _ st h=>wbW st h
section
variable {X:Cx}{tg:Expr}
theorem zdW {prog:Program}{w:World}{A:Around}{E:Value->Shared->Prop}{s:Shared}{r:Addr}{lo hi:Int}{t u v:Tok}{Q:Value->Shared->Prop}(hr:s.heap.get? r=some {cls:=.type "range",data:=.fields #[.int lo t,.int hi u,.int 1 v]})
 (h1:-(2 ^ 62)<=lo) (h2:lo<2 ^ 62) (h3:-(2 ^ 62)<=hi) (h4:hi<2 ^ 62)
 (q:Q (.ref s.heap.objs.size) {s with heap:=s.heap.push {cls:=.type "range_iterator",data:=.fields #[rawInt (lo+(Builtin.Range.rangeSize lo hi 1 - 1)*1),rawInt (Builtin.Range.rangeSize lo hi 1),rawInt (-1)]}}) :
 wpAny (model prog w) A (call (.type "reversed") [.ref r]) Q E s:=by
 refine Rv.callType_else (T':="range_iterator") (Q₁:=fun v s1=>v=.ref s.heap.objs.size/\s1 = {s with heap:=s.heap.push {cls:=.type "range_iterator",data:=.fields #[rawInt (lo+(Builtin.Range.rangeSize lo hi 1 - 1)*1),rawInt (Builtin.Range.rangeSize lo hi 1),rawInt (-1)]}}) Rv.called_reversed (Rv.typeCall_reversed_1 _) (Rv.newCall_reversed_1 _) Rv.entry_reversed_new (Rv.meets_new_range r lo hi t u v ?_) Rv.sub_ri ⟨hr,rfl,rfl⟩ ?_
 ·have e2:Builtin.Range.rangeSize lo hi 1=(((hi - lo).toNat:Nat):Int):=by rw[rangeSize_one];split <;> omega
  rw[e2];have f:∀k:Int,-(2 ^ 63)<=k->k<2 ^ 63->Builtin.Range.rangeFitsLong k=true:=fun k a b=>by unfold Builtin.Range.rangeFitsLong;simp only[waB,decide_eq_true_eq];omega
  rw[f lo (by omega) (by omega),f hi (by omega) (by omega),f 1 (by decide) (by decide),f (-1) (by decide) (by decide),f (lo - 1) (by omega) (by omega),f _ (by omega) (by omega)];rfl
 ·rintro obj s1 ⟨rfl,rfl⟩;exact⟨⟨_,wav _ rfl,rfl⟩,q⟩
def zoC (ta:TA):TI:=fun σ H R=>ta σ H fun vs H1=>∃j:Int,vs = [.int j]/\0<=j/\j<2 ^ 62/\R (Itd (j - 1) j.toNat) H1
theorem zle {a:Expr}{ta:TA}{p p2 pos pos2:Pos}(hg:Gl X "range")(hm:X.mg "range"=none)(hg2:Gl X "reversed")(hm2:X.mg "reversed"=none)(ha:PA X [a] ta)(hs:starEach [a] X.env = [(false,eval a X.env)]:=by rfl)
 (hs2:starEach [.Call (.Name "range" p) [a] [] pos] X.env = [(false,eval (.Call (.Name "range" p) [a] [] pos) X.env)]:=by rfl):PI X tg (.Call (.Name "reversed" p2) [.Call (.Name "range" p) [a] [] pos] [] pos2) (zoC ta):=by
 intro pins s σ H R I h;refine waR (zc9 I hg2 hm2 boot_reversed ?_ (by decide) (by decide));refine waO ?_ hs2 rfl;rw[hs2];refine Calls.spliced_cons ?_;refine Call_ (zc9 I hg hm boot_range (waO (thn (ha pos pins s σ H _ I h) fun us s1 ⟨vs,H1,I1,r1,q1⟩ =>?_) hs rfl));obtain⟨j,e,q1,q2,q⟩:=q1;subst e;cases r1 with
 | cons r rr=>
   cases rr;obtain⟨t,rfl⟩:=r;refine call_range_1 ?_;refine Calls.spliced_nil ?_;have I2:Inv X pins σ H1 {s1 with heap:=s1.heap.push {cls:=.type "range",data:=.fields #[.int 0 s1.toks,.int j t,.int 1 (s1.toks+1)]},toks:=s1.toks+1+1}:=I1.kept (t':=s1.toks+1+1) fun b o e=>wac _ e
   refine zdW (wav _ rfl) (by decide) (by decide) (by omega) q2 ?_;have e2:Builtin.Range.rangeSize 0 j 1=((j.toNat:Nat):Int):=by rw[rangeSize_one];split <;> omega
   rw[e2];generalize hg9:s1.heap.push {cls:=.type "range",data:=.fields #[.int 0 s1.toks,.int j t,.int 1 (s1.toks+1)]}=g9 at I2
   ·rw[show(0:Int)+((j.toNat:Nat) - 1)*1=(j - 1)+((0:Nat):Int)*(-1) by omega,show((j.toNat:Nat):Int)=((j.toNat:Nat):Int) - ((0:Nat):Int) by omega];refine wbW (it:=g9.objs.size) (wav _ rfl) ?_;refine⟨g9.objs.size,[g9.objs.size],_,_,H1,rfl,I2.kept (t':=s1.toks+1+1) fun b o e=>wac _ e,zhF _ (j - 1) j.toNat,?_,fun b hb=>?_,q⟩
    ·exact wav _ rfl
    ·have e:b=g9.objs.size:=by simpa using hb
     subst e;exact I2.fpOk (wan _) (I2.hok.fresh (wan _))
end
section
variable {X:Cx}
end
def clo (cells:List (Str×Addr)):List (Str×NameKind)->List (Str×Addr)->List (Str×Addr)
 | [],acc=>acc
 | (n,k)::r,acc=>clo cells r (if(k == NameKind.free)=true then(n,(cells.lookup n).getD 0)::acc else acc)
theorem zhG {env:Env}:∀(names:List (Str×NameKind)) (acc:List (Str×Addr)),(∀y∈names,y.2=.free->∃c,env.cells.lookup y.1=some c)->
 (forIn names acc fun(x:Str×NameKind) (cs:List (Str×Addr))=>match x with | (name,kind)=>if(kind == NameKind.free)=true then(do let c <-cellOf env name;pure (ForInStep.yield ((name,c)::cs))) else(pure (ForInStep.yield cs):Sem _))=pure (clo env.cells names acc)
 | [],acc,_=>rfl
 | (n,k)::r,acc,h=>by
   rw[List.forIn_cons];have ih:=zhG (env:=env) r
   by_cases hk:(k == NameKind.free)=true
   ·obtain⟨c,hc⟩:=h (n,k) (wal ..) (by cases k <;> first | rfl | cases hk);have e1:cellOf env n=pure c:=by unfold cellOf;rw[hc]
    show(if(k == NameKind.free)=true then _ else _) >>= _=_
    rw[if_pos hk,e1];show(forIn r ((n,c)::acc) _:Sem _)=pure (clo env.cells r (if(k == NameKind.free)=true then _ else _))
    rw[if_pos hk,hc];exact ih _ fun y hy=>h y (waf _ hy)
   ·show(if(k == NameKind.free)=true then _ else _) >>= _=_
    rw[if_neg hk];show(forIn r acc _:Sem _)=pure (clo env.cells r (if(k == NameKind.free)=true then _ else _))
    rw[if_neg hk];exact ih _ fun y hy=>h y (waf _ hy)
theorem zkj {env:Env}{scope:Scope}(h:∀y∈scope.names,y.2=.free->∃c,env.cells.lookup y.1=some c):closureFor scope env=pure (clo env.cells scope.names []):=by
 have e:=zhG (env:=env) scope.names [] h
 unfold closureFor;show(forIn scope.names ([]:List (Str×Addr)) _ >>= fun cs=>pure cs)=_
 have e2:(forIn scope.names ([]:List (Str×Addr)) (fun(x:Str×NameKind) (cs:List (Str×Addr))=>match x with | (name,kind)=>if(kind == NameKind.free)=true then(do let c <-cellOf env name;pure (ForInStep.yield ((name,c)::cs))) else(pure (ForInStep.yield cs):Sem _)) >>= fun cs=>pure cs)=pure (clo env.cells scope.names []):=by
  rw[e];rfl
 exact e2
theorem zfF (cells:List (Str×Addr)):∀(names:List (Str×NameKind)) (acc:List (Str×Addr)),(∀x c,acc.lookup x=some c->cells.lookup x=some c)->(∀y∈names,y.2=.free->∃c,cells.lookup y.1=some c)->
 ∀x c,(clo cells names acc).lookup x=some c->cells.lookup x=some c
 | [],acc,h,_,x,c,e=>h x c e
 | (n,k)::r,acc,h,hf,x,c,e=>by
   refine zfF cells r _ (fun y d e'=>?_) (fun y hy=>hf y (waf _ hy)) x c e;by_cases hk:(k == NameKind.free)=true
   ·rw[if_pos hk,waP] at e';obtain⟨c',hc⟩:=hf (n,k) (wal ..) (by cases k <;> first | rfl | cases hk);cases hy:y == n with
    | true=>
      rw[hy] at e';have:y=n:=by simpa using hy
      rw[this,hc];rw[hc] at e';exact e'
    | false=>rw[hy] at e';exact h y d e'
   ·rw[if_neg hk] at e';exact h y d e'
theorem zfG (cells:List (Str×Addr)):∀(names:List (Str×NameKind)) (acc:List (Str×Addr)) (x:Str),((∃c,acc.lookup x=some c)\/(x,NameKind.free)∈names)->∃c,(clo cells names acc).lookup x=some c
 | [],acc,x,h=>by
   rcases h with h | h
   ·exact h
   ·cases h
 | (n,k)::r,acc,x,h=>by
   refine zfG cells r _ x ?_;rcases h with⟨c,h⟩ | h
   ·left
    by_cases hk:(k == NameKind.free)=true
    ·rw[if_pos hk,waP];cases hy:x == n with
     | true=>exact⟨_,rfl⟩
     | false=>exact⟨c,h⟩
    ·rw[if_neg hk];exact⟨c,h⟩
   ·rcases wag.mp h with h | h
    ·left
     cases h;rw[if_pos (by rfl),waP,beq_self_eq_true];exact⟨_,rfl⟩
    ·exact .inr h
theorem zc2 {κ β:Type}[BEq κ][LawfulBEq κ]:∀{l:List (κ×β)}{x:κ}{k:β},l.lookup x=some k->(x,k)∈l
 | [],x,k,h=>by cases h
 | (n,k')::r,x,k,h=>by
   rw[waP] at h;cases hx:x == n with
   | true=>
     rw[hx] at h;cases h;have:x=n:=by simpa using hx
     rw[this];exact wal ..
   | false=>rw[hx] at h;exact waf _ (zc2 h)
theorem zbk {env:Env}:∀(l:List (Str×NameKind)),(∀y∈l,y.2≠.cell)->∀x k,(l.map fun(n,k)=>if(k == NameKind.free&&env.scope.kind == .function&&env.kindOf n == some .cell) then(n,NameKind.cell) else(n,k)).lookup x=some k->(k=.cell\/k=.free)->l.lookup x=some .free
 | [],_,x,k,e,_=>by cases e
 | (n,k0)::r,h,x,k,e,hk=>by
   rw[wbe] at e;have h0:k0≠.cell:=h _ (wal ..)
   rw[waP];cases hx:x == n with
   | true=>
     cases k0 with
     | free=>rfl
     | cell=>exact absurd rfl h0
     | _=>
       exfalso
       obtain rfl:x=n:=by simpa using hx
       rw[waP] at e;rcases hk with rfl | rfl <;> (revert e;simp)
   | false=>
     refine zbk (env:=env) r (fun y hy=>h y (waf _ hy)) x k ?_ hk;rw[waP] at e;have:(x == (if(k0 == NameKind.free&&env.scope.kind == .function&&env.kindOf n == some .cell)=true then(n,NameKind.cell) else(n,k0)).1)=false:=by split <;> exact hx
     rw[this] at e;exact e
theorem zbs {env:Env}(hf:env.scope.kind=.function):∀(l:List (Str×NameKind)) (x:Str),l.lookup x=some .free->env.kindOf x=some .cell->(l.map fun(n,k)=>if(k == NameKind.free&&env.scope.kind == .function&&env.kindOf n == some .cell) then(n,NameKind.cell) else(n,k)).lookup x=some .cell
 | [],x,e,_=>by cases e
 | (n,k0)::r,x,e,hk=>by
   rw[wbe];rw[waP] at e⊢;cases hx:x == n with
   | true=>
     rw[hx] at e;cases e;have hn:x=n:=by simpa using hx
     have hk':(env.kindOf n == some NameKind.cell)=true:=by rw[<-hn,hk];rfl
     have hcond:(NameKind.free == NameKind.free&&env.scope.kind == .function&&env.kindOf n == some .cell)=true:=by
      rw[hf,hk'];rfl
     simp only[hcond,if_true,hx]
   | false=>
     rw[hx] at e;have:(x == (if(k0 == NameKind.free&&env.scope.kind == .function&&env.kindOf n == some .cell)=true then(n,NameKind.cell) else(n,k0)).1)=false:=by split <;> exact hx
     simp only[this];exact zbs hf r x e hk
def zdw (N:List Str)(sc:List (Str×NameKind))(names:List (Str×NameKind))(NC:List Str)(fr:List (Option Nat)):Bool:=
 (NC.zip fr).all fun p=>match p.2 with | none=>true | some j=>(N[j]? == some p.1)&&(sc.lookup p.1 == some .cell)&&(names.lookup p.1 == some .free)
theorem zhH (N:List Str)(st:Stmt){X:Cx}{elt iter tg:Expr}{ifs:List Expr}{scope:Scope}{pos:Pos}{NC:List Str}(fr:List (Option Nat)){wi:TI}{g:TG}{tt:TT}{te:TE}{RR:Hp->Prop}(hRR:∀pins σ H s,Inv X pins σ H s->RR H)(hcalm:X.calm=true)(hi:PI X tg iter wi)
 (hcells:∀x,X.env.scope.names.lookup x=some .cell->∃c,X.env.cells.lookup x=some c) (hfk:X.env.scope.kind=.function) (hN:X.N=N) (hsc:X.env.scope.names=(zac st).names)
 (hfree':∀y∈scope.names,y.2=.free->(zac st).names.lookup y.1=some .cell) (hcell:∀y∈scope.names,y.2≠.cell) (hkind:scope.kind=.function) (hnames:∀y∈scope.names,y.2=.local->scope.names.lookup y.1=some .local)
 (hfr':zdw N (zac st).names scope.names NC fr=true) (hlen:fr.length=NC.length)
 (hg:∀cl C s0 H0 ex pn,PG (cxC X scope cl NC C s0 H0 ex pn) tg g) (ht:∀cl C s0 H0 ex pn,PTs (cxC X scope cl NC C s0 H0 ex pn) ifs tt) (he:∀cl C s0 H0 ex pn,RR H0->PE (cxC X scope cl NC C s0 H0 ex pn) elt te)
 (hs:∀x,foldedSetIterable iter X.env x=pure x:=by intro _;rfl):PE X (.ListComp elt [⟨tg,iter,ifs,0⟩] scope pos) (zfE fr wi g tt te):=by
 have hfree:∀y∈scope.names,y.2=.free->X.env.scope.names.lookup y.1=some .cell:=by rw[hsc];exact hfree'
 have hfr:zdw X.N X.env.scope.names scope.names NC fr=true:=by rw[hsc,hN];exact hfr'
 have hc:∀y∈scope.names,y.2=.free->∃c,X.env.cells.lookup y.1=some c:=fun y hy h=>hcells _ (hfree y hy h)
 refine zi5 (cl:=clo X.env.cells scope.names []) hRR hcalm hi (zkj hc) hcell hkind hnames (fun x c e=>zfF _ _ _ (fun _ _ z=>by cases z) hc x c e) (fun x hx=>?_) (fun i x j h1 h2=>?_) hlen (hg _) (ht _) (he _) hs
 ·refine zfG _ _ _ x (.inr (zc2 ?_));rcases hx with e | e
  ·exact zbk scope.names hcell x _ e (.inl rfl)
  ·exact zbk scope.names hcell x _ e (.inr rfl)
 ·have hm:(x,some j)∈NC.zip fr:=by
   have hi1:=(wak.mp h1).1
   have:(NC.zip fr)[i]?=some (x,some j):=by rw[List.getElem?_zip_eq_some];exact⟨h1,h2⟩
   exact waA this
  have q:=waQ.mp hfr _ hm
  have q':((X.N[j]? == some x)&&(X.env.scope.names.lookup x == some .cell)&&(scope.names.lookup x == some .free))=true:=q
  simp only[waB,beq_iff_eq] at q';obtain⟨⟨q1,q2⟩,q3⟩:=q';refine⟨q1,.inr (.inl q2),?_,.inl (zbs hfk scope.names x q3 q2)⟩;intro z;have z':X.env.scope.names.lookup x=some .local:=z
  rw[q2] at z';cases z'
theorem pvC (i:Nat){X:Cx}{scope:Scope}{cl:List (Str×Addr)}{NC:List Str}{C:Addr}{s0:Shared}{H0:Hp}{ex:List Addr}{pn:List (Addr×Obj)}{x:Str}{pos:Pos}(hi:NC[i]?=some x)(hfk:X.env.scope.kind=.function)
 (h1:scope.names.lookup x=some .free) (h2:X.env.scope.names.lookup x=some .cell) (hd:(x == ("__debug__" : Str))=false:=by decide) (hcd:(x == ("__classdict__" : Str))=false:=by decide):PE (cxC X scope cl NC C s0 H0 ex pn) (.Name x pos) (tVar i):=
 zb1 (X:=cxC X scope cl NC C s0 H0 ex pn) hi (.inr (.inl (zbs hfk scope.names x h1 h2))) hd hcd
section
variable {X:Cx}{scope:Scope}{cl:List (Str×Addr)}{NC:List Str}{C:Addr}{s0:Shared}{H0:Hp}{ex:List Addr}{pn:List (Addr×Obj)}
end
theorem zgh (N:List Str)(st:Stmt){X:Cx}{i:Nat}{x:Str}{elt iter tg:Expr}{ifs:List Expr}{scope:Scope}{pos pos' cp:Pos}{NC:List Str}(fr:List (Option Nat)){wi:TI}{g:TG}{tt:TT}{te:TE}(hND:X.N.Nodup)(hix:X.N[i]?=some x)(hx:Loc X.env.scope x)
 {RR:Hp->Prop}(hRR:∀pins σ H s,Inv X pins σ H s->RR H) (hcalm:X.calm=true) (hi:PI X tg iter wi)
 (hcells:∀x,X.env.scope.names.lookup x=some .cell->∃c,X.env.cells.lookup x=some c) (hfk:X.env.scope.kind=.function) (hN:X.N=N) (hsc:X.env.scope.names=(zac st).names)
 (hfree':∀y∈scope.names,y.2=.free->(zac st).names.lookup y.1=some .cell) (hcell:∀y∈scope.names,y.2≠.cell) (hkind:scope.kind=.function) (hnames:∀y∈scope.names,y.2=.local->scope.names.lookup y.1=some .local)
 (hfr':zdw N (zac st).names scope.names NC fr=true) (hlen:fr.length=NC.length)
 (hg:∀cl C s0 H0 ex pn,PG (cxC X scope cl NC C s0 H0 ex pn) tg g) (ht:∀cl C s0 H0 ex pn,PTs (cxC X scope cl NC C s0 H0 ex pn) ifs tt) (he:∀cl C s0 H0 ex pn,RR H0->PE (cxC X scope cl NC C s0 H0 ex pn) elt te)
 (hs:∀x,foldedSetIterable iter X.env x=pure x:=by intro _;rfl) (hsw:swapsWith (.ListComp elt [⟨tg,iter,ifs,0⟩] scope cp) (some (.Name x pos')) pos.line X.env=pure true:=by rfl)
 (hf:X.fn x=true\/X.env.scope.names.lookup x=some .local:=by first | exact .inl rfl | exact .inr rfl | assumption) :
 PS X (.Assign [.Name x pos'] (.ListComp elt [⟨tg,iter,ifs,0⟩] scope cp) pos) (tAsg (zfE fr wi g tt te) (zdV i)):=by
 intro pins s σ H D I h;rw[exec_Assign_Name_used _ _ _ _ hsw];refine waa (wch ?_);rw[arm_evalThenUse_ListComp];have hfree:∀y∈scope.names,y.2=.free->X.env.scope.names.lookup y.1=some .cell:=by rw[hsc];exact hfree'
 have hfr:zdw X.N X.env.scope.names scope.names NC fr=true:=by rw[hsc,hN];exact hfr'
 have hc:∀y∈scope.names,y.2=.free->∃c,X.env.cells.lookup y.1=some c:=fun y hy h=>hcells _ (hfree y hy h)
 refine waa (waa (zge (cl:=clo X.env.cells scope.names []) (Q:=fun x H1=>zdV i x σ H1 D.nx) (R:=fun _ s'=>wpAny (model X.prog X.w) X.A (pure ()) (fun _ s₁=>wpAny (model X.prog X.w) X.A (pure Flow.next) (SP X pins D) X.xe s₁) X.xe s') hRR hcalm hi (zkj hc) hcell hkind hnames (fun x c e=>zfF _ _ _ (fun _ _ z=>by cases z) hc x c e) (fun x hx=>?_) (fun i x j h1 h2=>?_) hlen (hg _) (ht _) (he _) hs I h ?_))
 ·refine zfG _ _ _ x (.inr (zc2 ?_));rcases hx with e | e
  ·exact zbk scope.names hcell x _ e (.inl rfl)
  ·exact zbk scope.names hcell x _ e (.inr rfl)
 ·have hm:(x,some j)∈NC.zip fr:=by
   have:(NC.zip fr)[i]?=some (x,some j):=by rw[List.getElem?_zip_eq_some];exact⟨h1,h2⟩
   exact waA this
  have q:=waQ.mp hfr _ hm
  have q':((X.N[j]? == some x)&&(X.env.scope.names.lookup x == some .cell)&&(scope.names.lookup x == some .free))=true:=q
  simp only[waB,beq_iff_eq] at q';obtain⟨⟨q1,q2⟩,q3⟩:=q';refine⟨q1,.inr (.inl q2),?_,.inl (zbs hfk scope.names x q3 q2)⟩;intro z;have z':X.env.scope.names.lookup x=some .local:=z
  rw[q2] at z';cases z'
 ·intro C Da H' s' m I' hns hfp q;show wpAny _ _ (assign (.Name x pos') X.env (.ref Da)) _ _ _
  refine wpAny_assign_Name (zeK I' hND hix hx (show RelV (.ref Da) (.ref Da) from rfl) (fun s2 I2 hsb=>?_) hf);obtain⟨f0,f1,f2,f3,f4,f5⟩:=hfp;obtain⟨a,hsb,ha⟩:=hsb;have hCa:C≠a:=by
   rcases ha with rfl | ha
   ·exact f1
   ·exact fun z=>f4 x a ha z.symm
  obtain⟨o,es,ep,ho,r⟩:=hns;refine⟨m,⟨o,es,ep,hsb.extBut C o hCa ho,r⟩,fun h' hs'=>?_⟩;refine wah (wah ⟨_,H',?_,q⟩);exact I2.turned (t':=s2.toks) (fun b o hb e=>hs'.extBut b o hb e) f0 f1 f3 f4 f5
theorem zlf (N:List Str)(st:Stmt){X:Cx}{i:Nat}{x:Str}{elt iter tg:Expr}{ifs:List Expr}{scope:Scope}{pos pos' cp:Pos}{NC:List Str}(fr:List (Option Nat)){wi:TI}{g:TG}{tt:TT}{te:TE}(hND:X.N.Nodup)(hix:X.N[i]?=some x)(hx:Loc X.env.scope x)
 (hcalm:X.calm=true) (hi:PI X tg iter wi)
 (hcells:∀x,X.env.scope.names.lookup x=some .cell->∃c,X.env.cells.lookup x=some c) (hfk:X.env.scope.kind=.function) (hN:X.N=N) (hsc:X.env.scope.names=(zac st).names)
 (hfree':∀y∈scope.names,y.2=.free->(zac st).names.lookup y.1=some .cell) (hcell:∀y∈scope.names,y.2≠.cell) (hkind:scope.kind=.function) (hnames:∀y∈scope.names,y.2=.local->scope.names.lookup y.1=some .local)
 (hfr':zdw N (zac st).names scope.names NC fr=true) (hlen:fr.length=NC.length)
 (hg:∀cl C s0 H0 ex pn,PG (cxC X scope cl NC C s0 H0 ex pn) tg g) (ht:∀cl C s0 H0 ex pn,PTs (cxC X scope cl NC C s0 H0 ex pn) ifs tt) (he:∀cl C s0 H0 ex pn,PE (cxC X scope cl NC C s0 H0 ex pn) elt te)
 (hs:∀x,foldedSetIterable iter X.env x=pure x:=by intro _;rfl) (hsw:swapsWith (.ListComp elt [⟨tg,iter,ifs,0⟩] scope cp) (some (.Name x pos')) pos.line X.env=pure true:=by rfl)
 (hf:X.fn x=true\/X.env.scope.names.lookup x=some .local:=by first | exact .inl rfl | exact .inr rfl | assumption) :
 PS X (.Assign [.Name x pos'] (.ListComp elt [⟨tg,iter,ifs,0⟩] scope cp) pos) (tAsg (zfE fr wi g tt te) (zdV i)):=
 zgh (RR:=fun _=>True) N st fr hND hix hx (fun _ _ _ _ _=>trivial) hcalm hi hcells hfk hN hsc hfree' hcell hkind hnames hfr' hlen hg ht (fun cl C s0 H0 ex pn _=>he cl C s0 H0 ex pn) hs hsw hf
end L2
namespace Mn
open PySem PySem.Spec PyProof PyProof.Rows
open Sem (wp)
section
variable {prog:Program}{w:World}{A:Around}{R:Result->Shared->Prop}{I:Addr}{fp wr:List Addr}{n:Nat}{P:Nat->Value->Prop}{St:Nat->Heap->Prop}
end
section
variable {prog:Program}{w:World}{A:Around}{E:Value->Shared->Prop}{s:Shared}
end
section
open PySem.SeqAt
open PySem.AutoSeq1 (wpAny_loadPart')
open PySem.MeetsSeq PySem.MeetsSeq2 PySem.MeetsSeq3
end
end Mn
namespace L2
open PySem PySem.Spec PyProof PyProof.Rows
section
variable {X:Cx}
end
end L2
namespace VD
open PySem PySem.Spec PyProof PyProof.Rows L2
inductive D where
 | non | bl (b:Bool) | int (i:Int) | str (x:Str) | tup (ds:List D) | lst (ds:List D) | dct (ks:List Key) (ds:List D) | scr (p:Addr) | exc (c:Str) (ns:List Str) (ds:List D)
mutual
def D.beq:D->D->Bool
 | .non,.non=>true
 | .bl a,.bl b=>a == b
 | .int a,.int b=>a == b
 | .str a,.str b=>a == b
 | .tup a,.tup b=>D.beqL a b
 | .lst a,.lst b=>D.beqL a b
 | .dct ks a,.dct ls b=>decide (ks=ls)&&D.beqL a b
 | .scr a,.scr b=>a == b
 | .exc c ns a,.exc c' ms b=>c == c'&&decide (ns=ms)&&D.beqL a b
 | _,_=>false
def D.beqL:List D->List D->Bool
 | [],[]=>true
 | a::as,b::bs=>D.beq a b&&D.beqL as bs
 | _,_=>false
end
mutual
theorem D.beq_iff:∀(a b:D),D.beq a b=true↔a=b
 | .non,b=>by cases b <;> simp[D.beq]
 | .bl _,b=>by cases b <;> simp[D.beq]
 | .int _,b=>by cases b <;> simp[D.beq]
 | .str _,b=>by cases b <;> simp[D.beq]
 | .tup xs,b=>by cases b <;> simp[D.beq,D.beqL_iff xs]
 | .lst xs,b=>by cases b <;> simp[D.beq,D.beqL_iff xs]
 | .dct ks xs,b=>by cases b <;> simp[D.beq,D.beqL_iff xs]
 | .scr _,b=>by cases b <;> simp[D.beq]
 | .exc c ns xs,b=>by cases b <;> simp[D.beq,D.beqL_iff xs,and_assoc]
theorem D.beqL_iff:∀(a b:List D),D.beqL a b=true↔a=b
 | [],b=>by cases b <;> simp[D.beqL]
 | x::xs,b=>by
   cases b with
   | nil=>simp[D.beqL]
   | cons y ys=>simp[D.beqL,D.beq_iff x y,D.beqL_iff xs ys]
end
instance:DecidableEq D:=fun a b=>decidable_of_iff _ (D.beq_iff a b)
instance:Inhabited D:=⟨.non⟩
def Exh (K:W.Frag)(H:Hp)(J:Addr->Prop)(a:Addr)(c:Str)(ns:List Str)(vs:List V):Prop:=
 J a/\∃oa C,W.nsIn K mainGlobals c=some (some (.ref C))/\H a=some (.frz oa (.ext fun _=>True))/\oa.cls=.ref C/\PySem.W.notCls oa=true/\
   ((ns = []/\vs = []/\oa.dict=none)\/∃d od,oa.dict=some d/\J d/\H d=some (.frz od (.xd (ns.zip vs)))/\ns.length=vs.length)
mutual
inductive Rp (K:W.Frag)(H:Hp)(J:Addr->Prop):V->D->Prop
 | non:Rp K H J .non .non
 | bl (b:Bool):Rp K H J (.bl b) (.bl b)
 | int (i:Int):Rp K H J (.int i) (.int i)
 | str (x:Str):Rp K H J (.str x) (.str x)
 | scr (p:Addr):Rp K H J (.ref p) (.scr p)
 | tup {p:Addr}{vs:List V}{ds:List D}(h:SqT K H p vs) (r:RpL K H J vs ds):Rp K H J (.ref p) (.tup ds)
 | lst {p:Addr}{vs:List V}{ds:List D}(h:H p=some (.lst vs)) (j:J p) (r:RpL K H J vs ds):Rp K H J (.ref p) (.lst ds)
 | dct {p:Addr}{kvs:List (Key×V)}{vs:List V}{ks:List Key}{ds:List D}(h:H p=some (.dK kvs)) (j:J p) (ek:kvs.map (·.1)=ks) (ev:kvs.map (·.2)=vs) (r:RpL K H J vs ds):Rp K H J (.ref p) (.dct ks ds)
 | exc {p:Addr}{c:Str}{ns:List Str}{vs:List V}{ds:List D}(h:Exh K H J p c ns vs) (r:RpL K H J vs ds):Rp K H J (.ref p) (.exc c ns ds)
inductive RpL (K:W.Frag)(H:Hp)(J:Addr->Prop):List V->List D->Prop
 | nil:RpL K H J [] []
 | cons {v:V}{d:D}{vs:List V}{ds:List D}(h:Rp K H J v d) (t:RpL K H J vs ds):RpL K H J (v::vs) (d::ds)
end
structure Keep (K:W.Frag)(H:Hp)(J:Addr->Prop)(H':Hp)(J':Addr->Prop):Prop where
 jj:∀a,J a->J' a
 jo:∀p o,J p->H p=some o->H' p=some o
 tp:∀p vs,SqT K H p vs->SqT K H' p vs
section
variable {K:W.Frag}{H H' H1 H2 Hz:Hp}{J J' J1 J2 Jz:Addr->Prop}
theorem Keep.refl:Keep K H J H J:=⟨fun _ h=>h,fun _ _ _ h=>h,fun _ _ h=>h⟩
theorem Keep.trans (a:Keep K H J H1 J1)(b:Keep K H1 J1 H2 J2):Keep K H J H2 J2:=⟨fun p h=>b.jj p (a.jj p h),fun p o j h=>b.jo p o (a.jj p j) (a.jo p o j h),fun p vs h=>b.tp p vs (a.tp p vs h)⟩
theorem Exh.keep {a:Addr}{c:Str}{ns:List Str}{vs:List V}(k:Keep K H J H' J')(h:Exh K H J a c ns vs):Exh K H' J' a c ns vs:=by
 obtain⟨j,oa,C,h1,h2,h3,h4,h5⟩:=h;refine⟨k.jj _ j,oa,C,h1,k.jo _ _ j h2,h3,h4,h5.imp (fun h=>h) fun⟨d,od,h6,h7,h8,h9⟩ =>⟨d,od,h6,k.jj _ h7,k.jo _ _ h7 h8,h9⟩⟩
mutual
theorem Rp.keep {v:V}{d:D}(k:Keep K H J H' J'):Rp K H J v d->Rp K H' J' v d
 | .non=>.non
 | .bl b=>.bl b
 | .int i=>.int i
 | .str x=>.str x
 | .scr p=>.scr p
 | .tup h r=>.tup (k.tp _ _ h) (RpL.keep k r)
 | .lst h j r=>.lst (k.jo _ _ j h) (k.jj _ j) (RpL.keep k r)
 | .dct h j ek ev r=>.dct (k.jo _ _ j h) (k.jj _ j) ek ev (RpL.keep k r)
 | .exc h r=>.exc (h.keep k) (RpL.keep k r)
theorem RpL.keep {vs:List V}{ds:List D}(k:Keep K H J H' J'):RpL K H J vs ds->RpL K H' J' vs ds
 | .nil=>.nil
 | .cons h t=>.cons (Rp.keep k h) (RpL.keep k t)
end
theorem zi7 (h:Same H H')(p:Addr)(vs:List V):SqT K H p vs->SqT K H' p vs:=by
 rintro((h1 | ⟨o,h1⟩) | h1)
 ·exact .inl (.inl (h _ _ h1))
 ·exact .inl (.inr ⟨o,h _ _ h1⟩)
 ·exact .inr h1
structure Up (H:Hp)(J:Addr->Prop)(H':Hp)(J':Addr->Prop):Prop where
 same:Same H H'
 jj:∀a,J a->J' a
 jn:∀a,J' a->J a\/H a=none
 ja:∀a,J' a->H' a≠none
theorem Up.keep (u:Up H J H' J'):Keep K H J H' J':=⟨u.jj,fun p o _ h=>u.same p o h,zi7 u.same⟩
theorem Up.refl (ja:∀a,J a->H a≠none):Up H J H J:=⟨Same.refl H,fun _ h=>h,fun _ h=>.inl h,ja⟩
theorem Up.trans (a:Up H J H1 J1)(b:Up H1 J1 H2 J2):Up H J H2 J2:=⟨a.same.trans b.same,fun p h=>b.jj p (a.jj p h),fun p h=>by
 rcases b.jn p h with h | h
 ·exact a.jn p h
 ·exact .inr (a.same.free h),b.ja⟩
theorem Up.new {p:Addr}(ja:∀a,J a->H a≠none)(hp:H p=none)(o:HO):Up H J (upd H p o) J:=
 ⟨zep hp o,fun _ h=>h,fun _ h=>.inl h,fun a h=>by
  by_cases e:a=p
  ·subst e;rw[zaf];simp
  ·rw[zag e];exact ja a h⟩
theorem Up.newJ {p:Addr}(ja:∀a,J a->H a≠none)(hp:H p=none)(o:HO):Up H J (upd H p o) (fun a=>J a\/a=p):=
 ⟨zep hp o,fun _ h=>.inl h,fun a h=>by rcases h with h | h;exact .inl h;subst h;exact .inr hp,fun a h=>by
  by_cases e:a=p
  ·subst e;rw[zaf];simp
  ·rw[zag e];rcases h with h | h;exact ja a h;exact absurd h e⟩
theorem RpL.length:∀{vs:List V}{ds:List D},RpL K H J vs ds->vs.length=ds.length
 | _,_,.nil=>rfl
 | _,_,.cons _ t=>by simp[RpL.length t]
theorem RpL.get:∀{vs:List V}{ds:List D}{i:Nat}{d:D},RpL K H J vs ds->ds[i]?=some d->∃v,vs[i]?=some v/\Rp K H J v d
 | _,_,_,_,.nil,e=>by simp at e
 | _,_,0,_,.cons h _,e=>by simp at e;subst e;exact⟨_,rfl,h⟩
 | _,_,i+1,d,.cons _ t,e=>by
   obtain⟨v,h1,h2⟩:=RpL.get (i:=i) (d:=d) t (by simpa using e);exact⟨v,by simpa using h1,h2⟩
theorem RpL.append:∀{vs us:List V}{ds es:List D},RpL K H J vs ds->RpL K H J us es->RpL K H J (vs++us) (ds++es)
 | _,_,_,_,.nil,s=>s
 | _,_,_,_,.cons h t,s=>.cons h (RpL.append t s)
theorem RpL.take:∀{vs:List V}{ds:List D}(n:Nat),RpL K H J vs ds->RpL K H J (vs.take n) (ds.take n)
 | _,_,0,_=>.nil
 | _,_,_+1,.nil=>.nil
 | _,_,n+1,.cons h t=>.cons h (RpL.take n t)
theorem RpL.drop:∀{vs:List V}{ds:List D}(n:Nat),RpL K H J vs ds->RpL K H J (vs.drop n) (ds.drop n)
 | _,_,0,h=>h
 | _,_,_+1,.nil=>.nil
 | _,_,n+1,.cons _ t=>RpL.drop n t
theorem RpL.reverse:∀{vs:List V}{ds:List D},RpL K H J vs ds->RpL K H J vs.reverse ds.reverse
 | _,_,.nil=>.nil
 | _,_,.cons h t=>by
   rw[wbF,wbF];exact(RpL.reverse t).append (.cons h .nil)
theorem RpL.set:∀{vs:List V}{ds:List D}(i:Nat) {v:V}{d:D},RpL K H J vs ds->Rp K H J v d->RpL K H J (vs.set i v) (ds.set i d)
 | _,_,_,_,_,.nil,_=>.nil
 | _,_,0,_,_,.cons _ t,h=>.cons h t
 | _,_,i+1,_,_,.cons q t,h=>.cons q (RpL.set i t h)
theorem RpL.at {vs:List V}{ds:List D}{i:Int}{d:D}(r:RpL K H J vs ds)(h:atI ds i=some d):∃v,atI vs i=some v/\Rp K H J v d:=by
 unfold atI at h⊢;rw[r.length];cases e:ixN ds.length i with
 | none=>rw[e] at h;cases h
 | some j=>rw[e] at h;exact r.get h
end
mutual
inductive RpU (K:W.Frag)(H:Hp)(J:Addr->Prop):Nat->V->D->List Addr->Prop
 | frz {v:V}{d:D}(h:Rp K H J v d):RpU K H J 0 v d []
 | lst {n:Nat}{a:Addr}{vs:List V}{ds:List D}{A:List Addr}(h:H a=some (.lst vs)) (r:RpUL K H J n vs ds A):RpU K H J (n+1) (.ref a) (.lst ds) (a::A)
 | dct {n:Nat}{a:Addr}{kvs:List (Key×V)}{vs:List V}{ks:List Key}{ds:List D}{A:List Addr}(h:H a=some (.dK kvs)) (ek:kvs.map (·.1)=ks) (ev:kvs.map (·.2)=vs) (r:RpUL K H J n vs ds A):RpU K H J (n+1) (.ref a) (.dct ks ds) (a::A)
inductive RpUL (K:W.Frag)(H:Hp)(J:Addr->Prop):Nat->List V->List D->List Addr->Prop
 | nil {n:Nat}:RpUL K H J n [] [] []
 | cons {n:Nat}{v:V}{d:D}{vs:List V}{ds:List D}{A B:List Addr}(h:RpU K H J n v d A) (t:RpUL K H J n vs ds B):RpUL K H J n (v::vs) (d::ds) (A++B)
end
def MutO:HO->Prop
 | .lst _=>True
 | .dK _=>True
 | _=>False
section
variable {K:W.Frag}{H H' H1 H2 Hz:Hp}{J J' J1 J2 Jz:Addr->Prop}
mutual
theorem RpU.keep {n:Nat}{v:V}{d:D}{A:List Addr}(k:Keep K H J H' J')(hA:∀b∈A,∀o,H b=some o->H' b=some o):RpU K H J n v d A->RpU K H' J' n v d A
 | .frz h=>.frz (h.keep k)
 | .lst h r=>.lst (hA _ wal _ h) (RpUL.keep k (fun b hb=>hA b (waf _ hb)) r)
 | .dct h ek ev r=>.dct (hA _ wal _ h) ek ev (RpUL.keep k (fun b hb=>hA b (waf _ hb)) r)
theorem RpUL.keep {n:Nat}{vs:List V}{ds:List D}{A:List Addr}(k:Keep K H J H' J')(hA:∀b∈A,∀o,H b=some o->H' b=some o):RpUL K H J n vs ds A->RpUL K H' J' n vs ds A
 | .nil=>.nil
 | .cons h t=>.cons (RpU.keep k (fun b hb=>hA b (wbp _ hb)) h) (RpUL.keep k (fun b hb=>hA b (waw _ hb)) t)
end
mutual
theorem RpU.some {n:Nat}{v:V}{d:D}{A:List Addr}:RpU K H J n v d A->∀b∈A,∃o,H b=Option.some o/\MutO o
 | .frz _=>fun b hb=>absurd hb (by simp)
 | .lst h r=>fun b hb=>by
   rcases wag.mp hb with rfl | hb
   ·exact⟨_,h,trivial⟩
   ·exact RpUL.some r b hb
 | .dct h _ _ r=>fun b hb=>by
   rcases wag.mp hb with rfl | hb
   ·exact⟨_,h,trivial⟩
   ·exact RpUL.some r b hb
theorem RpUL.some {n:Nat}{vs:List V}{ds:List D}{A:List Addr}:RpUL K H J n vs ds A->∀b∈A,∃o,H b=Option.some o/\MutO o
 | .nil=>fun b hb=>absurd hb (by simp)
 | .cons h t=>fun b hb=>by
   rcases way.mp hb with hb | hb
   ·exact RpU.some h b hb
   ·exact RpUL.some t b hb
end
mutual
theorem RpU.rp {n:Nat}{v:V}{d:D}{A:List Addr}(j:∀a,J a->J' a)(hA:∀b∈A,J' b):RpU K H J n v d A->Rp K H J' v d
 | .frz h=>h.keep ⟨j,fun _ _ _ h=>h,fun _ _ h=>h⟩
 | .lst h r=>.lst h (hA _ wal) (RpUL.rp j (fun b hb=>hA b (waf _ hb)) r)
 | .dct h ek ev r=>.dct h (hA _ wal) ek ev (RpUL.rp j (fun b hb=>hA b (waf _ hb)) r)
theorem RpUL.rp {n:Nat}{vs:List V}{ds:List D}{A:List Addr}(j:∀a,J a->J' a)(hA:∀b∈A,J' b):RpUL K H J n vs ds A->RpL K H J' vs ds
 | .nil=>.nil
 | .cons h t=>.cons (RpU.rp j (fun b hb=>hA b (wbp _ hb)) h) (RpUL.rp j (fun b hb=>hA b (waw _ hb)) t)
end
theorem RpUL.zero:∀{vs:List V}{ds:List D}{A:List Addr},RpUL K H J 0 vs ds A->RpL K H J vs ds/\A = []
 | _,_,_,.nil=>⟨.nil,rfl⟩
 | _,_,_,.cons (.frz h) t=>by
   obtain⟨r,e⟩:=RpUL.zero t;subst e;exact⟨.cons h r,rfl⟩
theorem RpUL.of:∀{vs:List V}{ds:List D},RpL K H J vs ds->RpUL K H J 0 vs ds []
 | _,_,.nil=>.nil
 | _,_,.cons h t=>.cons (A:=[]) (B:=[]) (.frz h) (RpUL.of t)
theorem RpU.one {v:V}{ds:List D}{A:List Addr}(h:RpU K H J 1 v (.lst ds) A):∃a vs,v=.ref a/\A = [a]/\H a=Option.some (.lst vs)/\RpL K H J vs ds:=by
 cases h with
 | lst h r=>obtain⟨r',rfl⟩:=r.zero;exact⟨_,_,rfl,rfl,h,r'⟩
theorem RpU.oneD {v:V}{ks:List Key}{ds:List D}{A:List Addr}(h:RpU K H J 1 v (.dct ks ds) A):∃a kvs vs,v=.ref a/\A = [a]/\H a=Option.some (.dK kvs)/\kvs.map (·.1)=ks/\kvs.map (·.2)=vs/\RpL K H J vs ds:=by
 cases h with
 | dct h e1 e2 r=>obtain⟨r',rfl⟩:=r.zero;exact⟨_,_,_,rfl,rfl,h,e1,e2,r'⟩
theorem RpUL.length {n:Nat}:∀{vs:List V}{ds:List D}{A:List Addr},RpUL K H J n vs ds A->vs.length=ds.length
 | _,_,_,.nil=>rfl
 | _,_,_,.cons _ t=>by simp[RpUL.length t]
theorem RpUL.append {n:Nat}:∀{vs us:List V}{ds es:List D}{A B:List Addr},RpUL K H J n vs ds A->RpUL K H J n us es B->RpUL K H J n (vs++us) (ds++es) (A++B)
 | _,_,_,_,_,_,.nil,s=>s
 | _,_,_,_,_,_,.cons h t,s=>by rw[wbc];exact .cons h (RpUL.append t s)
theorem RpUL.split {n:Nat}:∀{vs:List V}{ds:List D}{A:List Addr}(i:Nat) {d:D},RpUL K H J n vs ds A->ds[i]?=Option.some d->∃v A1 A2 A3,vs[i]?=Option.some v/\A=A1++(A2++A3)/\RpU K H J n v d A2/\
 ∀(H':Hp) (J':Addr->Prop) (u:V) (e:D) (B:List Addr),Keep K H J H' J'->(∀b∈A1++A3,∀o,H b=Option.some o->H' b=Option.some o)->RpU K H' J' n u e B->RpUL K H' J' n (vs.set i u) (ds.set i e) (A1++(B++A3))
 | _,_,_,_,_,.nil,e=>by simp at e
 | _,_,_,0,_,.cons (A:=A) (B:=B) h t,e=>by
   simp at e;subst e;exact⟨_,[],A,B,rfl,rfl,h,fun H' J' u e C k hk r=>RpUL.cons (A:=C) (B:=B) r (t.keep k (fun b hb=>hk b (by simpa using hb)))⟩
 | _,_,_,i+1,d,.cons (A:=A) (B:=B) h t,e=>by
   obtain⟨v,A1,A2,A3,hv,rfl,hr,up⟩:=RpUL.split i t (by simpa using e);refine⟨v,A++A1,A2,A3,by simpa using hv,by simp,hr,fun H' J' u e C k hk r=>?_⟩;rw[wbc];exact .cons (h.keep k (fun b hb=>hk b (by simp[hb]))) (up H' J' u e C k (fun b hb=>hk b (by simp at hb⊢;rcases hb with hb | hb <;> simp[hb])) r)
def RpW (K:W.Frag)(H:Hp)(J:Addr->Prop)(v:V)(d:D):Prop:=Rp K H J v d\/∃A,RpU K H J 1 v d A
theorem RpW.lst {v:V}{ds:List D}(h:RpW K H J v (.lst ds)):∃p vs,v=.ref p/\H p=some (.lst vs)/\RpL K H J vs ds:=by
 rcases h with h | ⟨A,h⟩
 ·cases h with | lst h j r=>exact⟨_,_,rfl,h,r⟩
 ·obtain⟨a,vs,rfl,_,h,r⟩:=h.one;exact⟨a,vs,rfl,h,r⟩
theorem RpW.tup {v:V}{ds:List D}(h:RpW K H J v (.tup ds)):∃p vs,v=.ref p/\SqT K H p vs/\RpL K H J vs ds:=by
 rcases h with h | ⟨A,h⟩
 ·cases h with | tup h r=>exact⟨_,_,rfl,h,r⟩
 ·cases h
theorem RpW.dct {v:V}{ks:List Key}{ds:List D}(h:RpW K H J v (.dct ks ds)):∃p kvs vs,v=.ref p/\H p=some (.dK kvs)/\kvs.map (·.1)=ks/\kvs.map (·.2)=vs/\RpL K H J vs ds:=by
 rcases h with h | ⟨A,h⟩
 ·cases h with | dct h j e1 e2 r=>exact⟨_,_,_,rfl,h,e1,e2,r⟩
 ·obtain⟨a,kvs,vs,rfl,_,h,e1,e2,r⟩:=h.oneD;exact⟨a,kvs,vs,rfl,h,e1,e2,r⟩
theorem RpW.int {v:V}{i:Int}(h:RpW K H J v (.int i)):v=.int i:=by
 rcases h with h | ⟨A,h⟩ <;> cases h
 rfl
theorem RpW.str {v:V}{i:Str}(h:RpW K H J v (.str i)):v=.str i:=by
 rcases h with h | ⟨A,h⟩ <;> cases h
 rfl
theorem RpW.bl {v:V}{i:Bool}(h:RpW K H J v (.bl i)):v=.bl i:=by
 rcases h with h | ⟨A,h⟩ <;> cases h
 rfl
theorem RpW.non {v:V}(h:RpW K H J v .non):v=.non:=by
 rcases h with h | ⟨A,h⟩ <;> cases h
 rfl
end
inductive SV where
 | un | val (d:D) | own (n:Nat) (d:D) | par (n:Nat) (d:D)
abbrev En:=List SV
structure Pr where
 ps:List (Nat×Addr×Nat)
 fpo:Nat->List Addr
def Pr.no:Pr:=⟨[],fun _=>[]⟩
def Pr.has (O:Pr)(b:Addr):Prop:=∃i,b∈O.fpo i
def OwAt (K:W.Frag)(Hz H:Hp)(J:Addr->Prop)(O:List Addr)(x:Option (Option V))(A:List Addr):Option SV->Prop
 | some (.own n d)=>(∃v,x=some (some v)/\RpU K H J n v d A)/\∀b∈A,Hz b=none
 | some (.par n d)=>(∃v,x=some (some v)/\RpU K H J n v d A)/\∀b∈A,Hz b=none\/b∈O
 | _=>A = []
structure Ow (K:W.Frag)(Hz:Hp)(O:Pr)(ρ:En)(σ:L2.St)(H:Hp)(J:Addr->Prop)(fp:Nat->List Addr):Prop where
 at':∀i,OwAt K Hz H J (O.fpo i) (σ[i]?) (fp i) (ρ[i]?)
 nd:∀i,(fp i).Nodup
 nj:∀i,∀b∈fp i,¬J b
 dj:∀i j,i≠j->∀b∈fp i,b∉fp j
structure ST (K:W.Frag)(Hz:Hp)(Jz:Addr->Prop)(O:Pr)(ρ:En)(σ:L2.St)(H:Hp)(J:Addr->Prop):Prop where
 same:∀b o,¬O.has b->Hz b=some o->H b=some o
 j0:∀a,Jz a->J a
 jn:∀a,J a->Jz a\/Hz a=none
 ja:∀a,J a->H a≠none
 len:σ.length=ρ.length
 vl:∀(i:Nat) (d:D),ρ[i]?=some (.val d)->∃v,σ[i]?=some (some v)/\Rp K H J v d
 ow:∃fp,Ow K Hz O ρ σ H J fp
 ps:∀q∈O.ps,σ[q.1]?=some (some (.ref q.2.1))/\∃d,ρ[q.1]?=some (.par q.2.2 d)
 al:∀b,Hz b≠none->H b≠none
section
variable {K:W.Frag}{H H' H1 H2 Hz:Hp}{J J' J1 J2 Jz:Addr->Prop}{ρ:En}{σ:L2.St}{O:Pr}
theorem OwAt.ru {B:List Addr}{x:Option (Option V)}{A:List Addr}{s:Option SV}(h:OwAt K Hz H J B x A s):∀b∈A,∃o,H b=some o/\MutO o:=by
 match s,h with
 | some (.own n d),⟨⟨v,_,r⟩,_⟩ =>exact r.some
 | some (.par n d),⟨⟨v,_,r⟩,_⟩ =>exact r.some
 | none,h=>cases h;simp
 | some .un,h=>cases h;simp
 | some (.val _),h=>cases h;simp
theorem OwAt.keep {B:List Addr}{x:Option (Option V)}{A:List Addr}{s:Option SV}(k:Keep K H J H' J')(hA:∀b∈A,∀o,H b=some o->H' b=some o)(h:OwAt K Hz H J B x A s):OwAt K Hz H' J' B x A s:=by
 match s,h with
 | some (.own n d),⟨⟨v,e,r⟩,q⟩ =>exact⟨⟨v,e,r.keep k hA⟩,q⟩
 | some (.par n d),⟨⟨v,e,r⟩,q⟩ =>exact⟨⟨v,e,r.keep k hA⟩,q⟩
 | none,h=>exact h
 | some .un,h=>exact h
 | some (.val _),h=>exact h
theorem ST.up (s:ST K Hz Jz O ρ σ H J)(u:Up H J H' J'):ST K Hz Jz O ρ σ H' J' where
 same:=fun b o hb h=>u.same b o (s.same b o hb h)
 j0:=fun a h=>u.jj a (s.j0 a h)
 jn:=fun a h=>by
  rcases u.jn a h with h | h
  ·exact s.jn a h
  ·right
   cases e:Hz a with
   | none=>rfl
   | some o=>
     exact absurd h (s.al a (by rw[e];simp))
 ja:=u.ja
 len:=s.len
 vl:=fun i d h=>let ⟨v,e,r⟩:=s.vl i d h;⟨v,e,r.keep u.keep⟩
 ow:=by
  obtain⟨fp,w⟩:=s.ow;refine⟨fp,fun i=>(w.at' i).keep u.keep fun b _=>u.same b,w.nd,fun i b hb j=>?_,w.dj⟩;rcases u.jn b j with j | j
  ·exact w.nj i b hb j
  ·obtain⟨o,e,_⟩:=(w.at' i).ru b hb;rw[e] at j;cases j
 ps:=s.ps
 al:=fun b h=>by
  cases e:H b with
  | none=>exact absurd e (s.al b h)
  | some o=>rw[u.same b o e];simp
theorem zcw {α:Type}{l:List α}{i j:Nat}{x y:α}(h:(l.set i x)[j]?=some y):(j=i/\y=x)\/(j≠i/\l[j]?=some y):=by
 by_cases e:j=i
 ·subst e;by_cases hl:j<l.length
  ·rw[wap hl] at h;exact .inl ⟨rfl,(wau h).symm⟩
  ·rw[waI (by simp;omega)] at h;cases h
 ·rw[wad (Ne.symm e)] at h;exact .inr ⟨e,h⟩
def zhI (fp:Nat->List Addr)(i:Nat)(A:List Addr):Nat->List Addr:=fun j=>if j=i then A else fp j
theorem za1 {fp:Nat->List Addr}{i:Nat}{A:List Addr}:zhI fp i A i=A:=if_pos rfl
theorem zbt {fp:Nat->List Addr}{i j:Nat}{A:List Addr}(h:j≠i):zhI fp i A j=fp j:=if_neg h
theorem Ow.put {fp:Nat->List Addr}{ρ':En}{σ':L2.St}{i:Nat}{A:List Addr}(w:Ow K Hz O ρ σ H J fp)(k:Keep K H J H' J')(hs:∀j,j≠i->∀b∈fp j,∀o,H b=some o->H' b=some o)
 (hj:∀j,j≠i->∀b∈fp j,¬J' b) (hρ:∀j,j≠i->ρ'[j]?=ρ[j]?) (hσ:∀j,j≠i->σ'[j]?=σ[j]?) (hi:OwAt K Hz H' J' (O.fpo i) (σ'[i]?) A (ρ'[i]?)) (nd:A.Nodup) (nj:∀b∈A,¬J' b) (dj:∀j,j≠i->∀b∈A,b∉fp j) :
 Ow K Hz O ρ' σ' H' J' (zhI fp i A) where
 at':=fun j=>by
  by_cases e:j=i
  ·subst e;rw[za1];exact hi
  ·rw[zbt e,hρ j e,hσ j e];exact(w.at' j).keep k (hs j e)
 nd:=fun j=>by
  by_cases e:j=i
  ·subst e;rw[za1];exact nd
  ·rw[zbt e];exact w.nd j
 nj:=fun j b hb=>by
  by_cases e:j=i
  ·subst e;rw[za1] at hb;exact nj b hb
  ·rw[zbt e] at hb;exact hj j e b hb
 dj:=fun j l ne b hb=>by
  by_cases e:j=i
  ·subst e;rw[za1] at hb;rw[zbt (Ne.symm ne)];exact dj l (Ne.symm ne) b hb
  ·rw[zbt e] at hb;by_cases e2:l=i
   ·subst e2;rw[za1];exact fun hb2=>dj j e b hb2 hb
   ·rw[zbt e2];exact w.dj j l ne b hb
theorem ST.psNe {i:Nat}(s:ST K Hz Jz O ρ σ H J)(hp:∀n d,ρ[i]?≠some (.par n d)):∀q∈O.ps,q.1≠i:=fun q hq e=>by
 obtain⟨_,d,h⟩:=s.ps q hq;exact hp _ d (e▸h)
theorem ST.set {i:Nat}{v:V}{d:D}(s:ST K Hz Jz O ρ σ H J)(r:Rp K H J v d)(hi:i<ρ.length)(hp:∀n d,ρ[i]?≠some (.par n d)):ST K Hz Jz O (ρ.set i (.val d)) (σ.set i (some v)) H J where
 same:=s.same
 j0:=s.j0
 jn:=s.jn
 ja:=s.ja
 len:=by simp[s.len]
 vl:=fun j e h=>by
  rcases zcw h with⟨rfl,he⟩ | ⟨ne,h⟩
  ·cases he;exact⟨v,wap (by rw[s.len];exact hi),r⟩
  ·rw[wad (Ne.symm ne)];exact s.vl j e h
 ow:=by
  obtain⟨fp,w⟩:=s.ow;refine⟨_,w.put (i:=i) (A:=[]) Keep.refl (fun _ _ _ _ _ h=>h) (fun j _=>w.nj j) (fun j e=>wad (Ne.symm e)) (fun j e=>wad (Ne.symm e)) ?_ wbf (by simp) (by simp)⟩;rw[wap hi];rfl
 ps:=fun q hq=>by
  have e:=s.psNe hp q hq
  rw[wad (Ne.symm e),wad (Ne.symm e)];exact s.ps q hq
 al:=s.al
theorem ST.drop {i:Nat}(s:ST K Hz Jz O ρ σ H J)(hp:∀n d,ρ[i]?≠some (.par n d)):ST K Hz Jz O (ρ.set i .un) σ H J where
 same:=s.same
 j0:=s.j0
 jn:=s.jn
 ja:=s.ja
 len:=by simp[s.len]
 vl:=fun j e h=>by
  rcases zcw h with⟨rfl,he⟩ | ⟨ne,h⟩
  ·cases he
  ·exact s.vl j e h
 ow:=by
  obtain⟨fp,w⟩:=s.ow;refine⟨_,w.put (i:=i) (A:=[]) Keep.refl (fun _ _ _ _ _ h=>h) (fun j _=>w.nj j) (fun j e=>wad (Ne.symm e)) (fun _ _=>rfl) ?_ wbf (by simp) (by simp)⟩;by_cases hi:i<ρ.length
  ·rw[wap hi];rfl
  ·have z:(List.set ρ i SV.un)[i]?=none:=waI (by simp;omega)
   rw[z];rfl
 ps:=fun q hq=>by
  have e:=s.psNe hp q hq
  rw[wad (Ne.symm e)];exact s.ps q hq
 al:=s.al
theorem ST.setOwn {i n:Nat}{v:V}{d:D}{A:List Addr}(s:ST K Hz Jz O ρ σ H1 J1)(u:Up H1 J1 H J)(fr:∀b∈A,H1 b=none)(r:RpU K H J n v d A)(nd:A.Nodup)(nj:∀b∈A,¬J b)(hi:i<ρ.length)(hp:∀n d,ρ[i]?≠some (.par n d)) :
 ST K Hz Jz O (ρ.set i (.own n d)) (σ.set i (some v)) H J:=by
 have s':=s.up u
 refine⟨s'.same,s'.j0,s'.jn,s'.ja,by simp[s.len],fun j e h=>?_,?_,fun q hq=>?_,s'.al⟩
 ·rcases zcw h with⟨rfl,he⟩ | ⟨ne,h⟩
  ·cases he
  ·rw[wad (Ne.symm ne)];exact s'.vl j e h
 ·obtain⟨fp,w⟩:=s.ow;have h0:∀b∈A,Hz b=none:=fun b hb=>by
   cases e:Hz b with
   | none=>rfl
   | some o=>exact absurd (fr b hb) (s.al b (by rw[e];simp))
  refine⟨_,w.put (i:=i) (A:=A) u.keep (fun j _ b _ o=>u.same b o) (fun j _ b hb jb=>?_) (fun j e=>wad (Ne.symm e)) (fun j e=>wad (Ne.symm e)) ?_ nd nj (fun j _ b hb hb2=>?_)⟩
  ·rcases u.jn b jb with jb | jb
   ·exact w.nj j b hb jb
   ·obtain⟨o,e,_⟩:=(w.at' j).ru b hb;rw[e] at jb;cases jb
  ·rw[wap hi,wap (by rw[s.len];exact hi)];exact⟨⟨v,rfl,r⟩,h0⟩
  ·obtain⟨o,e,_⟩:=(w.at' j).ru b hb2;rw[fr b hb] at e;cases e
 ·have e:=s.psNe hp q hq
  rw[wad (Ne.symm e),wad (Ne.symm e)];exact s.ps q hq
def ownD:Option SV->Option (Nat×D)
 | some (.own n d)=>some (n,d)
 | some (.par n d)=>some (n,d)
 | _=>none
def putD (s:Option SV)(d:D):SV:=match s with
 | some (.own n _)=>.own n d
 | some (.par n _)=>.par n d
 | _=>.un
theorem zi8 {A:List Addr}(hm:∀b∈A,∃o,H b=some o/\MutO o)(nj:∀b∈A,¬J b)(hs:∀b o,b∉A->H b=some o->H' b=some o)(jj:∀a,J a->J' a):Keep K H J H' J':=⟨jj,fun p o j h=>hs p o (fun hp=>nj p hp j) h,fun p vs h=>by
 rcases h with(h | ⟨u,h⟩) | h
 ·exact .inl (.inl (hs p _ (fun hp=>by obtain⟨o,e,m⟩:=hm p hp;rw[h] at e;cases e;exact m) h))
 ·exact .inl (.inr ⟨u,hs p _ (fun hp=>by obtain⟨o,e,m⟩:=hm p hp;rw[h] at e;cases e;exact m) h⟩)
 ·exact .inr h⟩
theorem ST.chg {i n:Nat}{d:D}(s:ST K Hz Jz O ρ σ H J)(h0:ownD (ρ[i]?)=some (n,d)):∃v A,σ[i]?=some (some v)/\RpU K H J n v d A/\A.Nodup/\(∀b∈A,¬J b)/\
 ∀(H':Hp) (J':Addr->Prop) (d':D) (A':List Addr),(∀b o,b∉A->H b=some o->H' b=some o)->(∀b,H b≠none->H' b≠none)->(∀a,J a->J' a)->(∀a,J' a->J a\/H a=none)->(∀a,J' a->H' a≠none)->
  RpU K H' J' n v d' A'->A'.Nodup->(∀b∈A',¬J' b)->(∀b∈A',b∈A\/H b=none)->ST K Hz Jz O (ρ.set i (putD (ρ[i]?) d')) σ H' J'/\Keep K H J H' J':=by
 obtain⟨fp,w⟩:=s.ow;have hat:=w.at' i
 have hi:i<ρ.length:=by
  by_cases hi:i<ρ.length
  ·exact hi
  ·rw[waI (by omega)] at h0;cases h0
 have main:(∃v,σ[i]?=some (some v)/\RpU K H J n v d (fp i))/\(∀b∈fp i,Hz b=none\/b∈O.fpo i):=by
  match hq:ρ[i]?,h0,hat with
  | some (.own m e),h0,hat=>cases h0;exact⟨hat.1,fun b hb=>.inl (hat.2 b hb)⟩
  | some (.par m e),h0,hat=>cases h0;exact hat
 obtain⟨⟨v,hv,r⟩,hfr⟩:=main;refine⟨v,fp i,hv,r,w.nd i,w.nj i,fun H' J' d' A' hs ha jj jn ja r' nd nj hA=>?_⟩;have kp:Keep K H J H' J':=zi8 (fun b hb=>hat.ru b hb) (w.nj i) hs jj
 have out:∀j,j≠i->∀b∈fp j,b∉fp i:=fun j e b hb hb2=>w.dj j i e b hb hb2
 have free:∀b,H b=none->Hz b=none:=fun b hb=>by
  cases e:Hz b with
  | none=>rfl
  | some o=>exact absurd hb (s.al b (by rw[e];simp))
 refine⟨⟨fun b o hb h=>hs b o (fun hb2=>?_) (s.same b o hb h),fun a h=>jj a (s.j0 a h),fun a h=>?_,ja,by simp[s.len],fun j e h=>?_,?_,fun q hq=>?_,fun b h=>ha b (s.al b h)⟩,kp⟩
 ·rcases hfr b hb2 with h2 | h2
  ·rw[h2] at h;cases h
  ·exact hb ⟨i,h2⟩
 ·rcases jn a h with h | h
  ·exact s.jn a h
  ·exact .inr (free a h)
 ·rcases zcw h with⟨rfl,he⟩ | ⟨ne,h⟩
  ·exfalso
   unfold putD at he;match hq:ρ[j]?,h0 with
   | some (.own m e),h0=>rw[hq] at he;cases he
   | some (.par m e),h0=>rw[hq] at he;cases he
  ·obtain⟨v,e1,r1⟩:=s.vl j e h;exact⟨v,e1,r1.keep kp⟩
 ·refine⟨_,w.put (i:=i) (A:=A') kp (fun j e b hb o ho=>hs b o (out j e b hb) ho) (fun j e b hb jb=>?_) (fun j e=>wad (Ne.symm e)) (fun _ _=>rfl) ?_ nd nj (fun j e b hb hb2=>?_)⟩
  ·rcases jn b jb with jb | jb
   ·exact w.nj j b hb jb
   ·obtain⟨o,e,_⟩:=(w.at' j).ru b hb;rw[e] at jb;cases jb
  ·rw[wap hi];match hq:ρ[i]?,h0,hat with
   | some (.own m e),h0,hat=>
     cases h0;refine⟨⟨v,hv,r'⟩,fun b hb=>?_⟩;rcases hA b hb with hb | hb
     ·exact hat.2 b hb
     ·exact free b hb
   | some (.par m e),h0,hat=>
     cases h0;refine⟨⟨v,hv,r'⟩,fun b hb=>?_⟩;rcases hA b hb with hb | hb
     ·exact hat.2 b hb
     ·exact .inl (free b hb)
  ·rcases hA b hb with hb | hb
   ·exact w.dj j i e b hb2 hb
   ·obtain⟨o,e,_⟩:=(w.at' j).ru b hb2;rw[hb] at e;cases e
 ·obtain⟨e1,e,h⟩:=s.ps q hq;refine⟨e1,?_⟩;by_cases e:q.1=i
  ·rw[e,wap hi];rw[e] at h;exact⟨d',by rw[h];rfl⟩
  ·rw[wad (Ne.symm e)];exact⟨_,h⟩
theorem ST.frz {i n:Nat}{d:D}(s:ST K Hz Jz O ρ σ H J)(h0:ρ[i]?=some (.own n d)):∃J',ST K Hz Jz O (ρ.set i (.val d)) σ H J'/\Keep K H J H J':=by
 obtain⟨fp,w⟩:=s.ow;have hat:=w.at' i
 rw[h0] at hat
 obtain⟨⟨v,hv,r⟩,hn⟩:=hat
 have hi:i<ρ.length:=(wak.mp h0).1
 have kp:Keep K H J H (fun b=>J b\/b∈fp i):=⟨fun _ h=>.inl h,fun _ _ _ h=>h,fun _ _ h=>h⟩
 refine⟨fun b=>J b\/b∈fp i,⟨s.same,fun b h=>.inl (s.j0 b h),fun b h=>?_,fun b h=>?_,by simp[s.len],fun j e h=>?_,?_,fun q hq=>?_,s.al⟩,kp⟩
 ·rcases h with h | h
  ·exact s.jn b h
  ·exact .inr (hn b h)
 ·rcases h with h | h
  ·exact s.ja b h
  ·obtain⟨o,e,_⟩:=r.some b h;rw[e];simp
 ·rcases zcw h with⟨rfl,he⟩ | ⟨ne,h⟩
  ·cases he;exact⟨v,hv,r.rp (fun _ h=>.inl h) (fun b hb=>.inr hb)⟩
  ·obtain⟨v,e1,r1⟩:=s.vl j e h;exact⟨v,e1,r1.keep kp⟩
 ·refine⟨_,w.put (i:=i) (A:=[]) kp (fun _ _ _ _ _ h=>h) (fun j e b hb jb=>?_) (fun j e=>wad (Ne.symm e)) (fun _ _=>rfl) ?_ wbf (by simp) (by simp)⟩
  ·rcases jb with jb | jb
   ·exact w.nj j b hb jb
   ·exact w.dj j i e b hb jb
  ·rw[wap hi];rfl
 ·have e:=s.psNe (i:=i) (fun n d z=>by rw[h0] at z;cases z) q hq
  rw[wad (Ne.symm e)];exact s.ps q hq
def Weak (ρ' ρ:En):Prop:=ρ'.length=ρ.length/\∀(i:Nat),ρ'[i]?=ρ[i]?\/ρ'[i]?=some .un
def isUn:Option SV->Bool
 | some .un=>true
 | _=>false
theorem ST.weak {ρ':En}(s:ST K Hz Jz O ρ σ H J)(w:Weak ρ' ρ)(hO:O.ps = []):ST K Hz Jz O ρ' σ H J where
 same:=s.same
 j0:=s.j0
 jn:=s.jn
 ja:=s.ja
 len:=by rw[s.len,w.1]
 vl:=fun i d h=>by
  rcases w.2 i with e | e
  ·exact s.vl i d (e▸h)
  ·rw[e] at h;cases h
 ow:=by
  obtain⟨fp,o⟩:=s.ow;have key:∀i:Nat,(ρ'[i]?=some SV.un)\/ρ'[i]?=ρ[i]?:=fun i=>(w.2 i).symm
  refine⟨fun i=>if isUn (ρ'[i]?) then[] else fp i,fun i=>?_,fun i=>?_,fun i b hb=>?_,fun i j ne b hb=>?_⟩
  ·have q:=o.at' i
   rcases key i with e | e
   ·rw[e];rfl
   ·rw[e];cases z:ρ[i]? with
    | none=>rw[z] at q;exact q
    | some x=>
      rw[z] at q;cases x with
      | un=>rfl
      | val d=>exact q
      | own n d=>exact q
      | par n d=>exact q
  ·split
   ·exact wbf
   ·exact o.nd i
  ·split at hb
   ·cases hb
   ·exact o.nj i b hb
  ·split at hb
   ·cases hb
   ·split
    ·simp
    ·exact o.dj i j ne b hb
 ps:=by rw[hO];simp
 al:=s.al
end
end VD
namespace VD
open PySem PySem.Spec PyProof PyProof.Rows L2
abbrev FE:=En->Option D
abbrev FT:=En->Option Bool
abbrev FA:=En->Option (List D)
def lim:Nat:=100000
theorem zd4:lim<sizeLine:=by decide
theorem zbZ {n:Nat}(h:n<=lim):n<=sizeLine:=wai h (waW zd4)
def mkL (ds:List D):Option D:=if ds.length<=lim then some (.lst ds) else none
def mkT (ds:List D):Option D:=if ds.length<=lim then some (.tup ds) else none
theorem zi9 {ds:List D}{d:D}(h:mkL ds=some d):ds.length<=lim/\d=.lst ds:=by
 unfold mkL at h;by_cases e:ds.length<=lim
 ·rw[if_pos e] at h;exact⟨e,(wau h).symm⟩
 ·rw[if_neg e] at h;cases h
theorem zeq {ds:List D}{d:D}(h:mkT ds=some d):ds.length<=lim/\d=.tup ds:=by
 unfold mkT at h;by_cases e:ds.length<=lim
 ·rw[if_pos e] at h;exact⟨e,(wau h).symm⟩
 ·rw[if_neg e] at h;cases h
section
variable (K:W.Frag)
def zfH (H:Hp)(J:Addr->Prop)(d:D)(Q:VK):Prop:=∀v H' J',Up H J H' J'->Rp K H' J' v d->Q v H'
def zmR (H:Hp)(J:Addr->Prop)(d:D)(Q:VK):Prop:=∀v H' J',Up H J H' J'->RpW K H' J' v d->Q v H'
def zkk (H:Hp)(J:Addr->Prop)(ds:List D)(Q:VK):Prop:=∀p vs H' J',Up H J H' J'->H p=none->¬J' p->H' p=some (.lst vs)->RpL K H' J' vs ds->Q (.ref p) H'
def zkl (H:Hp)(J:Addr->Prop)(b:Bool)(Q:Bool->Hp->Prop):Prop:=∀H' J',Up H J H' J'->Q b H'
def zmS (H:Hp)(J:Addr->Prop)(ds:List D)(Q:List V->Hp->Prop):Prop:=∀vs H' J',Up H J H' J'->RpL K H' J' vs ds->Q vs H'
def GoE (t:TE)(f:FE):Prop:=∀Hz Jz O ρ σ H J d Q,ST K Hz Jz O ρ σ H J->f ρ=some d->zfH K H J d Q->t σ H Q
def GoW (t:TE)(f:FE):Prop:=∀Hz Jz O ρ σ H J d Q,ST K Hz Jz O ρ σ H J->f ρ=some d->zmR K H J d Q->t σ H Q
def GoN (t:TE)(f:FA):Prop:=∀Hz Jz O ρ σ H J d Q,ST K Hz Jz O ρ σ H J->f ρ=some d->zkk K H J d Q->t σ H Q
def GoT (t:TT)(f:FT):Prop:=∀Hz Jz O ρ σ H J b Q,ST K Hz Jz O ρ σ H J->f ρ=some b->zkl H J b Q->t σ H Q
def GoA (t:TA)(f:FA):Prop:=∀Hz Jz O ρ σ H J ds Q,ST K Hz Jz O ρ σ H J->f ρ=some ds->zmS K H J ds Q->t σ H Q
end
def VE (X:Cx)(e:Expr)(f:FE):Prop:=∃t,PE X e t/\GoE X.K t f
def VW (X:Cx)(e:Expr)(f:FE):Prop:=∃t,PE X e t/\GoW X.K t f
def VN (X:Cx)(e:Expr)(f:FA):Prop:=∃t,PE X e t/\GoN X.K t f
def VT (X:Cx)(e:Expr)(f:FT):Prop:=∃t,PT X e t/\GoT X.K t f
def VP (X:Cx)(e:Expr)(f:FT):Prop:=∃t,PW X e t/\GoT X.K t f
def VA (X:Cx)(es:List Expr)(f:FA):Prop:=∃t,PA X es t/\GoA X.K t f
def RpWL (K:W.Frag)(H:Hp)(J:Addr->Prop):List V->List D->Prop
 | [],[]=>True
 | v::vs,d::ds=>RpW K H J v d/\RpWL K H J vs ds
 | _,_=>False
def GoAW (K:W.Frag)(t:TA)(f:FA):Prop:=∀Hz Jz O ρ σ H J ds Q,ST K Hz Jz O ρ σ H J->f ρ=some ds->(∀vs H' J',Up H J H' J'->RpWL K H' J' vs ds->Q vs H')->t σ H Q
def VAW (X:Cx)(es:List Expr)(f:FA):Prop:=∃t,PA X es t/\GoAW X.K t f
theorem RpW.up {K:W.Frag}{H H':Hp}{J J':Addr->Prop}{v:V}{d:D}(h:RpW K H J v d)(u:Up H J H' J'):RpW K H' J' v d:=by
 rcases h with h | ⟨A,h⟩
 ·exact .inl (h.keep u.keep)
 ·exact .inr ⟨A,h.keep u.keep fun b _ o=>u.same b o⟩
section
variable {X:Cx}{a b c e:Expr}{es rest:List Expr}{fa fb:FE}{ft fu:FT}{fl:FA}{pos p:Pos}
theorem VE.w (h:VE X a fa):VW X a fa:=by
 obtain⟨t,p,g⟩:=h;exact⟨t,p,fun Hz Jz O ρ σ H J d Q s e w=>g Hz Jz O ρ σ H J d Q s e fun v H' J' u r=>w v H' J' u (.inl r)⟩
def eVar (i:Nat):FE:=fun ρ=>match ρ[i]? with | some (.val d)=>some d | _=>none
def eRd (i:Nat):FE:=fun ρ=>match ρ[i]? with | some (.val d)=>some d | some (.own 1 d)=>some d | some (.par 1 d)=>some d | _=>none
theorem zmT {K:W.Frag}{i:Nat}:GoE K (tVar i) (eVar i):=by
 intro Hz Jz O ρ σ H J d Q s e w;unfold eVar at e;split at e
 ·rename_i d' q
  cases e;obtain⟨v,hv,r⟩:=s.vl i _ q;exact⟨v,hv,w v H J (Up.refl s.ja) r⟩
 ·cases e
theorem ST.rd {K:W.Frag}{Hz H:Hp}{Jz J:Addr->Prop}{O:Pr}{ρ:En}{σ:L2.St}{i n:Nat}{d:D}(s:ST K Hz Jz O ρ σ H J)(h:ownD (ρ[i]?)=some (n,d)):∃v A,σ[i]?=some (some v)/\RpU K H J n v d A:=by
 obtain⟨v,A,h1,h2,_⟩:=s.chg h;exact⟨v,A,h1,h2⟩
theorem zmU {K:W.Frag}{i:Nat}:GoW K (tVar i) (eRd i):=by
 intro Hz Jz O ρ σ H J d Q s e w;unfold eRd at e;split at e
 ·rename_i d' q
  cases e;obtain⟨v,hv,r⟩:=s.vl i _ q;exact⟨v,hv,w v H J (Up.refl s.ja) (.inl r)⟩
 ·rename_i d' q
  cases e;obtain⟨v,A,hv,r⟩:=s.rd (i:=i) (n:=1) (d:=d) (by rw[q];rfl);exact⟨v,hv,w v H J (Up.refl s.ja) (.inr ⟨A,r⟩)⟩
 ·rename_i d' q
  cases e;obtain⟨v,A,hv,r⟩:=s.rd (i:=i) (n:=1) (d:=d) (by rw[q];rfl);exact⟨v,hv,w v H J (Up.refl s.ja) (.inr ⟨A,r⟩)⟩
 ·cases e
theorem vv (i:Nat){x:Str}{pos:Pos}(hN:X.N[i]?=some x:=by rfl)(hv:Vis X.env.scope x:=by first | exact Or.inl rfl | exact Or.inr (Or.inl rfl) | exact Or.inr (Or.inr rfl))(hd:(x == ("__debug__" : Str))=false:=by decide)
 (hcd:(x == ("__classdict__" : Str))=false:=by decide):VE X (.Name x pos) (eVar i):=⟨_,zb1 hN hv hd hcd,zmT⟩
theorem vr (i:Nat){x:Str}{pos:Pos}(hN:X.N[i]?=some x:=by rfl)(hv:Vis X.env.scope x:=by first | exact Or.inl rfl | exact Or.inr (Or.inl rfl) | exact Or.inr (Or.inr rfl))(hd:(x == ("__debug__" : Str))=false:=by decide)
 (hcd:(x == ("__classdict__" : Str))=false:=by decide):VW X (.Name x pos) (eRd i):=⟨_,zb1 hN hv hd hcd,zmU⟩
def eK (d:D):FE:=fun _=>some d
theorem go_c {K:W.Frag}{v:V}{d:D}(h:∀H J,Rp K H J v d):GoE K (tC v) (eK d):=by
 intro Hz Jz O ρ σ H J d' Q s e w;cases e;exact w v H J (Up.refl s.ja) (h H J)
theorem zae {i j pos}:VE X (.Constant (.int i) j pos) (eK (.int i)):=⟨_,zmo,go_c fun _ _=>.int i⟩
theorem zfI {i j pos}:VE X (.Constant (.bool i) j pos) (eK (.bl i)):=⟨_,zon,go_c fun _ _=>.bl i⟩
theorem zb0 {i j pos}:VE X (.Constant (.str i) j pos) (eK (.str i)):=⟨_,zmq,go_c fun _ _=>.str i⟩
theorem zeX {j pos}:VE X (.Constant .none j pos) (eK .non):=⟨_,zmp,go_c fun _ _=>.non⟩
structure GlobD (K:W.Frag)(mg:Str->Option Value)(x:Str)(d:D):Prop where
 ex:∃u v,mg x=some u/\RelV v u/\∀H J,Rp K H J v d
theorem za9 {x:Str}{d:D}{pos:Pos}(G:GlobD X.K X.mg x d)(hg:Gl X x:=by rfl)(hd:(x == ("__debug__" : Str))=false:=by decide):VE X (.Name x pos) (eK d):=by
 obtain⟨u,v,h1,h2,h3⟩:=G.ex;exact⟨_,zfA hg h1 h2 hd,go_c h3⟩
def e2 (F:D->D->Option D)(f g:FE):FE:=fun ρ=>(f ρ).bind fun x=>(g ρ).bind fun y=>F x y
def e1 (F:D->Option D)(f:FE):FE:=fun ρ=>(f ρ).bind F
theorem bind_some {α β:Type}{o:Option α}{f:α->Option β}{b:β}(h:o.bind f=some b):∃a,o=some a/\f a=some b:=by
 cases o with
 | none=>cases h
 | some a=>exact⟨a,rfl,h⟩
def Im2 (K:W.Frag)(r:R2)(F:D->D->Option D):Prop:=∀H J x y d e d' Q,(∀a,J a->H a≠none)->RpW K H J x d->RpW K H J y e->F d e=some d'->zfH K H J d' Q->r x y H Q
theorem zlg {K:W.Frag}{r:R2}{F:D->D->Option D}{ta tb:TE}(im:Im2 K r F)(ga:GoW K ta fa)(gb:GoW K tb fb):GoE K (tOp r ta tb) (e2 F fa fb):=by
 intro Hz Jz O ρ σ H J d Q s e w;obtain⟨x,ex,e⟩:=bind_some e;obtain⟨y,ey,e⟩:=bind_some e;refine ga Hz Jz O ρ σ H J x _ s ex fun v1 H1 J1 u1 r1=>?_
 refine gb Hz Jz O ρ σ H1 J1 y _ (s.up u1) ey fun v2 H2 J2 u2 r2=>?_
 exact im H2 J2 v1 v2 x y d Q u2.ja (r1.up u2) r2 e fun v3 H3 J3 u3 r3=>w v3 H3 J3 (u1.trans (u2.trans u3)) r3
theorem zaq {op:Operator}{r:R2}{F:D->D->Option D}(ho:OpR X (binaryOp op) r)(im:Im2 X.K r F)(ha:VW X a fa)(hb:VW X b fb):VE X (.BinOp a op b pos) (e2 F fa fb):=by
 obtain⟨ta,pa,ga⟩:=ha;obtain⟨tb,pb,gb⟩:=hb;exact⟨_,zmz ho pa pb,zlg im ga gb⟩
def dB:D->Option Bool
 | .bl b=>some b
 | _=>none
def t1 (f:FE):FT:=fun ρ=>(f ρ).bind dB
theorem zlh {K:W.Frag}{t:TE}{f:FE}(g:GoE K t f):GoT K (zmD t) (t1 f):=by
 intro Hz Jz O ρ σ H J d Q s e w;obtain⟨x,ex,e⟩:=bind_some e;refine g Hz Jz O ρ σ H J x _ s ex fun v H1 J1 u1 r1=>?_
 cases x with
 | bl k=>cases e;cases r1;exact⟨_,rfl,w H1 J1 u1⟩
 | _=>cases e
theorem za4 {op:CmpOp}{r:R2}{F:D->D->Option D}(ho:OpR X (compareOp op) r)(im:Im2 X.K r F)(ha:VW X a fa)(hb:VW X b fb)(hm:behindInMarks op b=false):VT X (.Compare a [op] [b] pos) (t1 (e2 F fa fb)):=by
 obtain⟨ta,pa,ga⟩:=ha;obtain⟨tb,pb,gb⟩:=hb;exact⟨_,zkU ho pa pb hm,zlh (zlg im ga gb)⟩
def e3 (F G:D->D->Option D)(f g h:FE):FE:=fun ρ=>(f ρ).bind fun x=>(g ρ).bind fun y=>(F x y).bind fun z=>(dB z).bind fun k=>if k then(h ρ).bind fun w=>G y w else some (.bl false)
def dTru:D->Option Bool
 | .non=>some false
 | .bl b=>some b
 | .int i=>some (i != 0)
 | .str x=>if x.length<=lim then some ((x.length:Int) != 0) else none
 | .tup ds=>some (!ds.isEmpty)
 | .lst ds=>some (!ds.isEmpty)
 | .dct ks _=>some (!ks.isEmpty)
 | .scr _=>none
 | .exc _ _ _=>none
def tT (f:FE):FT:=fun ρ=>(f ρ).bind dTru
theorem zdx {α β:Type}{xs:List α}{ys:List β}(h:xs.length=ys.length):xs.isEmpty=ys.isEmpty:=by
 cases xs <;> cases ys <;> first | rfl | cases h
theorem zmV {K:W.Frag}{H:Hp}{J:Addr->Prop}{v:V}{d:D}{k:Bool}(r:RpW K H J v d)(h:dTru d=some k):TruV K v H k:=by
 cases d with
 | non=>rw[r.non];cases h;rfl
 | bl b=>rw[r.bl];cases h;rfl
 | int b=>rw[r.int];cases h;rfl
 | str x=>
   rw[r.str];have h:(if x.length<=lim then some ((x.length:Int) != 0) else none)=some k:=h
   by_cases e:x.length<=lim
   ·rw[if_pos e] at h;cases h;exact⟨zbZ e,rfl⟩
   ·rw[if_neg e] at h;cases h
 | tup ds=>obtain⟨p,vs,rfl,h1,h2⟩:=r.tup;cases h;exact .inr (.inl ⟨vs,h1,by rw[zdx h2.length]⟩)
 | lst ds=>obtain⟨p,vs,rfl,h1,h2⟩:=r.lst;cases h;exact .inl ⟨vs,SqL.of h1,by rw[zdx h2.length]⟩
 | scr p=>cases h
 | exc _ _ _=>cases h
 | dct ks ds=>
   obtain⟨p,kvs,vs,rfl,h1,h2,h3,h4⟩:=r.dct;cases h;refine .inr (.inr ⟨kvs,h1,?_⟩);rw[<-h2];cases kvs <;> rfl
theorem zdb (ha:VW X a fa)(he:∀whole,isTrue a X.env whole=(do let v <-whole;standAt a.pos;holding [v] (truthy v)):=by intro _;rfl):VT X a (tT fa):=by
 obtain⟨ta,pa,ga⟩:=ha;refine⟨_,ziY pa he,?_⟩;intro Hz Jz O ρ σ H J d Q s e w;obtain⟨x,ex,e⟩:=bind_some e;refine ga Hz Jz O ρ σ H J x _ s ex fun v H1 J1 u1 r1=>?_
 exact⟨d,zmV r1 e,w H1 J1 u1⟩
def tAndF (f g:FT):FT:=fun ρ=>(f ρ).bind fun k=>if k then g ρ else some false
def tOrF (f g:FT):FT:=fun ρ=>(f ρ).bind fun k=>if k then some true else g ρ
def tNotF (f:FT):FT:=fun ρ=>(f ρ).bind fun k=>some (!k)
theorem zmW {K:W.Frag}{t u:TT}(g1:GoT K t ft)(g2:GoT K u fu):GoT K (tAnd t u) (tAndF ft fu):=by
 intro Hz Jz O ρ σ H J d Q s e w;obtain⟨k,ek,e⟩:=bind_some e;refine g1 Hz Jz O ρ σ H J k _ s ek fun H1 J1 u1=>?_
 cases k with
 | true=>exact iteT (g2 Hz Jz O ρ σ H1 J1 d Q (s.up u1) e fun H2 J2 u2=>w H2 J2 (u1.trans u2))
 | false=>have e':some false=some d:=e;cases e';exact iteF (w H1 J1 u1)
theorem zoD {K:W.Frag}{t u:TT}(g1:GoT K t ft)(g2:GoT K u fu):GoT K (tOr t u) (tOrF ft fu):=by
 intro Hz Jz O ρ σ H J d Q s e w;obtain⟨k,ek,e⟩:=bind_some e;refine g1 Hz Jz O ρ σ H J k _ s ek fun H1 J1 u1=>?_
 cases k with
 | true=>have e':some true=some d:=e;cases e';exact iteT (w H1 J1 u1)
 | false=>exact iteF (g2 Hz Jz O ρ σ H1 J1 d Q (s.up u1) e fun H2 J2 u2=>w H2 J2 (u1.trans u2))
theorem zli (h:VT X a ft):VP X (.BoolOp .And [a] pos) ft:=let ⟨t,p,g⟩:=h;⟨t,zkR p,g⟩
theorem zhJ (h:VT X a ft):VP X (.BoolOp .Or [a] pos) ft:=let ⟨t,p,g⟩:=h;⟨t,zmr p,g⟩
theorem zmX (h:VT X a ft)(h2:VP X (.BoolOp .And (b::rest) pos) fu):VP X (.BoolOp .And (a::b::rest) pos) (tAndF ft fu):=let ⟨_,p,g⟩:=h;let ⟨_,p2,g2⟩:=h2;⟨_,zms p p2,zmW g g2⟩
theorem zja (h:VT X a ft)(h2:VP X (.BoolOp .Or (b::rest) pos) fu):VP X (.BoolOp .Or (a::b::rest) pos) (tOrF ft fu):=let ⟨_,p,g⟩:=h;let ⟨_,p2,g2⟩:=h2;⟨_,zoo p p2,zoD g g2⟩
theorem VP.t (h:VP X a ft):VT X a ft:=let ⟨t,p,g⟩:=h;⟨t,p.pt,g⟩
theorem zdc (h:VT X a ft):VT X (.UnaryOp .Not a pos) (tNotF ft):=by
 obtain⟨t,p,g⟩:=h;refine⟨_,zmt p,?_⟩;intro Hz Jz O ρ σ H J d Q s e w;obtain⟨k,ek,e⟩:=bind_some e;cases e;exact g Hz Jz O ρ σ H J k _ s ek fun H1 J1 u1=>w H1 J1 u1
def eNot (f:FE):FE:=fun ρ=>(t1 f ρ).bind fun k=>some (.bl (!k))
theorem zmY (h:VE X a fa):VE X (.UnaryOp .Not a pos) (eNot fa):=by
 obtain⟨t,p,g⟩:=h;refine⟨_,zmu p,?_⟩;intro Hz Jz O ρ σ H J d Q s e w;obtain⟨k,ek,e⟩:=bind_some e;obtain⟨x,ex,ek⟩:=bind_some ek;refine g Hz Jz O ρ σ H J x _ s ex fun v H1 J1 u1 r1=>?_
 cases x with
 | bl k'=>
   have ek':k'=k:=wau ek
   subst ek';cases r1;cases e;exact⟨_,rfl,w _ H1 J1 u1 (.bl _)⟩
 | _=>cases ek
def eIf (c:FT)(f g:FE):FE:=fun ρ=>(c ρ).bind fun k=>if k then f ρ else g ρ
theorem zmZ (hc:VT X c ft)(ha:VE X a fa)(hb:VE X b fb):VE X (.IfExp c a b pos) (eIf ft fa fb):=by
 obtain⟨t,p,g⟩:=hc;obtain⟨ta,pa,ga⟩:=ha;obtain⟨tb,pb,gb⟩:=hb;refine⟨_,ziU p pa pb,?_⟩;intro Hz Jz O ρ σ H J d Q s e w;obtain⟨k,ek,e⟩:=bind_some e;refine g Hz Jz O ρ σ H J k _ s ek fun H1 J1 u1=>?_
 cases k with
 | true=>exact iteT (ga Hz Jz O ρ σ H1 J1 d Q (s.up u1) e fun v2 H2 J2 u2 r2=>w v2 H2 J2 (u1.trans u2) r2)
 | false=>exact iteF (gb Hz Jz O ρ σ H1 J1 d Q (s.up u1) e fun v2 H2 J2 u2 r2=>w v2 H2 J2 (u1.trans u2) r2)
def aNil:FA:=fun _=>some []
def aCons (f:FE)(g:FA):FA:=fun ρ=>(f ρ).bind fun x=>(g ρ).bind fun xs=>some (x::xs)
theorem zah:VA X [] aNil:=⟨_,zbA,fun Hz Jz O ρ σ H J ds Q s e w=>by cases e;exact w [] H J (Up.refl s.ja) .nil⟩
theorem zab (ha:VE X e fa)(hr:VA X es fl)(hs:starEach (e::es) X.env=(false,eval e X.env)::starEach es X.env:=by rfl):VA X (e::es) (aCons fa fl):=by
 obtain⟨t,p,g⟩:=ha;obtain⟨t2,p2,g2⟩:=hr;refine⟨_,zaC p p2 hs,?_⟩;intro Hz Jz O ρ σ H J ds Q s e w;obtain⟨x,ex,e⟩:=bind_some e;obtain⟨xs,exs,e⟩:=bind_some e;cases e;refine g Hz Jz O ρ σ H J x _ s ex fun v1 H1 J1 u1 r1=>?_
 refine g2 Hz Jz O ρ σ H1 J1 xs _ (s.up u1) exs fun vs H2 J2 u2 r2=>?_
 exact w _ H2 J2 (u1.trans u2) (.cons (r1.keep u2.keep) r2)
theorem zb2:VAW X [] aNil:=⟨_,zbA,fun Hz Jz O ρ σ H J ds Q s e w=>by cases e;exact w [] H J (Up.refl s.ja) trivial⟩
theorem zbb (ha:VW X e fa)(hr:VAW X es fl)(hs:starEach (e::es) X.env=(false,eval e X.env)::starEach es X.env:=by rfl):VAW X (e::es) (aCons fa fl):=by
 obtain⟨t,p,g⟩:=ha;obtain⟨t2,p2,g2⟩:=hr;refine⟨_,zaC p p2 hs,?_⟩;intro Hz Jz O ρ σ H J ds Q s e w;obtain⟨x,ex,e⟩:=bind_some e;obtain⟨xs,exs,e⟩:=bind_some e;cases e;refine g Hz Jz O ρ σ H J x _ s ex fun v1 H1 J1 u1 r1=>?_
 refine g2 Hz Jz O ρ σ H1 J1 xs _ (s.up u1) exs fun vs H2 J2 u2 r2=>?_
 exact w _ H2 J2 (u1.trans u2) ⟨r1.up u2,r2⟩
def eTup (f:FA):FE:=fun ρ=>(f ρ).bind mkT
theorem zgi {x1}(h:VA X es fl):VE X (.Tuple es x1 pos) (eTup fl):=by
 obtain⟨t,p,g⟩:=h;refine⟨_,zhs p,?_⟩;intro Hz Jz O ρ σ H J d Q s e w;obtain⟨xs,exs,e⟩:=bind_some e;obtain⟨hl,rfl⟩:=zeq e;refine g Hz Jz O ρ σ H J xs _ s exs fun vs H1 J1 u1 r1=>⟨by rw[r1.length];exact zbZ hl,fun p hp=>?_⟩
 have un:=Up.new u1.ja hp (.tup vs)
 exact w _ _ _ (u1.trans un) (.tup (SqT.of zaf) (r1.keep un.keep))
def aMk (f:FA):FA:=fun ρ=>(f ρ).bind fun ds=>if ds.length<=lim then some ds else none
theorem zjb {f:FA}{ρ:En}{ds:List D}(h:aMk f ρ=some ds):f ρ=some ds/\ds.length<=lim:=by
 obtain⟨xs,e1,e2⟩:=bind_some h;by_cases hl:xs.length<=lim
 ·rw[if_pos hl] at e2;cases e2;exact⟨e1,hl⟩
 ·rw[if_neg hl] at e2;cases e2
theorem za5 (h:VA X es fl):VN X (.List es pos) (aMk fl):=by
 obtain⟨t,p,g⟩:=h;refine⟨_,zht p,?_⟩;intro Hz Jz O ρ σ H J ds Q s e w;obtain⟨e1,hl⟩:=zjb e;refine g Hz Jz O ρ σ H J ds _ s e1 fun vs H1 J1 u1 r1=>⟨by rw[r1.length];exact zbZ hl,fun p hp=>?_⟩
 have un:=Up.new u1.ja hp (.lst vs)
 exact w p vs _ J1 (u1.trans un) (u1.same.free hp) (fun j=>u1.ja p j hp) zaf (r1.keep un.keep)
def eL (f:FA):FE:=fun ρ=>(f ρ).bind fun ds=>some (.lst ds)
theorem zkm {K:W.Frag}{t:TE}{f:FA}(g:GoN K t f):GoE K t (eL f):=by
 intro Hz Jz O ρ σ H J d Q s e w;obtain⟨ds,e1,e⟩:=bind_some e;cases e;refine g Hz Jz O ρ σ H J ds _ s e1 fun p vs H1 J1 u1 hp nj h1 r1=>?_
 have kp:Keep K H1 J1 H1 (fun a=>J1 a\/a=p):=⟨fun _ h=>.inl h,fun _ _ _ h=>h,fun _ _ h=>h⟩
 refine w (.ref p) H1 (fun a=>J1 a\/a=p) ⟨u1.same,fun a h=>.inl (u1.jj a h),fun a h=>?_,fun a h=>?_⟩ (.lst h1 (.inr rfl) (r1.keep kp))
 ·rcases h with h | rfl
  ·exact u1.jn a h
  ·exact .inr hp
 ·rcases h with h | rfl
  ·exact u1.ja a h
  ·rw[h1];simp
theorem VN.ve {f:FA}(h:VN X a f):VE X a (eL f):=let ⟨_,p,g⟩:=h;⟨_,p,zkm g⟩
def spF (K:W.Frag)(F:List D->Option D):Sp:=fun vs H Q _=>∃J ds d,(∀a,J a->H a≠none)/\RpL K H J vs ds/\F ds=some d/\zfH K H J d Q
def eCall (F:List D->Option D)(f:FA):FE:=fun ρ=>(f ρ).bind F
theorem zaG {k k':Nat}{x:Str}{ps:List Str}{F:List D->Option D}(C:Cal X.prog X.w X.K X.mg X.base k x ps (spF X.K F))(hr:Room k' X.A)(ha:VA X (e::es) fl)(hk:k<=k':=by decide)(hg:Gl X x:=by rfl)(hdb:(x == ("__debug__" : Str))=false:=by decide)
 (he:starEach (e::es) X.env=(false,eval e X.env)::starEach es X.env:=by rfl) (hpl:(backTo pos (starEach es X.env)).any (·.1)=false:=by rfl):VE X (.Call (.Name x p) (e::es) [] pos) (eCall F fl):=by
 obtain⟨t,p,g⟩:=ha;refine⟨_,pc C hr p hk hg hdb he hpl,?_⟩;intro Hz Jz O ρ σ H J d Q s e w;obtain⟨ds,e1,e⟩:=bind_some e;refine g Hz Jz O ρ σ H J ds _ s e1 fun vs H1 J1 u1 r1=>?_
 refine⟨J1,ds,d,u1.ja,by rw[waC];exact r1,e,fun v H2 J2 u2 r2=>w v H2 J2 (u1.trans u2) r2⟩
def ImC (K:W.Frag)(r:List V->Hp->VK->Prop)(F:List D->Option D):Prop:=∀H J vs ds d Q,(∀a,J a->H a≠none)->RpWL K H J vs ds->F ds=some d->zfH K H J d Q->r vs H Q
theorem zm0 {K:W.Frag}{r:List V->Hp->VK->Prop}{F:List D->Option D}{t:TA}(im:ImC K r F)(g:GoAW K t fl):GoE K (tCB r t) (eCall F fl):=by
 intro Hz Jz O ρ σ H J d Q s e w;obtain⟨ds,e1,e⟩:=bind_some e;refine g Hz Jz O ρ σ H J ds _ s e1 fun vs H1 J1 u1 r1=>?_
 exact im H1 J1 vs ds d Q u1.ja r1 e fun v H2 J2 u2 r2=>w v H2 J2 (u1.trans u2) r2
theorem ve_b {id:String}{x:Str}{r:List V->Hp->VK->Prop}{F:List D->Option D}(hc:zcs X (.builtin id) r)(im:ImC X.K r F)(B:Blt X.mg)(hv:bootBuiltins x=some (.builtin id))(ha:VAW X (e::es) fl)(hB:x∈zbr:=by decide +kernel)(hg:Gl X x:=by rfl)(hn:x≠"__name__":=by decide)(hdb:(x == ("__debug__" : Str))=false:=by decide)
 (he:starEach (e::es) X.env=(false,eval e X.env)::starEach es X.env:=by rfl) (hpl:(backTo pos (starEach es X.env)).any (·.1)=false:=by rfl):VE X (.Call (.Name x p) (e::es) [] pos) (eCall F fl):=by
 obtain⟨t,p,g⟩:=ha;exact⟨_,pb hc B hv p hB hg hn hdb he hpl,zm0 im g⟩
theorem zm1 {T:String}{x:Str}{r:List V->Hp->VK->Prop}{F:List D->Option D}(hc:zcs X (.type T) r)(im:ImC X.K r F)(B:Blt X.mg)(hv:bootBuiltins x=some (.type T))(ha:VAW X (e::es) fl)(hB:x∈zbr:=by decide +kernel)(hg:Gl X x:=by rfl)(hn:x≠"__name__":=by decide)(hdb:(x == ("__debug__" : Str))=false:=by decide)
 (he:starEach (e::es) X.env=(false,eval e X.env)::starEach es X.env:=by rfl) (hpl:(backTo pos (starEach es X.env)).any (·.1)=false:=by rfl):VE X (.Call (.Name x p) (e::es) [] pos) (eCall F fl):=by
 obtain⟨t,p,g⟩:=ha;exact⟨_,pty hc B hv p hB hg hn hdb he hpl,zm0 im g⟩
end
section
variable {K:W.Frag}{X:Cx}
def dAdd:D->D->Option D
 | .int i,.int j=>some (.int (i+j))
 | .str x,.str y=>if x.length+y.length<=lim then some (.str (x++y)) else none
 | .lst xs,.lst ys=>mkL (xs++ys)
 | .tup xs,.tup ys=>if ys = [] then none else mkT (xs++ys)
 | _,_=>none
def zm2 (K:W.Frag):R2:=fun x y H Q=>(rI0 fun i j=>.int (i+j)) x y H Q\/(∃i j,x=.str i/\y=.str j/\i.length+j.length<=sizeLine/\Q (.str (i++j)) H)\/rCat x y H Q\/zmM K x y H Q
theorem za6:OpR X (binaryOp .Add) (zm2 X.K):=op_add.or (op_add_str.or (op_cat.or zlb))
theorem zaA:Im2 K (zm2 K) dAdd:=by
 intro H J x y d e d' Q ja hx hy hF w;match d,e,hF with
 | .int i,.int j,hF=>
   cases hF;rw[hx.int,hy.int];exact .inl ⟨i,j,rfl,rfl,w _ H J (Up.refl ja) (.int _)⟩
 | .str a,.str b,hF=>
   have hF:(if a.length+b.length<=lim then some (D.str (a++b)) else none)=some d':=hF
   by_cases hl:a.length+b.length<=lim
   ·rw[if_pos hl] at hF;cases hF;rw[hx.str,hy.str];exact .inr (.inl ⟨a,b,rfl,rfl,zbZ hl,w _ H J (Up.refl ja) (.str _)⟩)
   ·rw[if_neg hl] at hF;cases hF
 | .lst xs,.lst ys,hF=>
   have hF:mkL (xs++ys)=some d':=hF
   obtain⟨hl,rfl⟩:=zi9 hF;obtain⟨p,vs,rfl,h1,r1⟩:=hx.lst;obtain⟨q,us,rfl,h2,r2⟩:=hy.lst;refine .inr (.inr (.inl ⟨p,q,vs,us,rfl,rfl,h1,h2,?_,fun c hc=>?_⟩))
   ·rw[r1.length,r2.length,<-was];exact zbZ hl
   ·have un:=Up.newJ ja hc (.lst (vs++us))
    exact w _ _ _ un (.lst zaf (.inr rfl) ((r1.append r2).keep un.keep))
 | .tup xs,.tup ys,hF=>
   have hF:(if ys = [] then none else mkT (xs++ys))=some d':=hF
   by_cases hy0:ys = []
   ·rw[if_pos hy0] at hF;cases hF
   ·rw[if_neg hy0] at hF;obtain⟨hl,rfl⟩:=zeq hF;obtain⟨p,vs,rfl,h1,r1⟩:=hx.tup;obtain⟨q,us,rfl,h2,r2⟩:=hy.tup;refine .inr (.inr (.inr ⟨p,q,vs,us,rfl,rfl,h1,h2,?_,?_,fun e=>?_,fun _ c hc=>?_⟩))
    ·rintro rfl;exact hy0 (List.length_eq_zero_iff.mp (by rw[<-r2.length];rfl))
    ·rw[r1.length,r2.length,<-was];exact zbZ hl
    ·subst e;obtain rfl:xs = []:=List.length_eq_zero_iff.mp (by rw[<-r1.length];rfl);exact w _ H J (Up.refl ja) (.tup h2 r2)
    ·have un:=Up.new ja hc (.tup (vs++us))
     exact w _ _ _ un (.tup (SqT.of zaf) ((r1.append r2).keep un.keep))
def dI (C:Int->Int->Prop)[∀i j,Decidable (C i j)](g:Int->Int->D):D->D->Option D
 | .int i,.int j=>if C i j then some (g i j) else none
 | _,_=>none
theorem im_I {C:Int->Int->Prop}[∀i j,Decidable (C i j)]{g:Int->Int->V}{g':Int->Int->D}(hg:∀i j H J,Rp K H J (g i j) (g' i j)):Im2 K (rI C g) (dI C g'):=by
 intro H J x y d e d' Q ja hx hy hF w;match d,e,hF with
 | .int i,.int j,hF=>
   have hF:(if C i j then some (g' i j) else none)=some d':=hF
   by_cases hc:C i j
   ·rw[if_pos hc] at hF;cases hF;rw[hx.int,hy.int];exact⟨i,j,rfl,rfl,hc,w _ H J (Up.refl ja) (hg i j H J)⟩
   ·rw[if_neg hc] at hF;cases hF
def dI0 (g:Int->Int->D):D->D->Option D
 | .int i,.int j=>some (g i j)
 | _,_=>none
theorem zm3 {g:Int->Int->V}{g':Int->Int->D}(hg:∀i j H J,Rp K H J (g i j) (g' i j)):Im2 K (rI0 g) (dI0 g'):=by
 intro H J x y d e d' Q ja hx hy hF w;match d,e,hF with
 | .int i,.int j,hF=>
   cases hF;rw[hx.int,hy.int];exact⟨i,j,rfl,rfl,w _ H J (Up.refl ja) (hg i j H J)⟩
instance (i j:Int):Decidable (CMul i j):=by unfold CMul;infer_instance
instance (i j:Int):Decidable (CDiv i j):=by unfold CDiv;infer_instance
instance (i j:Int):Decidable (CPow i j):=by unfold CPow;infer_instance
def dSub:=dI0 fun i j=>.int (i - j)
def dFdiv:=dI CDiv fun i j=>.int (i / j)
def dMod:=dI (fun _ j=>0<j) fun i j=>.int (i % j)
def dPow:=dI CPow fun i j=>.int (i ^ j.toNat)
def dGe:=dI0 fun i j=>.bl (decide (j<=i))
theorem zkn:Im2 K (rI0 fun i j=>.int (i - j)) dSub:=zm3 fun _ _ _ _=>.int _
theorem zer:Im2 K (rI CDiv fun i j=>.int (i / j)) dFdiv:=im_I fun _ _ _ _=>.int _
theorem zbB:Im2 K (rI (fun _ j=>0<j) fun i j=>.int (i % j)) dMod:=im_I fun _ _ _ _=>.int _
theorem zm4:Im2 K (rI CPow fun i j=>.int (i ^ j.toNat)) dPow:=im_I fun _ _ _ _=>.int _
theorem zoE:Im2 K (rI0 fun i j=>.bl (decide (j<=i))) dGe:=zm3 fun _ _ _ _=>.bl _
def dMul:D->D->Option D
 | .int i,.int j=>if CMul i j then some (.int (i*j)) else none
 | .str z,.int n=>if -1000<=n/\n<=1000/\z.length<=1000 then some (.str (Txt.mul z n)) else none
 | .lst xs,.int k=>if 0<=k/\k<=1000/\xs.length<=1000 then some (.lst (List.replicate k.toNat xs).flatten) else none
 | _,_=>none
def zm5:R2:=fun x y H Q=>(rI CMul fun i j=>.int (i*j)) x y H Q\/(∃z n,x=.str z/\y=.int n/\-1000<=n/\n<=1000/\z.length<=1000/\Q (.str (Txt.mul z n)) H)\/rRep x y H Q
theorem zeY:OpR X (binaryOp .Mult) zm5:=op_mul.or (op_rep_str.or zmJ)
theorem RpL.rep {H:Hp}{J:Addr->Prop}{vs:List V}{ds:List D}(r:RpL K H J vs ds):∀n:Nat,RpL K H J (List.replicate n vs).flatten (List.replicate n ds).flatten
 | 0=>.nil
 | n+1=>by
   rw[waT,waT,wbr,wbr];exact r.append (RpL.rep r n)
theorem zdd:Im2 K zm5 dMul:=by
 intro H J x y d e d' Q ja hx hy hF w;match d,e,hF with
 | .int i,.int j,hF=>
   have hF:(if CMul i j then some (D.int (i*j)) else none)=some d':=hF
   by_cases hc:CMul i j
   ·rw[if_pos hc] at hF;cases hF;rw[hx.int,hy.int];exact .inl ⟨i,j,rfl,rfl,hc,w _ H J (Up.refl ja) (.int _)⟩
   ·rw[if_neg hc] at hF;cases hF
 | .str z,.int n,hF=>
   have hF:(if -1000<=n/\n<=1000/\z.length<=1000 then some (D.str (Txt.mul z n)) else none)=some d':=hF
   by_cases hc:-1000<=n/\n<=1000/\z.length<=1000
   ·rw[if_pos hc] at hF;cases hF;rw[hx.str,hy.int];exact .inr (.inl ⟨z,n,rfl,rfl,hc.1,hc.2.1,hc.2.2,w _ H J (Up.refl ja) (.str _)⟩)
   ·rw[if_neg hc] at hF;cases hF
 | .lst xs,.int n,hF=>
   have hF:(if 0<=n/\n<=1000/\xs.length<=1000 then some (D.lst (List.replicate n.toNat xs).flatten) else none)=some d':=hF
   by_cases hc:0<=n/\n<=1000/\xs.length<=1000
   ·rw[if_pos hc] at hF;cases hF;obtain⟨p,vs,rfl,h1,r1⟩:=hx.lst;rw[hy.int];refine .inr (.inr ⟨p,n,vs,rfl,rfl,h1,by omega,by omega,?_,fun c hc=>?_⟩)
    ·rw[r1.length];have h1:xs.length*n.toNat<=1000*1000:=Nat.mul_le_mul hc.2.2 (by omega)
     exact wai h1 (by decide)
    ·have un:=Up.newJ ja hc (.lst (List.replicate n.toNat vs).flatten)
     exact w _ _ _ un (.lst zaf (.inr rfl) ((r1.rep _).keep un.keep))
   ·rw[if_neg hc] at hF;cases hF
def dV:D->V
 | .non=>.non
 | .bl b=>.bl b
 | .int i=>.int i
 | .str x=>.str x
 | _=>.ty ""
def zgj:D->Bool
 | .non=>true
 | .int _=>true
 | .str _=>true
 | _=>false
theorem zam {p q:Prop}[Decidable p][Decidable q](h:p↔q):decide p=decide q:=by
 by_cases hp:p
 ·rw[wax hp,wax (h.mp hp)]
 ·rw[war hp,war (fun z=>hp (h.mpr z))]
def dIn (neg:Bool):D->D->Option D
 | x,.lst ds=>if zgj x=true/\ds.all zgj=true then some (.bl (if neg then !decide (x∈ds) else decide (x∈ds))) else none
 | x,.tup ds=>if zgj x=true/\ds.all zgj=true then some (.bl (if neg then !decide (x∈ds) else decide (x∈ds))) else none
 | _,_=>none
def dIs (neg:Bool):D->D->Option D
 | d,.non=>some (.bl (if neg then !decide (d=.non) else decide (d=.non)))
 | _,_=>none
theorem zlj {H:Hp}{J:Addr->Prop}{v:V}{d:D}(r:RpW K H J v d):v=.non↔d=.non:=by
 rcases r with r | ⟨A,r⟩
 ·cases r <;> simp
 ·cases r <;> simp
theorem zm6:Im2 K (fun x y H Q=>y=.non/\Q (.bl (decide (x=.non))) H) (dIs false):=by
 intro H J x y d e d' Q ja hx hy hF w;cases e with
 | non=>
   cases hF;refine⟨hy.non,?_⟩;rw[zam (zlj hx)];exact w _ H J (Up.refl ja) (.bl _)
 | _=>cases hF
def dIx:D->D->Option D
 | .lst ds,.int i=>atI ds i
 | .tup ds,.int i=>atI ds i
 | .str z,.int i=>if z.length<=lim then(atI z.cps.toList i).map fun c=>.str ⟨#[c]⟩ else none
 | _,_=>none
theorem zm7:Im2 K (rIx K) dIx:=by
 intro H J x y d e d' Q ja hx hy hF w;match d,e,hF with
 | .lst ds,.int i,hF=>
   have hF:atI ds i=some d':=hF
   obtain⟨p,vs,rfl,h1,r1⟩:=hx.lst;obtain⟨v,hv,rv⟩:=r1.at hF;rw[hy.int];exact .inl ⟨p,vs,i,v,rfl,rfl,SqL.of h1,hv,w v H J (Up.refl ja) rv⟩
 | .tup ds,.int i,hF=>
   have hF:atI ds i=some d':=hF
   obtain⟨p,vs,rfl,h1,r1⟩:=hx.tup;obtain⟨v,hv,rv⟩:=r1.at hF;rw[hy.int];exact .inr (.inl ⟨p,vs,i,v,rfl,rfl,h1,hv,w v H J (Up.refl ja) rv⟩)
 | .str z,.int i,hF=>
   have hF:(if z.length<=lim then(atI z.cps.toList i).map fun c=>D.str ⟨#[c]⟩ else none)=some d':=hF
   by_cases hl:z.length<=lim
   ·rw[if_pos hl] at hF;cases q:atI z.cps.toList i with
    | none=>rw[q] at hF;cases hF
    | some c=>
      rw[q] at hF;cases hF;rw[hx.str,hy.int];exact .inr (.inr ⟨z,i,c,rfl,rfl,zbZ hl,q,w _ H J (Up.refl ja) (.str _)⟩)
   ·rw[if_neg hl] at hF;cases hF
variable {a b:Expr}{fa fb:FE}{pos p2:Pos}
theorem zan (ha:VW X a fa)(hb:VW X b fb)(hs:zct b:=by exact fun _ _=>rfl):VE X (.Subscript a b pos) (e2 dIx fa fb):=by
 obtain⟨ta,pa,ga⟩:=ha;obtain⟨tb,pb,gb⟩:=hb;exact⟨_,zgW zgb pa pb hs,zlg zm7 ga gb⟩
def cut {α:Type}(xs:List α)(lo hi:Option Int):List α:=(xs.drop (HT.sIx xs.length 0 lo)).take (HT.sIx xs.length xs.length hi - HT.sIx xs.length 0 lo)
theorem RpL.cut {H:Hp}{J:Addr->Prop}{vs:List V}{ds:List D}(r:RpL K H J vs ds)(lo hi:Option Int):RpL K H J (cutV vs lo hi) (VD.cut ds lo hi):=by
 unfold cutV VD.cut;rw[r.length];exact(r.drop _).take _
def dSl:D->Option Int->Option Int->Option D
 | .lst ds,lo,hi=>some (.lst (cut ds lo hi))
 | .tup ds,lo,hi=>if HT.sIx ds.length 0 lo=0/\HT.sIx ds.length ds.length hi=ds.length then none else some (.tup (cut ds lo hi))
 | .str z,lo,hi=>if z.length<=lim then some (.str (Txt.slice z lo hi)) else none
 | _,_,_=>none
abbrev FO:=En->Option (Option Int)
def GoO (K:W.Frag)(t:TO)(f:FO):Prop:=∀Hz Jz O ρ σ H J o Q,ST K Hz Jz O ρ σ H J->f ρ=some o->(∀H' J',Up H J H' J'->Q o H')->t σ H Q
def VO (X:Cx)(e:Option Expr)(f:FO):Prop:=∃t,PO X e t/\GoO X.K t f
def oN:FO:=fun _=>some none
def dInt:D->Option Int
 | .int i=>some i
 | _=>none
def oS (f:FE):FO:=fun ρ=>(f ρ).bind fun d=>(dInt d).bind fun i=>some (some i)
theorem zfJ:VO X none oN:=⟨_,zk0,fun Hz Jz O ρ σ H J o Q s e w=>by cases e;exact w H J (Up.refl s.ja)⟩
theorem zfK (h:VE X a fa):VO X (some a) (oS fa):=by
 obtain⟨t,p,g⟩:=h;refine⟨_,zk1 p,?_⟩;intro Hz Jz O ρ σ H J o Q s e w;obtain⟨d,e1,e⟩:=bind_some e;obtain⟨i,e2,e⟩:=bind_some e;cases e;refine g Hz Jz O ρ σ H J d _ s e1 fun v H1 J1 u1 r1=>?_
 cases d with
 | int k=>cases e2;cases r1;exact⟨_,rfl,w H1 J1 u1⟩
 | _=>cases e2
def eSl (f:FE)(lo hi:FO):FE:=fun ρ=>(f ρ).bind fun x=>(lo ρ).bind fun l=>(hi ρ).bind fun h=>dSl x l h
def rSlD (K:W.Frag):V->Option Int->Option Int->Hp->VK->Prop:=fun x lo hi H Q=>rSlL K x lo hi H Q\/rSlT K x lo hi H Q\/rSlS x lo hi H Q
theorem zes {lo hi:Option Expr}{fl fh:FO}(ha:VW X a fa)(hl:VO X lo fl)(hh:VO X hi fh):VE X (.Subscript a (.Slice lo hi none p2) pos) (eSl fa fl fh):=by
 obtain⟨t,p,g⟩:=ha;obtain⟨tl,pl,gl⟩:=hl;obtain⟨th,ph,gh⟩:=hh;refine⟨_,zi3 (r:=rSlD X.K) (sl_list.or (sl_tup.or zmL)) p pl ph,?_⟩;intro Hz Jz O ρ σ H J d Q s e w;obtain⟨x,e1,e⟩:=bind_some e;obtain⟨l,e2,e⟩:=bind_some e;obtain⟨h,e3,e⟩:=bind_some e;refine g Hz Jz O ρ σ H J x _ s e1 fun v H1 J1 u1 r1=>?_
 refine gl Hz Jz O ρ σ H1 J1 l _ (s.up u1) e2 fun H2 J2 u2=>?_
 refine gh Hz Jz O ρ σ H2 J2 h _ (s.up (u1.trans u2)) e3 fun H3 J3 u3=>?_
 have r3:=r1.up (u2.trans u3)
 have u:=u1.trans (u2.trans u3)
 match x,e with
 | .lst ds,e=>
   cases e;obtain⟨p,vs,rfl,h1,rl⟩:=r3.lst;refine .inl ⟨p,vs,rfl,SqL.of h1,fun c hc=>?_⟩;have un:=Up.newJ u3.ja hc (.lst (cutV vs l h))
   exact w _ _ _ (u.trans un) (.lst zaf (.inr rfl) ((rl.cut l h).keep un.keep))
 | .tup ds,e=>
   have e:(if HT.sIx ds.length 0 l=0/\HT.sIx ds.length ds.length h=ds.length then none else some (D.tup (cut ds l h)))=some d:=e
   by_cases hc:HT.sIx ds.length 0 l=0/\HT.sIx ds.length ds.length h=ds.length
   ·rw[if_pos hc] at e;cases e
   ·rw[if_neg hc] at e;cases e;obtain⟨p,vs,rfl,h1,rl⟩:=r3.tup;refine .inr (.inl ⟨p,vs,rfl,h1,by rw[rl.length];exact hc,fun c hc=>?_⟩);have un:=Up.new u3.ja hc (.tup (cutV vs l h))
    exact w _ _ _ (u.trans un) (.tup (SqT.of zaf) ((rl.cut l h).keep un.keep))
 | .str z,e=>
   have e:(if z.length<=lim then some (D.str (Txt.slice z l h)) else none)=some d:=e
   by_cases hc:z.length<=lim
   ·rw[if_pos hc] at e;cases e;rw[r3.str];exact .inr (.inr ⟨z,rfl,zbZ hc,w _ _ _ u (.str _)⟩)
   ·rw[if_neg hc] at e;cases e
def dLst:D->Option (List D)
 | .lst ds=>some ds
 | _=>none
def aRev (f:FE):FA:=fun ρ=>(f ρ).bind fun d=>(dLst d).bind fun ds=>some ds.reverse
theorem zko {p3 p4:Pos}{j:Nat}(ha:VW X a fa):VN X (.Subscript a (.Slice none none (some (.UnaryOp .USub (.Constant (.int 1) j p3) p4)) p2) pos) (aRev fa):=by
 obtain⟨t,p,g⟩:=ha;refine⟨_,zmP p,?_⟩;intro Hz Jz O ρ σ H J ds Q s e w;obtain⟨x,e1,e⟩:=bind_some e;obtain⟨xs,e2,e⟩:=bind_some e;cases e;refine g Hz Jz O ρ σ H J x _ s e1 fun v H1 J1 u1 r1=>?_
 cases x with
 | lst ds=>
   cases e2;obtain⟨p,vs,rfl,h1,rl⟩:=r1.lst;refine⟨p,vs,rfl,SqL.of h1,fun c hc=>?_⟩;have un:=Up.new u1.ja hc (.lst vs.reverse)
   exact w c _ _ _ (u1.trans un) (u1.same.free hc) (fun j=>u1.ja c j hc) zaf (rl.reverse.keep un.keep)
 | _=>cases e2
def dNeg:D->Option D
 | .int i=>some (.int (-i))
 | _=>none
theorem zhK (ha:VE X a fa):VE X (.UnaryOp .USub a pos) (e1 dNeg fa):=by
 obtain⟨t,p,g⟩:=ha;refine⟨_,zot zmB p,?_⟩;intro Hz Jz O ρ σ H J d Q s e w;obtain⟨x,e1,e⟩:=bind_some e;refine g Hz Jz O ρ σ H J x _ s e1 fun v H1 J1 u1 r1=>?_
 cases x with
 | int i=>cases e;cases r1;exact⟨i,rfl,w _ H1 J1 u1 (.int _)⟩
 | _=>cases e
theorem RpWL.one {H:Hp}{J:Addr->Prop}{vs:List V}{d:D}(h:RpWL K H J vs [d]):∃v,vs = [v]/\RpW K H J v d:=by
 match vs,h with
 | [v],h=>exact⟨v,rfl,h.1⟩
 | [],h=>exact h.elim
 | _::_::_,h=>exact h.2.elim
theorem RpWL.two {H:Hp}{J:Addr->Prop}{vs:List V}{d e:D}(h:RpWL K H J vs [d,e]):∃v u,vs = [v,u]/\RpW K H J v d/\RpW K H J u e:=by
 match vs,h with
 | [v,u],h=>exact⟨v,u,rfl,h.1,h.2.1⟩
 | [],h=>exact h.elim
 | [_],h=>exact h.2.elim
 | _::_::_::_,h=>exact h.2.2.elim
def bLen:List D->Option D
 | [.lst ds]=>some (.int ds.length)
 | [.tup ds]=>some (.int ds.length)
 | [.str z]=>if z.length<=lim then some (.int z.length) else none
 | _=>none
theorem zeZ:ImC K (fun xs H Q=>∃x n,xs = [x]/\LenV K x H n/\Q (.int n) H) bLen:=by
 intro H J vs ds d Q ja r hF w;match ds,r,hF with
 | [.lst ds],r,hF=>
   obtain⟨v,rfl,rr⟩:=r.one;cases hF;obtain⟨p,us,rfl,h1,rl⟩:=rr.lst;refine⟨_,us.length,rfl,.inl ⟨us,SqL.of h1,rfl⟩,?_⟩;rw[rl.length];exact w _ H J (Up.refl ja) (.int _)
 | [.tup ds],r,hF=>
   obtain⟨v,rfl,rr⟩:=r.one;cases hF;obtain⟨p,us,rfl,h1,rl⟩:=rr.tup;refine⟨_,us.length,rfl,.inr ⟨us,h1,rfl⟩,?_⟩;rw[rl.length];exact w _ H J (Up.refl ja) (.int _)
 | [.str z],r,hF=>
   obtain⟨v,rfl,rr⟩:=r.one;have hF:(if z.length<=lim then some (D.int z.length) else none)=some d:=hF
   by_cases hl:z.length<=lim
   ·rw[if_pos hl] at hF;cases hF;rw[rr.str];exact⟨_,z.length,rfl,⟨zbZ hl,rfl⟩,w _ H J (Up.refl ja) (.int _)⟩
   ·rw[if_neg hl] at hF;cases hF
def bMax:List D->Option D
 | [.int i,.int j]=>some (.int (if j>i then j else i))
 | _=>none
def bMin:List D->Option D
 | [.int i,.int j]=>some (.int (if j<i then j else i))
 | _=>none
theorem zm8:ImC K (fun xs H Q=>∃i j,xs = [.int i,.int j]/\Q (.int (if j<i then j else i)) H) bMin:=by
 intro H J vs ds d Q ja r hF w;match ds,r,hF with
 | [.int i,.int j],r,hF=>obtain⟨v,u,rfl,q1,q2⟩:=r.two;cases hF;exact⟨i,j,by rw[q1.int,q2.int],w _ H J (Up.refl ja) (.int _)⟩
def bList:List D->Option D
 | [.lst ds]=>some (.lst ds)
 | [.tup ds]=>some (.lst ds)
 | _=>none
def bTuple:List D->Option D
 | [.lst ds]=>some (.tup ds)
 | [.tup ds]=>some (.tup ds)
 | _=>none
theorem zgk:ImC K (fun xs H Q=>∃p ys,xs = [.ref p]/\((SqL K H p ys/\∀l,H l=none->Q (.ref l) (upd H l (.tup ys)))\/(SqT K H p ys/\Q (.ref p) H))) bTuple:=by
 intro H J vs ds d Q ja r hF w;match ds,r,hF with
 | [.lst ds],r,hF=>
   obtain⟨v,rfl,rr⟩:=r.one;cases hF;obtain⟨p,us,rfl,h1,rl⟩:=rr.lst;refine⟨p,us,rfl,.inl ⟨SqL.of h1,fun c hc=>?_⟩⟩;have un:=Up.new ja hc (.tup us)
   exact w _ _ _ un (.tup (SqT.of zaf) (rl.keep un.keep))
 | [.tup ds],r,hF=>
   obtain⟨v,rfl,rr⟩:=r.one;cases hF;obtain⟨p,us,rfl,h1,rl⟩:=rr.tup;exact⟨p,us,rfl,.inr ⟨h1,w _ H J (Up.refl ja) (.tup h1 rl)⟩⟩
end
def Src (K:W.Frag)(I:It)(H:Hp)(J:Addr->Prop)(ds:List D):Prop:=∀H2 J2,Keep K H J H2 J2->(∀a,J2 a->H2 a≠none)->
 I.stop ds.length H2/\∀i d,ds[i]?=some d->I.go i H2/\∀x H3,I.yld i H2 x H3->∃J3,Up H2 J2 H3 J3/\Rp K H3 J3 x d
def GoI (K:W.Frag)(wi:TI)(f:FA):Prop:=∀Hz Jz O ρ σ H J ds R,ST K Hz Jz O ρ σ H J->f ρ=some ds->(∀I H' J',Up H J H' J'->Src K I H' J' ds->R I H')->wi σ H R
def VI (X:Cx)(tg iter:Expr)(f:FA):Prop:=∃wi,PI X tg iter wi/\GoI X.K wi f
section
variable {X:Cx}{K:W.Frag}{tg a b:Expr}{fa fb:FE}{fl:FA}{pos p:Pos}
theorem zoF {wi wi':TI}{iter:Expr}(h:PI X tg iter wi)(h':PI X tg iter wi'):PI X tg iter (fun σ H R=>wi σ H R\/wi' σ H R):=by
 intro pins s σ H R I q;rcases q with q | q
 ·exact h pins s σ H R I q
 ·exact h' pins s σ H R I q
def dSeq:D->Option (List D)
 | .lst ds=>some ds
 | .tup ds=>some ds
 | _=>none
def aSeq (f:FE):FA:=fun ρ=>(f ρ).bind dSeq
theorem zbC (h:VE X a fa):VI X tg a (aSeq fa):=by
 obtain⟨t,p,g⟩:=h;refine⟨_,zoF (zkT p) (zmy p),?_⟩;intro Hz Jz O ρ σ H J ds R s e w;obtain⟨x,e1,e⟩:=bind_some e;cases x with
 | lst xs=>
   cases e;refine .inl (g Hz Jz O ρ σ H J _ _ s e1 fun v H1 J1 u1 r1=>?_);cases r1 with
   | lst h j r=>
     refine⟨_,rfl,⟨_,SqL.of h⟩,w _ H1 J1 u1 fun H2 J2 k ja=>?_⟩;have h2:=k.jo _ _ j h
     refine⟨⟨_,SqL.of h2,by rw[r.length];exact wan _⟩,fun i d hd=>?_⟩;obtain⟨v,hv,rv⟩:=r.get hd;refine⟨⟨_,v,SqL.of h2,hv⟩,fun x H3 y=>?_⟩;obtain⟨rfl,y⟩:=y;have e:=y _ (SqL.of h2)
     rw[hv] at e;cases e;exact⟨J2,Up.refl ja,rv.keep k⟩
 | tup xs=>
   cases e;refine .inr (g Hz Jz O ρ σ H J _ _ s e1 fun v H1 J1 u1 r1=>?_);cases r1 with
   | tup h r=>
     refine⟨_,rfl,⟨_,h⟩,w _ H1 J1 u1 fun H2 J2 k ja=>?_⟩;have h2:=k.tp _ _ h
     refine⟨⟨_,h2,by rw[r.length];exact wan _⟩,fun i d hd=>?_⟩;obtain⟨v,hv,rv⟩:=r.get hd;refine⟨⟨_,v,h2,hv⟩,fun x H3 y=>?_⟩;obtain⟨rfl,y⟩:=y;have e:=y _ h2
     rw[hv] at e;cases e;exact⟨J2,Up.refl ja,rv.keep k⟩
 | _=>cases e
def zaE (lo:Int)(n:Nat):List D:=(List.range n).map fun(i:Nat)=>.int (lo+(i:Int))
theorem zhL {H:Hp}{J:Addr->Prop}(lo:Int)(n:Nat):Src K (Itr lo n) H J (zaE lo n):=by
 intro H2 J2 k ja;have hl:(zaE lo n).length=n:=by simp[zaE]
 rw[hl];refine⟨wan _,fun i d hd=>?_⟩;have hi:i<n:=by rw[<-hl];exact(wak.mp hd).1
 refine⟨hi,fun x H3 y=>?_⟩;obtain⟨rfl,rfl⟩:=y;unfold zaE at hd;rw[wam,wcn hi] at hd;cases hd;exact⟨J2,Up.refl ja,.int _⟩
def a1Int:List D->Option Int
 | [.int i]=>some i
 | _=>none
def aRng1 (f:FA):FA:=fun ρ=>(f ρ).bind fun l=>(a1Int l).bind fun j=>if -1000000<=j/\j<=1000000 then some (zaE 0 j.toNat) else none
theorem za7 (B:Blt X.mg)(ha:VA X [a] fl)(hg:Gl X "range":=by rfl)(hs:starEach [a] X.env = [(false,eval a X.env)]:=by rfl):VI X tg (.Call (.Name "range" p) [a] [] pos) (aRng1 fl):=by
 obtain⟨t,p,g⟩:=ha;refine⟨_,zhm hg (B.get "range") p hs,?_⟩;intro Hz Jz O ρ σ H J ds R s e w;obtain⟨l,e1,e⟩:=bind_some e;obtain⟨j,e2,e⟩:=bind_some e;by_cases hj:-1000000<=j/\j<=1000000
 ·rw[if_pos hj] at e;cases e;refine g Hz Jz O ρ σ H J _ _ s e1 fun vs H1 J1 u1 r1=>?_
  match l,e2,r1 with
  | [.int i],e2,r1=>
    cases e2;cases r1 with
    | cons h t=>cases t;cases h;exact⟨j,rfl,by omega,by omega,w _ H1 J1 u1 (zhL 0 _)⟩
 ·rw[if_neg hj] at e;cases e
def ze0 (ds:List D):List D:=ds.zipIdx.map fun p=>.tup [.int (p.2:Nat),p.1]
def a1Tup:List D->Option (List D)
 | [.tup ds]=>some ds
 | _=>none
def aEnum (f:FA):FA:=fun ρ=>(f ρ).bind fun l=>(a1Tup l).bind fun ds=>some (ze0 ds)
theorem ze1 (ds:List D):(ze0 ds).length=ds.length:=by simp[ze0]
theorem zhM {ds:List D}{i:Nat}{d:D}(h:(ze0 ds)[i]?=some d):∃x,ds[i]?=some x/\d=.tup [.int (i:Nat),x]:=by
 unfold ze0 at h;rw[wam,List.getElem?_zipIdx] at h;cases q:ds[i]? with
 | none=>rw[q] at h;cases h
 | some x=>rw[q] at h;simp at h;exact⟨x,rfl,h.symm⟩
theorem zlk {elts:List Expr}{x1}{tpos:Pos}(B:Blt X.mg)(ha:VA X [a] fl)(hg:Gl X "enumerate":=by rfl)(hs:starEach [a] X.env = [(false,eval a X.env)]:=by rfl):VI X (.Tuple elts x1 tpos) (.Call (.Name "enumerate" p) [a] [] pos) (aEnum fl):=by
 obtain⟨t,p,g⟩:=ha;refine⟨_,zk9 hg (B.get "enumerate") p hs,?_⟩;intro Hz Jz O ρ σ H J ds R s e w;obtain⟨l,e1,e⟩:=bind_some e;obtain⟨xs,e2,e⟩:=bind_some e;cases e;refine g Hz Jz O ρ σ H J _ _ s e1 fun vs H1 J1 u1 r1=>?_
 match l,e2,r1 with
 | [.tup _],e2,r1=>
   cases e2;cases r1 with
   | cons h t=>
     cases t;cases h with
     | tup h r=>
       refine⟨_,rfl,⟨_,h⟩,w _ H1 J1 u1 fun H2 J2 k ja=>?_⟩;have h2:=k.tp _ _ h
       refine⟨⟨_,h2,by rw[r.length,ze1];exact wan _⟩,fun i d hd=>?_⟩;obtain⟨x,hx,rfl⟩:=zhM hd;obtain⟨v,hv,rv⟩:=r.get hx;refine⟨⟨_,v,h2,hv⟩,fun y H3 hy=>?_⟩;obtain⟨q,hn,rfl,hy⟩:=hy;obtain⟨y,ey,rfl⟩:=hy _ h2;rw[hv] at ey;cases ey;have un:=Up.new ja hn (.tup [.int (i:Nat),v])
       exact⟨J2,un,.tup (SqT.of zaf) (.cons (.int _) (.cons ((rv.keep k).keep un.keep) .nil))⟩
end
abbrev FG:=D->En->Option En
abbrev FGs:=List D->En->Option En
def Only (is:List Nat)(ρ ρ':En):Prop:=ρ'.length=ρ.length/\∀j,j∉is->ρ'[j]?=ρ[j]?
def GoG (K:W.Frag)(g:TG)(is:List Nat)(f:FG):Prop:=(∀d ρ ρ',f d ρ=some ρ'->Only is ρ ρ')/\∀Hz Jz O ρ σ H J v d ρ' Q,ST K Hz Jz O ρ σ H J->Rp K H J v d->f d ρ=some ρ'->(∀σ',ST K Hz Jz O ρ' σ' H J->Q σ' H)->g v σ H Q
def GoGs (K:W.Frag)(g:TGs)(is:List Nat)(f:FGs):Prop:=(∀d ρ ρ',f d ρ=some ρ'->Only is ρ ρ')/\∀Hz Jz O ρ σ H J vs ds ρ' Q,ST K Hz Jz O ρ σ H J->RpL K H J vs ds->f ds ρ=some ρ'->(∀σ',ST K Hz Jz O ρ' σ' H J->Q σ' H)->g vs σ H Q
def VG (X:Cx)(tg:Expr)(is:List Nat)(f:FG):Prop:=∃g,PG X tg g/\GoG X.K g is f
def VGs (X:Cx)(tgs:List Expr)(is:List Nat)(f:FGs):Prop:=∃g,PGs X tgs g/\GoGs X.K g is f
def isPar:Option SV->Bool
 | some (.par _ _)=>true
 | _=>false
theorem za2 {x:Option SV}(h:isPar x=false):∀n d,x≠some (.par n d):=fun n d e=>by rw[e] at h;cases h
def gN (i:Nat):FG:=fun d ρ=>if i<ρ.length/\isPar (ρ[i]?)=false then some (ρ.set i (.val d)) else none
def gNil':FGs:=fun ds ρ=>if ds = [] then some ρ else none
def gCons' (f:FG)(g:FGs):FGs:=fun ds ρ=>match ds with | d::r=>(f d ρ).bind fun ρ1=>g r ρ1 | []=>none
def gT (n:Nat)(f:FGs):FG:=fun d ρ=>match d with | .tup ds=>if ds.length=n then f ds ρ else none | _=>none
theorem zhN {K:W.Frag}{i:Nat}:GoG K (zdV i) [i] (gN i):=by
 refine⟨fun d ρ ρ' h=>?_,fun Hz Jz O ρ σ H J v d ρ' Q s r e w=>?_⟩
 ·unfold gN at h;by_cases hi:i<ρ.length/\isPar (ρ[i]?)=false
  ·rw[if_pos hi] at h;cases h;exact⟨by simp,fun j hj=>wad (fun z=>hj (by simp[z]))⟩
  ·rw[if_neg hi] at h;cases h
 ·unfold gN at e;by_cases hi:i<ρ.length/\isPar (ρ[i]?)=false
  ·rw[if_pos hi] at e;cases e;exact w _ (s.set r hi.1 (za2 hi.2))
  ·rw[if_neg hi] at e;cases e
theorem Only.trans {is js:List Nat}{ρ ρ1 ρ2:En}(a:Only is ρ ρ1)(b:Only js ρ1 ρ2):Only (is++js) ρ ρ2:=⟨b.1.trans a.1,fun j hj=>by
 rw[way] at hj;rw[b.2 j (fun z=>hj (.inr z)),a.2 j (fun z=>hj (.inl z))]⟩
theorem zll {K:W.Frag}:GoGs K gNil [] gNil':=by
 refine⟨fun d ρ ρ' h=>?_,fun Hz Jz O ρ σ H J vs ds ρ' Q s r e w=>?_⟩
 ·unfold gNil' at h;by_cases hd:d = []
  ·rw[if_pos hd] at h;cases h;exact⟨rfl,fun _ _=>rfl⟩
  ·rw[if_neg hd] at h;cases h
 ·unfold gNil' at e;by_cases hd:ds = []
  ·rw[if_pos hd] at e;cases e;subst hd;cases r;exact⟨rfl,w _ s⟩
  ·rw[if_neg hd] at e;cases e
theorem zjc {K:W.Frag}{g:TG}{gs:TGs}{is js:List Nat}{f:FG}{fs:FGs}(h1:GoG K g is f)(h2:GoGs K gs js fs):GoGs K (zmw g gs) (is++js) (gCons' f fs):=by
 refine⟨fun d ρ ρ' h=>?_,fun Hz Jz O ρ σ H J vs ds ρ' Q s r e w=>?_⟩
 ·cases d with
  | nil=>cases h
  | cons d r=>
    obtain⟨ρ1,e1,e2⟩:=bind_some (show((f d ρ).bind fun ρ1=>fs r ρ1)=some ρ' from h);exact(h1.1 _ _ _ e1).trans (h2.1 _ _ _ e2)
 ·cases ds with
  | nil=>cases e
  | cons d ds=>
    obtain⟨ρ1,e1,e2⟩:=bind_some (show((f d ρ).bind fun ρ1=>fs ds ρ1)=some ρ' from e);cases r with
    | cons r1 r2=>
      refine⟨_,_,rfl,h1.2 Hz Jz O ρ σ H J _ d ρ1 _ s r1 e1 fun σ1 s1=>?_⟩;exact h2.2 Hz Jz O ρ1 σ1 H J _ ds ρ' _ s1 r2 e2 w
theorem zlm {K:W.Frag}{n:Nat}{gs:TGs}{is:List Nat}{fs:FGs}(h:GoGs K gs is fs):GoG K (gTup K n gs) is (gT n fs):=by
 refine⟨fun d ρ ρ' e=>?_,fun Hz Jz O ρ σ H J v d ρ' Q s r e w=>?_⟩
 ·cases d with
  | tup ds=>
    have e:(if ds.length=n then fs ds ρ else none)=some ρ':=e
    by_cases hn:ds.length=n
    ·rw[if_pos hn] at e;exact h.1 _ _ _ e
    ·rw[if_neg hn] at e;cases e
  | _=>cases e
 ·cases d with
  | tup ds=>
    have e:(if ds.length=n then fs ds ρ else none)=some ρ':=e
    by_cases hn:ds.length=n
    ·rw[if_pos hn] at e;cases r with
     | tup hq rl=>exact⟨_,_,rfl,hq,by rw[rl.length];exact hn,h.2 Hz Jz O ρ σ H J _ ds ρ' Q s rl e w⟩
    ·rw[if_neg hn] at e;cases e
  | _=>cases e
section
variable {X:Cx}{pos:Pos}
theorem zln {i:Nat}{x:Str}(hN:X.N.Nodup)(hi:X.N[i]?=some x)(hx:Loc X.env.scope x)(hf:X.fn x=true\/X.env.scope.names.lookup x=some .local:=by first | exact .inl rfl | exact .inr rfl | assumption):VG X (.Name x pos) [i] (gN i):=⟨_,zhj hN hi hx hf,zhN⟩
theorem zdy:VGs X [] [] gNil':=⟨_,zkS,zll⟩
theorem zaI {e:Expr}{es:List Expr}{is js:List Nat}{f:FG}{fs:FGs}(h1:VG X e is f)(h2:VGs X es js fs)(hs:(assignEach (e::es) X.env).map (·.2)=assign e X.env::(assignEach es X.env).map (·.2):=by rfl):VGs X (e::es) (is++js) (gCons' f fs):=by
 obtain⟨g,p,q⟩:=h1;obtain⟨gs,ps,qs⟩:=h2;exact⟨_,ziW p ps hs,zjc q qs⟩
theorem ze2 {es:List Expr}{k:Nat}{is:List Nat}{n:Nat}{fs:FGs}(hc:X.calm=true)(h:VGs X es is fs)(hn:(assignEach es X.env).length=n:=by rfl)(hst:(assignEach es X.env).findIdx? (·.1)=none:=by rfl):VG X (.Tuple es k pos) is (gT n fs):=by
 obtain⟨gs,ps,qs⟩:=h;exact⟨_,zmx hc ps hn hst,zlm qs⟩
theorem vgC (i:Nat){X:Cx}{scope:Scope}{cl:List (Str×Addr)}{NC:List Str}{C:Addr}{s0:Shared}{H0:Hp}{ex:List Addr}{pn:List (Addr×Obj)}{x:Str}{pos:Pos}(nd:NC.Nodup)(hi:NC[i]?=some x)(hx:scope.names.lookup x=some .local):VG (cxC X scope cl NC C s0 H0 ex pn) (.Name x pos) [i] (gN i):=⟨_,pgC i nd hi hx,zhN⟩
end
def TEof (K:W.Frag)(f:FE):TE:=fun σ H Q=>∃Hz Jz O ρ J d,ST K Hz Jz O ρ σ H J/\f ρ=some d/\zfH K H J d Q
def TTof (K:W.Frag)(f:FT):TT:=fun σ H Q=>∃Hz Jz O ρ J b,ST K Hz Jz O ρ σ H J/\f ρ=some b/\zkl H J b Q
def TGof (K:W.Frag)(f:FG):TG:=fun v σ H Q=>∃Hz Jz O ρ J d ρ',ST K Hz Jz O ρ σ H J/\Rp K H J v d/\f d ρ=some ρ'/\∀σ',ST K Hz Jz O ρ' σ' H J->Q σ' H
theorem VE.of {X:Cx}{e:Expr}{f:FE}(h:VE X e f):PE X e (TEof X.K f):=by
 obtain⟨t,p,g⟩:=h;rintro pins s σ H Q I ⟨Hz,Jz,O,ρ,J,d,s1,e1,w⟩;exact p pins s σ H Q I (g Hz Jz O ρ σ H J d Q s1 e1 w)
theorem VT.of {X:Cx}{e:Expr}{f:FT}(h:VT X e f):PT X e (TTof X.K f):=by
 obtain⟨t,p,g⟩:=h;rintro pins s σ H Q I ⟨Hz,Jz,O,ρ,J,d,s1,e1,w⟩;exact p pins s σ H Q I (g Hz Jz O ρ σ H J d Q s1 e1 w)
theorem VG.of {X:Cx}{e:Expr}{is:List Nat}{f:FG}(h:VG X e is f):PG X e (TGof X.K f):=by
 obtain⟨t,p,g⟩:=h;rintro pins s σ H v u Q I r ⟨Hz,Jz,O,ρ,J,d,ρ',s1,r1,e1,w⟩;exact p pins s σ H v u Q I r (g.2 Hz Jz O ρ σ H J v d ρ' Q s1 r1 e1 w)
def zaY (ρ:En)(fr:List (Option Nat)):En:=fr.map fun o=>match o with
 | none=>.un
 | some j=>match ρ[j]? with
   | some (.val d)=>.val d
   | _=>.un
def zcx (f:D->Option (Option D)):List D->Option (List D)
 | []=>some []
 | d::r=>(f d).bind fun o=>(zcx f r).bind fun xs=>some (match o with | some x=>x::xs | none=>xs)
def zca (ρ:En)(g:FG)(t:FT)(e:FE)(d:D):Option (Option D):=(g d ρ).bind fun ρ1=>(t ρ1).bind fun ok=>if ok then(e ρ1).bind fun x=>some (some x) else some none
def ze3 (fr:List (Option Nat))(fi:FA)(g:FG)(t:FT)(e:FE):FA:=fun ρ=>(fi ρ).bind fun ds=>(zcx (zca (zaY ρ fr) g t e) ds).bind fun out=>if out.length<=lim then some out else none
def tTrue:FT:=fun _=>some true
def VTs (X:Cx)(ifs:List Expr)(f:FT):Prop:=PTs X ifs (TTof X.K f)
theorem zcy {X:Cx}:VTs X [] tTrue:=by
 rintro pins s σ H Q I ⟨Hz,Jz,O,ρ,J,d,s1,e1,w⟩;cases e1;exact zk6 pins s σ H Q I (w H J (Up.refl s1.ja))
theorem zfL {X:Cx}{c:Expr}{f:FT}(h:VT X c f):VTs X [c] f:=zk7 h.of
theorem zjd (σ:L2.St)(fr:List (Option Nat)):(pick σ fr).length=fr.length:=by simp[pick]
theorem zhO (ρ:En)(fr:List (Option Nat)):(zaY ρ fr).length=fr.length:=by simp[zaY]
section
variable {K:W.Frag}{H H' H1 Hz:Hp}{J J' J1 Jz:Addr->Prop}{ρ:En}{σ:L2.St}
def Pr.blk (O:Pr):Pr:=⟨[],O.fpo⟩
theorem zcz (ρ:En)(fr:List (Option Nat)):∀i:Nat,ownD ((zaY ρ fr)[i]?)=none:=by
 intro i;unfold zaY;rw[wam];cases q:fr[i]? with
 | none=>rfl
 | some o=>
   cases o with
   | none=>rfl
   | some j=>
     simp only[Option.map_some];cases z:ρ[j]? with
     | none=>rfl
     | some y=>cases y <;> rfl
theorem zhP {x:Option (Option V)}{s:Option SV}{O:List Addr}(h:ownD s=none):OwAt K Hz H J O x [] s:=by
 match s,h with
 | none,_=>rfl
 | some .un,_=>rfl
 | some (.val _),_=>rfl
theorem ST.pick {O:Pr}(s:ST K Hz Jz O ρ σ H J)(fr:List (Option Nat)):ST K Hz Jz O.blk (zaY ρ fr) (pick σ fr) H J where
 same:=s.same
 j0:=s.j0
 jn:=s.jn
 ja:=s.ja
 al:=s.al
 ps:=fun q hq=>absurd hq (by simp[Pr.blk])
 ow:=⟨fun _=>[],fun i=>zhP (zcz ρ fr i),fun _=>wbf,fun _ b hb=>absurd hb (by simp),fun _ _ _ b hb=>absurd hb (by simp)⟩
 len:=by rw[zjd,zhO]
 vl:=fun i d h=>by
  unfold zaY at h;rw[wam] at h;cases q:fr[i]? with
  | none=>rw[q] at h;cases h
  | some o=>
    rw[q] at h;cases o with
    | none=>simp at h
    | some j=>
      simp only[Option.map_some,Option.some.injEq] at h;cases z:ρ[j]? with
      | none=>rw[z] at h;cases h
      | some y=>
        rw[z] at h;cases y with
        | val d'=>
          cases h;obtain⟨v,hv,r⟩:=s.vl j _ z;refine⟨v,?_,r⟩;show(fr.map _)[i]?=_
          rw[wam,q];simp[hv]
        | _=>cases h
theorem zcA {D:Addr}{ys:List V}{o:HO}(hD:H D=some (.lst ys))(nj:¬J D):Keep K H J (upd H D o) J:=⟨fun _ h=>h,fun p u j h=>by rw[zag (show p≠D from fun z=>nj (z▸j))];exact h,fun p vs h=>by
 rcases h with(h | ⟨u,h⟩) | h
 ·refine .inl (.inl ?_);rw[zag];exact h;rintro rfl;rw[h] at hD;cases hD
 ·refine .inl (.inr ⟨u,?_⟩);rw[zag];exact h;rintro rfl;rw[h] at hD;cases hD
 ·exact .inr h⟩
theorem OwAt.nil {x:Option (Option V)}{A:List Addr}{s:Option SV}{O:List Addr}(h:OwAt K Hz H J O x A s)(n:ownD s=none):A = []:=by
 match s,h,n with
 | none,h,_=>exact h
 | some .un,h,_=>exact h
 | some (.val _),h,_=>exact h
theorem ST.at {O:Pr}{D:Addr}{ys:List V}{o:HO}(s:ST K Hz Jz O ρ σ H J)(no:∀i:Nat,ownD (ρ[i]?)=none)(hD:H D=some (.lst ys))(nj:¬J D)(h0:Hz D=none):ST K Hz Jz O ρ σ (upd H D o) J where
 same:=fun b u hb h=>by rw[zag (show b≠D from fun z=>by rw[z,h0] at h;cases h)];exact s.same b u hb h
 j0:=s.j0
 jn:=s.jn
 ja:=fun a h=>by
  by_cases e:a=D
  ·subst e;rw[zaf];simp
  ·rw[zag e];exact s.ja a h
 al:=fun a h=>by
  by_cases e:a=D
  ·subst e;rw[zaf];simp
  ·rw[zag e];exact s.al a h
 len:=s.len
 vl:=fun i d h=>let ⟨v,e,r⟩:=s.vl i d h;⟨v,e,r.keep (zcA hD nj)⟩
 ps:=s.ps
 ow:=by
  obtain⟨fp,w⟩:=s.ow;refine⟨fp,fun i=>(w.at' i).keep (zcA hD nj) fun b hb=>?_,w.nd,w.nj,w.dj⟩;rw[(w.at' i).nil (no i)] at hb;cases hb
theorem Up.at {D:Addr}{ys:List V}{o:HO}(u:Up H1 J1 H J)(h1:H1 D=none):Up H1 J1 (upd H D o) J:=⟨fun b v h=>by rw[zag (show b≠D from fun z=>by rw[z,h1] at h;cases h)];exact u.same b v h,u.jj,u.jn,fun a h=>by
 by_cases e:a=D
 ·subst e;rw[zaf];simp
 ·rw[zag e];exact u.ja a h⟩
end
def apart (is:List Nat)(fr:List (Option Nat)):Bool:=is.all fun i=>fr[i]? == some none
theorem zhQ {ρ ρ1:En}{fr:List (Option Nat)}{is:List Nat}(o:Only is (zaY ρ fr) ρ1)(h:apart is fr=true):Weak (zaY ρ fr) ρ1:=by
 refine⟨o.1.symm,fun i=>?_⟩;by_cases hi:i∈is
 ·right
  have q:=waQ.mp h i hi
  have q':fr[i]?=some none:=by simpa using q
  unfold zaY;rw[wam,q'];rfl
 ·left;exact(o.2 i hi).symm
theorem ST.free {K:W.Frag}{Hz H H1:Hp}{Jz J J1:Addr->Prop}{O:Pr}{ρ:En}{σ:L2.St}(s:ST K Hz Jz O ρ σ H J)(u:Up H J H1 J1){b:Addr}(h:H1 b=none):Hz b=none:=by
 cases e:Hz b with
 | none=>rfl
 | some o=>exact absurd h ((s.up u).al b (by rw[e];simp))
theorem zfM {K:W.Frag}{fr:List (Option Nat)}{wi:TI}{fi:FA}{g:FG}{is:List Nat}{ft:FT}{fe:FE}(hi:GoI K wi fi)(hon:∀d ρ ρ',g d ρ=some ρ'->Only is ρ ρ')(hap:apart is fr=true) :
 GoN K (zfE fr wi (TGof K g) (TTof K ft) (TEof K fe)) (ze3 fr fi g ft fe):=by
 intro Hz Jz O ρ σ H J out Q s e w;obtain⟨ds,e1,e⟩:=bind_some e;obtain⟨out',e2,e⟩:=bind_some e;by_cases hl:out'.length<=lim
 ·rw[if_pos hl] at e;cases e;refine hi Hz Jz O ρ σ H J ds _ s e1 fun I H1 J1 u1 src=>?_
  intro Da hD;have hD0:Hz Da=none:=(s.free (u:=u1) hD)
  have nJ1:¬J1 Da:=fun j=>u1.ja Da j hD
  refine⟨fun i m ys σ2 H2=>m=ds.length - i/\i<=ds.length/\∃J2 dn rs,ST K Hz Jz O.blk (zaY ρ fr) σ2 H2 J2/\Up H1 J1 H2 J2/\¬J2 Da/\Keep K H1 J1 H2 J2/\RpL K H2 J2 ys dn/\out=dn++rs/\zcx (zca (zaY ρ fr) g ft fe) (ds.drop i)=some rs,⟨ds.length,by simp,wcm _,?_⟩,?_⟩
  ·have un:=Up.new u1.ja hD (.lst [])
   exact⟨J1,[],out,((s.up u1).up un).pick fr,un,nJ1,un.keep,.nil,rfl,by simpa using e2⟩
  ·rintro i m ys σ2 H2 ⟨rfl,hil,J2,dn,rs,s2,u2,nj2,k2,r2,eo,ec⟩ hys;obtain⟨stop,turn⟩:=src H2 J2 k2 s2.ja;by_cases hlt:i<ds.length
   ·right
    have hd:ds[i]?=some ds[i]:=wat hlt
    generalize hdd:ds[i]=d at hd;obtain⟨go,yl⟩:=turn i d hd;have edrop:ds.drop i=d::ds.drop (i+1):=by rw[<-hdd];exact(wbz hlt).symm
    rw[edrop] at ec;obtain⟨o,eo1,ec⟩:=bind_some (show((zca (zaY ρ fr) g ft fe d).bind fun o=>(zcx (zca (zaY ρ fr) g ft fe) (ds.drop (i+1))).bind fun xs=>some (match o with | some x=>x::xs | none=>xs))=some rs from ec);obtain⟨rs',er,ec⟩:=bind_some ec;obtain⟨ρ1,eg,eo1⟩:=bind_some eo1;obtain⟨ok,et,eo1⟩:=bind_some eo1;refine⟨go,fun zs σ' H'=>∃J2 dn rs,ST K Hz Jz O.blk (zaY ρ fr) σ' H' J2/\Up H1 J1 H' J2/\¬J2 Da/\Keep K H1 J1 H' J2/\RpL K H' J2 zs dn/\out=dn++rs/\zcx (zca (zaY ρ fr) g ft fe) (ds.drop (i+1))=some rs,fun zs σ' H' h=>⟨ds.length - (i+1),by omega,rfl,hlt,h⟩,fun x H3 y=>?_⟩;obtain⟨J3,u3,r3⟩:=yl x H3 y;have wk:Weak (zaY ρ fr) ρ1:=zhQ (hon _ _ _ eg) hap
    refine⟨Hz,Jz,O.blk,zaY ρ fr,J3,d,ρ1,s2.up u3,r3,eg,fun σ4 s4=>?_⟩;refine⟨Hz,Jz,O.blk,ρ1,J3,ok,s4,et,fun H5 J5 u5=>?_⟩;have s5:=s4.up u5
    have u25:=u3.trans u5
    have nj5:¬J5 Da:=fun j=>by
     rcases u25.jn Da j with j | j
     ·exact nj2 j
     ·rw[hys] at j;cases j
    have hy5:H5 Da=some (.lst ys):=u25.same _ _ hys
    refine⟨fun hok=>?_,fun hok=>?_⟩
    ·subst hok;rw[if_pos rfl] at eo1;obtain⟨xd,ex,eo1⟩:=bind_some eo1;cases eo1;cases ec;refine⟨Hz,Jz,O.blk,ρ1,J5,xd,s5,ex,fun v H6 J6 u6 r6=>?_⟩;have u26:=u25.trans u6
     have nj6:¬J6 Da:=fun j=>by
      rcases u6.jn Da j with j | j
      ·exact nj5 j
      ·rw[hy5] at j;cases j
     have hy6:H6 Da=some (.lst ys):=u6.same _ _ hy5
     have kA:Keep K H6 J6 (upd H6 Da (.lst (ys++[v]))) J6:=zcA hy6 nj6
     refine⟨hy6,?_,J6,dn++[xd],rs',?_,(u2.trans u26).at (ys:=ys) hD,nj6,(k2.trans u26.keep).trans kA,((r2.keep u26.keep).append (.cons r6 .nil)).keep kA,by rw[eo];simp,er⟩
     ·have:(dn++xd::rs').length<=lim:=by rw[<-eo];exact hl
      rw[was,waX] at this;rw[r2.length];exact waj (by omega:dn.length<lim) (waW zd4)
     ·exact((s5.up u6).weak wk rfl).at (zcz ρ fr) hy6 nj6 hD0
    ·subst hok;rw[if_neg (by simp)] at eo1;cases eo1;cases ec;exact⟨hy5,J5,dn,rs',s5.weak wk rfl,u2.trans u25,nj5,k2.trans u25.keep,r2.keep u25.keep,eo,er⟩
   ·left
    have hi':i=ds.length:=by omega
    subst hi';rw[wce] at ec;cases ec;refine⟨stop,?_⟩;rw[waC] at eo;subst eo;exact w Da ys H2 J2 (u1.trans u2) (u1.same.free hD) nj2 hys r2
 ·rw[if_neg hl] at e;cases e
theorem zje (N:List Str)(st:Stmt){X:Cx}{elt iter tg:Expr}{ifs:List Expr}{scope:Scope}{pos:Pos}{NC:List Str}(fr:List (Option Nat)){fi:FA}{g:FG}{is:List Nat}{ft:FT}{fe:FE}{RR:Hp->Prop}(hRR:∀pins σ H s,Inv X pins σ H s->RR H)(hcalm:X.calm=true)(hi:VI X tg iter fi)
 (hcells:∀x,X.env.scope.names.lookup x=some .cell->∃c,X.env.cells.lookup x=some c) (hfk:X.env.scope.kind=.function) (hN:X.N=N) (hsc:X.env.scope.names=(zac st).names)
 (hfree':∀y∈scope.names,y.2=.free->(zac st).names.lookup y.1=some .cell) (hcell:∀y∈scope.names,y.2≠.cell) (hkind:scope.kind=.function) (hnames:∀y∈scope.names,y.2=.local->scope.names.lookup y.1=some .local)
 (hfr':zdw N (zac st).names scope.names NC fr=true) (hlen:fr.length=NC.length) (hap:apart is fr=true)
 (hg:∀cl C s0 H0 ex pn,VG (cxC X scope cl NC C s0 H0 ex pn) tg is g) (ht:∀cl C s0 H0 ex pn,VTs (cxC X scope cl NC C s0 H0 ex pn) ifs ft) (he:∀cl C s0 H0 ex pn,RR H0->VE (cxC X scope cl NC C s0 H0 ex pn) elt fe)
 (hs:∀x,foldedSetIterable iter X.env x=pure x:=by intro _;rfl):VN X (.ListComp elt [⟨tg,iter,ifs,0⟩] scope pos) (ze3 fr fi g ft fe):=by
 obtain⟨wi,pi,gi⟩:=hi;obtain⟨_,_,hon,_⟩:=hg [] 0 X.s₀ X.Hz [] [];exact⟨_,zhH N st fr hRR hcalm pi hcells hfk hN hsc hfree' hcell hkind hnames hfr' hlen (fun cl C s0 H0 ex pn=>(hg cl C s0 H0 ex pn).of) (fun cl C s0 H0 ex pn=>show PTs (cxC X scope cl NC C s0 H0 ex pn) ifs (TTof X.K ft) from ht cl C s0 H0 ex pn) (fun cl C s0 H0 ex pn r=>(he cl C s0 H0 ex pn r).of) hs,zfM gi hon hap⟩
theorem zlo (N:List Str)(st:Stmt){X:Cx}{elt iter tg:Expr}{ifs:List Expr}{scope:Scope}{pos:Pos}{NC:List Str}(fr:List (Option Nat)){fi:FA}{g:FG}{is:List Nat}{ft:FT}{fe:FE}(hcalm:X.calm=true)(hi:VI X tg iter fi)
 (hcells:∀x,X.env.scope.names.lookup x=some .cell->∃c,X.env.cells.lookup x=some c) (hfk:X.env.scope.kind=.function) (hN:X.N=N) (hsc:X.env.scope.names=(zac st).names)
 (hfree':∀y∈scope.names,y.2=.free->(zac st).names.lookup y.1=some .cell) (hcell:∀y∈scope.names,y.2≠.cell) (hkind:scope.kind=.function) (hnames:∀y∈scope.names,y.2=.local->scope.names.lookup y.1=some .local)
 (hfr':zdw N (zac st).names scope.names NC fr=true) (hlen:fr.length=NC.length) (hap:apart is fr=true)
 (hg:∀cl C s0 H0 ex pn,VG (cxC X scope cl NC C s0 H0 ex pn) tg is g) (ht:∀cl C s0 H0 ex pn,VTs (cxC X scope cl NC C s0 H0 ex pn) ifs ft) (he:∀cl C s0 H0 ex pn,VE (cxC X scope cl NC C s0 H0 ex pn) elt fe)
 (hs:∀x,foldedSetIterable iter X.env x=pure x:=by intro _;rfl):VN X (.ListComp elt [⟨tg,iter,ifs,0⟩] scope pos) (ze3 fr fi g ft fe):=
 zje (RR:=fun _=>True) N st fr (fun _ _ _ _ _=>trivial) hcalm hi hcells hfk hN hsc hfree' hcell hkind hnames hfr' hlen hap hg ht (fun cl C s0 H0 ex pn _=>he cl C s0 H0 ex pn) hs
inductive RV where
 | told (d:D) | new (n:Nat) (d:D)
inductive Out where
 | nx (ρ:En) | ret (r:RV) (ρ:En) | bk (ρ:En) | ct (ρ:En)
abbrev FS:=En->Option Out
def RtAt (K:W.Frag)(Hz:Hp)(O:Pr)(ρ:En)(σ:L2.St)(H:Hp)(J:Addr->Prop)(v:V):RV->Prop
 | .told d=>Rp K H J v d
 | .new n d=>∃A fp,Ow K Hz O ρ σ H J fp/\RpU K H J n v d A/\A.Nodup/\(∀b∈A,¬J b/\Hz b=none)/\∀i:Nat,∀b∈A,b∉fp i
def Fits (K:W.Frag)(Hz:Hp)(Jz:Addr->Prop)(O:Pr)(H:Hp)(J:Addr->Prop)(E:Ends):Out->Prop
 | .nx ρ'=>∀σ' H' J',ST K Hz Jz O ρ' σ' H' J'->Keep K H J H' J'->E.nx σ' H'
 | .bk ρ'=>∀σ' H' J',ST K Hz Jz O ρ' σ' H' J'->Keep K H J H' J'->E.bk σ' H'
 | .ct ρ'=>∀σ' H' J',ST K Hz Jz O ρ' σ' H' J'->Keep K H J H' J'->E.ct σ' H'
 | .ret r ρ'=>∀v σ' H' J',ST K Hz Jz O ρ' σ' H' J'->RtAt K Hz O ρ' σ' H' J' v r->E.rt v H'
theorem Fits.keep {K:W.Frag}{Hz:Hp}{Jz:Addr->Prop}{O:Pr}{H H1:Hp}{J J1:Addr->Prop}{E:Ends}(k:Keep K H J H1 J1):∀{o:Out},Fits K Hz Jz O H J E o->Fits K Hz Jz O H1 J1 E o
 | .nx _,h=>fun σ' H' J' s q=>h σ' H' J' s (k.trans q)
 | .bk _,h=>fun σ' H' J' s q=>h σ' H' J' s (k.trans q)
 | .ct _,h=>fun σ' H' J' s q=>h σ' H' J' s (k.trans q)
 | .ret _ _,h=>h
def GoS (K:W.Frag)(t:TS)(g:FS):Prop:=∀Hz Jz O ρ σ H J o E,ST K Hz Jz O ρ σ H J->g ρ=some o->Fits K Hz Jz O H J E o->t E σ H
def VS (X:Cx)(st:Stmt)(g:FS):Prop:=∃t,PS X st t/\GoS X.K t g
def VSs (X:Cx)(sts:List Stmt)(g:FS):Prop:=∃t,PSs X sts t/\GoS X.K t g
def gSeq (a b:FS):FS:=fun ρ=>(a ρ).bind fun o=>match o with
 | .nx ρ'=>b ρ'
 | .bk ρ'=>some (.bk ρ')
 | .ct ρ'=>some (.ct ρ')
 | .ret d ρ'=>some (.ret d ρ')
def gNx:FS:=fun ρ=>some (.nx ρ)
theorem RpL.one {K:W.Frag}{H:Hp}{J:Addr->Prop}{vs:List V}{d:D}(r:RpL K H J vs [d]):∃v,vs = [v]/\Rp K H J v d:=by
 cases r with
 | cons h t=>cases t;exact⟨_,rfl,h⟩
section
variable {X:Cx}{K:W.Frag}{st:Stmt}{sts:List Stmt}{g g2:FS}{pos:Pos}{e a:Expr}{fa:FE}{fl:FA}{ft:FT}
theorem zas:VSs X [] gNx:=⟨_,zhg,fun Hz Jz O ρ σ H J o E s e w=>by cases e;exact w σ H J s Keep.refl⟩
theorem zm9 {t u:TS}(h1:GoS K t g)(h2:GoS K u g2):GoS K (tSeq t u) (gSeq g g2):=by
 intro Hz Jz O ρ σ H J o E s e w;obtain⟨o1,e1,e⟩:=bind_some e;refine h1 Hz Jz O ρ σ H J o1 _ s e1 ?_;cases o1 with
 | nx ρ'=>exact fun σ' H' J' s' k=>h2 Hz Jz O ρ' σ' H' J' o E s' e (w.keep k)
 | bk ρ'=>cases e;exact w
 | ct ρ'=>cases e;exact w
 | ret d ρ'=>cases e;exact w
theorem zad (h1:VS X st g)(h2:VSs X sts g2):VSs X (st::sts) (gSeq g g2):=by
 obtain⟨t,p,q⟩:=h1;obtain⟨u,p2,q2⟩:=h2;exact⟨_,zeh p p2,zm9 q q2⟩
theorem zak (h:VS X st g):VSs X [st] g:=let ⟨t,p,q⟩:=h;⟨t,zhh p,q⟩
def frzE (i:Nat)(ρ:En):En:=match ρ[i]? with
 | some (.own _ d)=>ρ.set i (.val d)
 | _=>ρ
theorem zet (i:Nat)(h:VSs X sts g):VSs X sts (fun ρ=>g (frzE i ρ)):=by
 obtain⟨t,p,q⟩:=h;refine⟨t,p,fun Hz Jz O ρ σ H J o E s e w=>?_⟩;have e:g (frzE i ρ)=some o:=e
 unfold frzE at e;cases z:ρ[i]? with
 | none=>rw[z] at e;exact q Hz Jz O ρ σ H J o E s e w
 | some x=>
   rw[z] at e;cases x with
   | own n d=>
     obtain⟨J',s',k⟩:=s.frz z;exact q Hz Jz O _ σ H J' o E s' e (w.keep k)
   | _=>exact q Hz Jz O ρ σ H J o E s e w
def gNo:FS:=fun _=>none
theorem zeu:VS X st gNo:=⟨_,zf8,fun Hz Jz O ρ σ H J o E s e w=>by cases e⟩
def gRet (f:FE):FS:=fun ρ=>(f ρ).bind fun d=>some (.ret (.told d) ρ)
theorem zaF (h:VE X e fa):VS X (.Return (some e) pos) (gRet fa):=by
 obtain⟨t,p,q⟩:=h;refine⟨_,zhi p,fun Hz Jz O ρ σ H J o E s e w=>?_⟩;obtain⟨d,e1,e⟩:=bind_some e;cases e;exact q Hz Jz O ρ σ H J d _ s e1 fun v H' J' u r=>w v σ H' J' (s.up u) r
def gEx (f:FE):FS:=fun ρ=>(f ρ).bind fun _=>some (.nx ρ)
def gIf (c:FT)(a b:FS):FS:=fun ρ=>(c ρ).bind fun k=>if k then a ρ else b ρ
theorem zdg {c:Expr}{bs os:List Stmt}(hc:VT X c ft)(ha:VSs X bs g)(hb:VSs X os g2):VS X (.If c bs os pos) (gIf ft g g2):=by
 obtain⟨tc,pc,qc⟩:=hc;obtain⟨t,p,q⟩:=ha;obtain⟨u,p2,q2⟩:=hb;refine⟨_,zmv pc p p2,fun Hz Jz O ρ σ H J o E s e w=>?_⟩;obtain⟨k,e1,e⟩:=bind_some e;refine qc Hz Jz O ρ σ H J k _ s e1 fun H1 J1 u1=>?_
 cases k with
 | true=>exact iteT (q Hz Jz O ρ σ H1 J1 o E (s.up u1) e (w.keep u1.keep))
 | false=>exact iteF (q2 Hz Jz O ρ σ H1 J1 o E (s.up u1) e (w.keep u1.keep))
def gSet (i:Nat)(f:FE):FS:=fun ρ=>(f ρ).bind fun d=>if i<ρ.length/\isPar (ρ[i]?)=false then some (.nx (ρ.set i (.val d))) else none
theorem zkp {i:Nat}{t:TE}(q:GoE K t fa):GoS K (tAsg t (zdV i)) (gSet i fa):=by
 intro Hz Jz O ρ σ H J o E s e w;obtain⟨d,e1,e⟩:=bind_some e;by_cases hi:i<ρ.length/\isPar (ρ[i]?)=false
 ·rw[if_pos hi] at e;cases e;exact q Hz Jz O ρ σ H J d _ s e1 fun v H' J' u r=>w _ H' J' ((s.up u).set r hi.1 (za2 hi.2)) u.keep
 ·rw[if_neg hi] at e;cases e
theorem zna {i:Nat}{x:Str}{pos':Pos}(hN:X.N.Nodup)(hi:X.N[i]?=some x)(hx:Loc X.env.scope x)(h:VE X e fa)(hs:swapsWith e (some (.Name x pos')) pos.line X.env=pure false:=by rfl)(hf:X.fn x=true\/X.env.scope.names.lookup x=some .local:=by first | exact .inl rfl | exact .inr rfl | assumption) :
 VS X (.Assign [.Name x pos'] e pos) (gSet i fa):=by
 obtain⟨t,p,q⟩:=h;exact⟨_,zeL hN hi hx p hs hf,zkp q⟩
def gOwn (i:Nat)(f:FA):FS:=fun ρ=>(f ρ).bind fun ds=>if i<ρ.length/\isPar (ρ[i]?)=false then some (.nx (ρ.set i (.own 1 (.lst ds)))) else none
theorem zkq {i:Nat}{t:TE}(q:GoN K t fl):GoS K (tAsg t (zdV i)) (gOwn i fl):=by
 intro Hz Jz O ρ σ H J o E s e w;obtain⟨ds,e1,e⟩:=bind_some e;by_cases hi:i<ρ.length/\isPar (ρ[i]?)=false
 ·rw[if_pos hi] at e;cases e;refine q Hz Jz O ρ σ H J ds _ s e1 fun p vs H' J' u hp nj h' r=>w _ H' J' (s.setOwn (A:=[p]) u (fun b hb=>by rw[waq.mp hb];exact hp) (.lst h' (RpUL.of r)) (by simp) (fun b hb=>by rw[waq.mp hb];exact nj) hi.1 (za2 hi.2)) u.keep
 ·rw[if_neg hi] at e;cases e
def gRetN (f:FA):FS:=fun ρ=>(f ρ).bind fun ds=>some (.ret (.new 1 (.lst ds)) ρ)
theorem zbD (h:VN X e fl):VS X (.Return (some e) pos) (gRetN fl):=by
 obtain⟨t,p,q⟩:=h;refine⟨_,zhi p,fun Hz Jz O ρ σ H J o E s e w=>?_⟩;obtain⟨ds,e1,e⟩:=bind_some e;cases e;refine q Hz Jz O ρ σ H J ds _ s e1 fun p vs H' J' u hp nj h' r=>?_
 obtain⟨fp,ow⟩:=(s.up u).ow;obtain⟨fp0,ow0⟩:=s.ow;have s':=s.up u
 refine w _ σ H' J' s' ⟨[p],fp0,⟨fun i=>(ow0.at' i).keep u.keep fun b _=>u.same b,ow0.nd,fun i b hb jb=>?_,ow0.dj⟩,.lst h' (RpUL.of r),by simp,fun b hb=>?_,fun i b hb hb2=>?_⟩
 ·rcases u.jn b jb with jb | jb
  ·exact ow0.nj i b hb jb
  ·obtain⟨o,e,_⟩:=(ow0.at' i).ru b hb;rw[e] at jb;cases jb
 ·rw[waq.mp hb];refine⟨nj,?_⟩;cases e:Hz p with
  | none=>rfl
  | some o=>exact absurd hp (s.al p (by rw[e];simp))
 ·rw[waq.mp hb] at hb2;obtain⟨o,e,_⟩:=(ow0.at' i).ru p hb2;rw[hp] at e;cases e
theorem znb {i:Nat}{x:Str}{pos':Pos}(hN:X.N.Nodup)(hi:X.N[i]?=some x)(hx:Loc X.env.scope x)(h:VN X e fl)(hs:swapsWith e (some (.Name x pos')) pos.line X.env=pure false:=by rfl)(hf:X.fn x=true\/X.env.scope.names.lookup x=some .local:=by first | exact .inl rfl | exact .inr rfl | assumption) :
 VS X (.Assign [.Name x pos'] e pos) (gOwn i fl):=by
 obtain⟨t,p,q⟩:=h;exact⟨_,zeL hN hi hx p hs hf,zkq q⟩
def gAsg (f:FE)(g:FG):FS:=fun ρ=>(f ρ).bind fun d=>(g d ρ).bind fun ρ'=>some (.nx ρ')
def setO (ρ:En)(i:Nat)(d:D):En:=ρ.set i (putD (ρ[i]?) d)
theorem ST.top {Hz H H':Hp}{Jz J:Addr->Prop}{O:Pr}{ρ:En}{σ:L2.St}{i:Nat}{ds es:List D}(s:ST K Hz Jz O ρ σ H J)(h0:ownD (ρ[i]?)=some (1,.lst ds)):∃a vs,σ[i]?=some (some (.ref a))/\H a=some (.lst vs)/\RpL K H J vs ds/\
 ∀(us:List V) (es:List D),RpL K H J us es->ST K Hz Jz O (setO ρ i (.lst es)) σ (upd H a (.lst us)) J/\Keep K H J (upd H a (.lst us)) J:=by
 obtain⟨v,A,hv,r,nd,nj,go⟩:=s.chg h0;obtain⟨a,vs,rfl,rfl,ha,rl⟩:=r.one;refine⟨a,vs,hv,ha,rl,fun us es re=>?_⟩;have nja:¬J a:=nj a (by simp)
 have kp:Keep K H J (upd H a (.lst us)) J:=zcA ha nja
 refine go (upd H a (.lst us)) J (.lst es) [a] (fun b o hb h=>?_) (fun b h=>?_) (fun _ h=>h) (fun _ h=>.inl h) (fun b h=>?_) (.lst zaf (RpUL.of (re.keep kp))) (by simp) nj (fun b hb=>.inl hb)
 ·rw[zag (fun z=>hb (by simp[z]))];exact h
 ·by_cases e:b=a
  ·subst e;rw[zaf];simp
  ·rw[zag e];exact h
 ·by_cases e:b=a
  ·subst e;rw[zaf];simp
  ·rw[zag e];exact s.ja b h
def gApp (i:Nat)(f:FE):FS:=fun ρ=>(f ρ).bind fun d=>match ownD (ρ[i]?) with
 | some (1,.lst ds)=>if ds.length<lim then some (.nx (setO ρ i (.lst (ds++[d])))) else none
 | _=>none
theorem znc {i:Nat}{t:TA}(q:GoA K t fl)(f:FE)(hf:∀ρ d,f ρ=some d->fl ρ=some [d]):GoS K (ziV (tBM K "list" zeo (tVar i) t)) (gApp i f):=by
 intro Hz Jz O ρ σ H J o E s e w;obtain⟨d,e1,e⟩:=bind_some e;split at e
 ·rename_i ds z
  by_cases hl:ds.length<lim
  ·rw[if_pos hl] at e;cases e;obtain⟨a,vs,ha,hv,_,_⟩:=s.top (H':=H) (es:=[]) z;refine⟨.ref a,ha,.inl ⟨rfl,vs,SqL.of hv⟩,q Hz Jz O ρ σ H J [d] _ s (hf ρ d e1) fun ws H1 J1 u1 r1=>?_⟩;obtain⟨v,rfl,rv⟩:=r1.one;obtain⟨a',vs',ha',hv',rl,go⟩:=(s.up u1).top (H':=H) (es:=[]) z;rw[ha] at ha';cases ha';refine⟨a,vs',v,rfl,rfl,hv',by rw[rl.length];exact waj hl (waW zd4),?_⟩;obtain⟨s2,k2⟩:=go (vs'++[v]) (ds++[d]) (rl.append (.cons rv .nil));exact w σ _ J1 s2 (u1.keep.trans k2)
  ·rw[if_neg hl] at e;cases e
 ·cases e
theorem zgl (i:Nat){x:Str}{xp apos cpos:Pos}(h:VE X e fa)(hN:X.N[i]?=some x:=by rfl)(hv:Vis X.env.scope x:=by first | exact Or.inl rfl | exact Or.inr (Or.inl rfl) | exact Or.inr (Or.inr rfl))(hd:(x == ("__debug__" : Str))=false:=by decide)
 (hcd:(x == ("__classdict__" : Str))=false:=by decide) (h1:starEach [e] X.env=(false,eval e X.env)::starEach [] X.env:=by rfl)
 (hbase:attributeBase (.Name x xp) "append" X.env (eval (.Name x xp) X.env)=eval (.Name x xp) X.env:=by rfl)
 (hfew:((backTo cpos (starEach [e] X.env)).all (fun x=>!x.1)&&(backToKw cpos (keywordEach [] X.env)).all (fun x=>x.1.isSome)
  && decide ([e].length+([]:List Keyword).length+(if([]:List Keyword).isEmpty then 0 else 1)<30))=true:=by rfl)
 (hline:(apos.endLine == cpos.line)=true:=by rfl) (hs:starEach [e] X.env = [(false,eval e X.env)]:=by rfl) (hsw:swapsWith (.Call (.Attribute (.Name x xp) "append" apos) [e] [] cpos) none pos.line X.env=pure false:=by rfl) :
 VS X (.Expr (.Call (.Attribute (.Name x xp) "append" apos) [e] [] cpos) pos) (gApp i fa):=by
 obtain⟨t,p,q⟩:=zab h zah h1;refine⟨_,zei (papp (zb1 hN hv hd hcd) p hbase hfew hline hs) hsw,znc q fa fun ρ d e=>?_⟩;show((fa ρ).bind fun x=>(aNil ρ).bind fun xs=>some (x::xs))=some [d]
 rw[e];rfl
def gExt (i:Nat)(f:FE):FS:=fun ρ=>(f ρ).bind fun d=>match d,ownD (ρ[i]?) with
 | .lst es,some (1,.lst ds)=>if(ds++es).length<=lim then some (.nx (setO ρ i (.lst (ds++es)))) else none
 | _,_=>none
theorem znd {i:Nat}{t:TA}(q:GoA K t fl)(f:FE)(hf:∀ρ d,f ρ=some d->fl ρ=some [d]):GoS K (ziV (tBM K "list" zhy (tVar i) t)) (gExt i f):=by
 intro Hz Jz O ρ σ H J o E s e w;obtain⟨d,e1,e⟩:=bind_some e;split at e
 ·rename_i es ds z
  by_cases hl:(ds++es).length<=lim
  ·rw[if_pos hl] at e;cases e;obtain⟨a,vs,ha,hv,_,_⟩:=s.top (H':=H) (es:=[]) z;refine⟨.ref a,ha,.inl ⟨rfl,vs,SqL.of hv⟩,q Hz Jz O ρ σ H J [.lst es] _ s (hf ρ _ e1) fun ws H1 J1 u1 r1=>?_⟩;obtain⟨v,rfl,rv⟩:=r1.one;obtain⟨b,us,rfl,hb,rb⟩:=RpW.lst (.inl rv);obtain⟨a',vs',ha',hv',rl,go⟩:=(s.up u1).top (H':=H) (es:=[]) z;rw[ha] at ha';cases ha';refine⟨a,b,vs',us,rfl,rfl,hv',hb,by rw[rl.length,rb.length,<-was];exact zbZ hl,?_⟩;obtain⟨s2,k2⟩:=go (vs'++us) (ds++es) (rl.append rb);exact w σ _ J1 s2 (u1.keep.trans k2)
  ·rw[if_neg hl] at e;cases e
 ·cases e
theorem zne (i:Nat){x:Str}{xp apos cpos:Pos}(h:VE X e fa)(hN:X.N[i]?=some x:=by rfl)(hv:Vis X.env.scope x:=by first | exact Or.inl rfl | exact Or.inr (Or.inl rfl) | exact Or.inr (Or.inr rfl))(hd:(x == ("__debug__" : Str))=false:=by decide)
 (hcd:(x == ("__classdict__" : Str))=false:=by decide) (h1:starEach [e] X.env=(false,eval e X.env)::starEach [] X.env:=by rfl)
 (hbase:attributeBase (.Name x xp) "extend" X.env (eval (.Name x xp) X.env)=eval (.Name x xp) X.env:=by rfl)
 (hfew:((backTo cpos (starEach [e] X.env)).all (fun x=>!x.1)&&(backToKw cpos (keywordEach [] X.env)).all (fun x=>x.1.isSome)
  && decide ([e].length+([]:List Keyword).length+(if([]:List Keyword).isEmpty then 0 else 1)<30))=true:=by rfl)
 (hline:(apos.endLine == cpos.line)=true:=by rfl) (hs:starEach [e] X.env = [(false,eval e X.env)]:=by rfl) (hsw:swapsWith (.Call (.Attribute (.Name x xp) "extend" apos) [e] [] cpos) none pos.line X.env=pure false:=by rfl) :
 VS X (.Expr (.Call (.Attribute (.Name x xp) "extend" apos) [e] [] cpos) pos) (gExt i fa):=by
 obtain⟨t,p,q⟩:=zab h zah h1;refine⟨_,zei (zmI PySem.F.plainAttrs_list PySem.F.slot_list_extend PySem.F.type_list_extend zhz (zb1 hN hv hd hcd) p hbase hfew hline hs rfl) hsw,znd q fa fun ρ d e=>?_⟩;show((fa ρ).bind fun x=>(aNil ρ).bind fun xs=>some (x::xs))=some [d]
 rw[e];rfl
end
def forL (tg:FG)(b:FS):List D->En->Option Out
 | [],ρ=>some (.nx ρ)
 | d::r,ρ=>(tg d ρ).bind fun ρ1=>(b ρ1).bind fun o=>match o with
   | .nx ρ2=>forL tg b r ρ2
   | .ct ρ2=>forL tg b r ρ2
   | .bk ρ2=>some (.nx ρ2)
   | .ret d ρ2=>some (.ret d ρ2)
def gFor (fi:FA)(tg:FG)(b:FS):FS:=fun ρ=>(fi ρ).bind fun ds=>forL tg b ds ρ
section
variable {X:Cx}{K:W.Frag}{fi:FA}{g:FS}{pos:Pos}{ft:FT}
theorem znf {wi:TI}{tb:TS}{tg:TG}{fg:FG}{is:List Nat}(hi:GoI K wi fi)(hg:GoG K tg is fg)(hb:GoS K tb g):GoS K (tFor wi tg tb) (gFor fi fg g):=by
 intro Hz Jz O ρ σ H J o E s e w;obtain⟨ds,e1,e⟩:=bind_some e;refine hi Hz Jz O ρ σ H J ds _ s e1 fun I H1 J1 u1 src=>?_
 refine⟨fun i m σ' H'=>m=ds.length - i/\i<=ds.length/\∃ρ' J',ST K Hz Jz O ρ' σ' H' J'/\Keep K H1 J1 H' J'/\forL fg g (ds.drop i) ρ'=some o,⟨ds.length,by simp,wcm _,ρ,J1,s.up u1,Keep.refl,by simpa using e⟩,?_⟩;rintro i m σ2 H2 ⟨rfl,hil,ρ2,J2,s2,k2,e2⟩;obtain⟨stop,turn⟩:=src H2 J2 k2 s2.ja;by_cases hlt:i<ds.length
 ·right
  have hd:ds[i]?=some ds[i]:=wat hlt
  generalize hdd:ds[i]=d at hd;obtain⟨go,yl⟩:=turn i d hd;have edrop:ds.drop i=d::ds.drop (i+1):=by rw[<-hdd];exact(wbz hlt).symm
  rw[edrop] at e2;unfold forL at e2;obtain⟨ρ3,eg,e2⟩:=bind_some e2;obtain⟨ob,eb,e2⟩:=bind_some e2;refine⟨go,fun σ' H'=>∃ρ' J',ST K Hz Jz O ρ' σ' H' J'/\Keep K H1 J1 H' J'/\forL fg g (ds.drop (i+1)) ρ'=some o,fun σ' H' h=>⟨ds.length - (i+1),by omega,rfl,hlt,h⟩,fun x H3 y=>?_⟩;obtain⟨J3,u3,r3⟩:=yl x H3 y;refine hg.2 Hz Jz O ρ2 σ2 H3 J3 x d ρ3 _ (s2.up u3) r3 eg fun σ4 s4=>?_
  refine hb Hz Jz O ρ3 σ4 H3 J3 ob _ s4 eb ?_;have k3:=k2.trans u3.keep
  cases ob with
  | nx ρ5=>exact fun σ5 H5 J5 s5 k5=>⟨ρ5,J5,s5,k3.trans k5,e2⟩
  | ct ρ5=>exact fun σ5 H5 J5 s5 k5=>⟨ρ5,J5,s5,k3.trans k5,e2⟩
  | bk ρ5=>cases e2;exact fun σ5 H5 J5 s5 k5=>w σ5 H5 J5 s5 ((u1.keep.trans k3).trans k5)
  | ret d ρ5=>cases e2;exact w
 ·left
  have hi':i=ds.length:=by omega
  subst hi';rw[wce] at e2;cases e2;exact⟨stop,w σ2 H2 J2 s2 (u1.keep.trans k2)⟩
theorem zb3 {tg iter:Expr}{body:List Stmt}{is:List Nat}{fg:FG}(hi:VI X tg iter fi)(hg:VG X tg is fg)(hb:VSs X body g)(hp:PassesOwn (model X.prog X.w) X.A X.env X.xe:=by exact PassesOwn.never)(hc:X.calm=true:=by rfl)
 (hs:∀x,foldedSetIterable iter X.env x=pure x:=by intro _;rfl):VS X (.For tg iter body [] pos) (gFor fi fg g):=by
 obtain⟨wi,p1,q1⟩:=hi;obtain⟨t,p2,q2⟩:=hg;obtain⟨tb,p3,q3⟩:=hb;exact⟨_,zkc hp hc p1 p2 p3 hs,znf q1 q2 q3⟩
end
theorem zjf (N:List Str)(st:Stmt){X:Cx}{i:Nat}{x:Str}{elt iter tg:Expr}{ifs:List Expr}{scope:Scope}{pos pos' cp:Pos}{NC:List Str}(fr:List (Option Nat)){fi:FA}{g:FG}{is:List Nat}{ft:FT}{fe:FE}(hND:X.N.Nodup)(hix:X.N[i]?=some x)(hx:Loc X.env.scope x){RR:Hp->Prop}(hRR:∀pins σ H s,Inv X pins σ H s->RR H)(hcalm:X.calm=true)(hi:VI X tg iter fi)
 (hcells:∀x,X.env.scope.names.lookup x=some .cell->∃c,X.env.cells.lookup x=some c) (hfk:X.env.scope.kind=.function) (hN:X.N=N) (hsc:X.env.scope.names=(zac st).names)
 (hfree':∀y∈scope.names,y.2=.free->(zac st).names.lookup y.1=some .cell) (hcell:∀y∈scope.names,y.2≠.cell) (hkind:scope.kind=.function) (hnames:∀y∈scope.names,y.2=.local->scope.names.lookup y.1=some .local)
 (hfr':zdw N (zac st).names scope.names NC fr=true) (hlen:fr.length=NC.length) (hap:apart is fr=true)
 (hg:∀cl C s0 H0 ex pn,VG (cxC X scope cl NC C s0 H0 ex pn) tg is g) (ht:∀cl C s0 H0 ex pn,VTs (cxC X scope cl NC C s0 H0 ex pn) ifs ft) (he:∀cl C s0 H0 ex pn,RR H0->VE (cxC X scope cl NC C s0 H0 ex pn) elt fe)
 (hs:∀x,foldedSetIterable iter X.env x=pure x:=by intro _;rfl) (hsw:swapsWith (.ListComp elt [⟨tg,iter,ifs,0⟩] scope cp) (some (.Name x pos')) pos.line X.env=pure true:=by rfl)
 (hf:X.fn x=true\/X.env.scope.names.lookup x=some .local:=by first | exact .inl rfl | exact .inr rfl | assumption) :
 VS X (.Assign [.Name x pos'] (.ListComp elt [⟨tg,iter,ifs,0⟩] scope cp) pos) (gSet i (eL (ze3 fr fi g ft fe)))/\VS X (.Assign [.Name x pos'] (.ListComp elt [⟨tg,iter,ifs,0⟩] scope cp) pos) (gOwn i (ze3 fr fi g ft fe)):=by
 obtain⟨wi,pi,gi⟩:=hi;obtain⟨_,_,hon,_⟩:=hg [] 0 X.s₀ X.Hz [] [];have p:=zgh N st (i:=i) (pos:=pos) (pos':=pos') (cp:=cp) fr hND hix hx hRR hcalm pi hcells hfk hN hsc hfree' hcell hkind hnames hfr' hlen (fun cl C s0 H0 ex pn=>show PG (cxC X scope cl NC C s0 H0 ex pn) tg (TGof X.K g) from(hg cl C s0 H0 ex pn).of) (fun cl C s0 H0 ex pn=>show PTs (cxC X scope cl NC C s0 H0 ex pn) ifs (TTof X.K ft) from ht cl C s0 H0 ex pn) (fun cl C s0 H0 ex pn r=>show PE (cxC X scope cl NC C s0 H0 ex pn) elt (TEof X.K fe) from(he cl C s0 H0 ex pn r).of) hs hsw hf
 exact⟨⟨_,p,zkp (zkm (zfM gi hon hap))⟩,⟨_,p,zkq (zfM gi hon hap)⟩⟩
theorem zfN (N:List Str)(st:Stmt){X:Cx}{i:Nat}{x:Str}{elt iter tg:Expr}{ifs:List Expr}{scope:Scope}{pos pos' cp:Pos}{NC:List Str}(fr:List (Option Nat)){fi:FA}{g:FG}{is:List Nat}{ft:FT}{fe:FE}(hND:X.N.Nodup)(hix:X.N[i]?=some x)(hx:Loc X.env.scope x)(hcalm:X.calm=true)(hi:VI X tg iter fi)
 (hcells:∀x,X.env.scope.names.lookup x=some .cell->∃c,X.env.cells.lookup x=some c) (hfk:X.env.scope.kind=.function) (hN:X.N=N) (hsc:X.env.scope.names=(zac st).names)
 (hfree':∀y∈scope.names,y.2=.free->(zac st).names.lookup y.1=some .cell) (hcell:∀y∈scope.names,y.2≠.cell) (hkind:scope.kind=.function) (hnames:∀y∈scope.names,y.2=.local->scope.names.lookup y.1=some .local)
 (hfr':zdw N (zac st).names scope.names NC fr=true) (hlen:fr.length=NC.length) (hap:apart is fr=true)
 (hg:∀cl C s0 H0 ex pn,VG (cxC X scope cl NC C s0 H0 ex pn) tg is g) (ht:∀cl C s0 H0 ex pn,VTs (cxC X scope cl NC C s0 H0 ex pn) ifs ft) (he:∀cl C s0 H0 ex pn,VE (cxC X scope cl NC C s0 H0 ex pn) elt fe)
 (hs:∀x,foldedSetIterable iter X.env x=pure x:=by intro _;rfl) (hsw:swapsWith (.ListComp elt [⟨tg,iter,ifs,0⟩] scope cp) (some (.Name x pos')) pos.line X.env=pure true:=by rfl)
 (hf:X.fn x=true\/X.env.scope.names.lookup x=some .local:=by first | exact .inl rfl | exact .inr rfl | assumption) :
 VS X (.Assign [.Name x pos'] (.ListComp elt [⟨tg,iter,ifs,0⟩] scope cp) pos) (gSet i (eL (ze3 fr fi g ft fe)))/\VS X (.Assign [.Name x pos'] (.ListComp elt [⟨tg,iter,ifs,0⟩] scope cp) pos) (gOwn i (ze3 fr fi g ft fe)):=
 zjf (RR:=fun _=>True) N st fr hND hix hx (fun _ _ _ _ _=>trivial) hcalm hi hcells hfk hN hsc hfree' hcell hkind hnames hfr' hlen hap hg ht (fun cl C s0 H0 ex pn _=>he cl C s0 H0 ex pn) hs hsw hf
section
variable {P:Program}{w:World}{K:W.Frag}{mg:Str->Option Value}{base:Heap}
theorem ST.out {Hz H:Hp}{Jz J:Addr->Prop}{ρ:En}{σ:L2.St}(s:ST K Hz Jz Pr.no ρ σ H J):Up Hz Jz H J:=⟨fun b o=>s.same b o (fun⟨_,h⟩ =>by simp[Pr.no] at h),s.j0,s.jn,s.ja⟩
theorem zev {N:List Str}{H:Hp}{J:Addr->Prop}{vs:List V}{ds:List D}(ja:∀a,J a->H a≠none)(r:RpL K H J vs ds):ST K H J Pr.no (ds.map SV.val++List.replicate (N.length - ds.length) .un) (start N vs) H J where
 same:=fun _ _ _ h=>h
 j0:=fun _ h=>h
 jn:=fun _ h=>.inl h
 ja:=ja
 al:=fun _ h=>h
 ps:=fun q hq=>absurd hq (by simp[Pr.no])
 len:=by simp[L2.start,r.length]
 vl:=fun i x h=>by
  rw[List.getElem?_append] at h;by_cases hi:i<(ds.map SV.val).length
  ·rw[if_pos hi,wam] at h;cases q:ds[i]? with
   | none=>rw[q] at h;cases h
   | some d=>
     rw[q] at h;cases h;obtain⟨v,hv,rv⟩:=r.get q;refine⟨v,?_,rv⟩;unfold L2.start;rw[wbd (by simp at hi⊢;rw[r.length];exact hi),wam,hv];rfl
  ·rw[if_neg hi] at h;have:=waA h
   cases List.eq_of_mem_replicate this
 ow:=⟨fun _=>[],fun i=>zhP (by
  cases h:(List.map SV.val ds++List.replicate (N.length - ds.length) SV.un)[i]? with
  | none=>rfl
  | some x=>
    rcases way.mp (waA h) with h | h
    ·obtain⟨d',_,h⟩:=waL.mp h;subst h;rfl
    ·cases List.eq_of_mem_replicate h;rfl),fun _=>wbf,fun _ b hb=>absurd hb (by simp),fun _ _ _ b hb=>absurd hb (by simp)⟩
end
theorem zkr {P:Program}{w:World}{K:W.Frag}{mg:Str->Option Value}{base:Heap}{f:Addr}{fd:FuncData}{ps:List Str}{x:Str}{b:(List D->Option D)->List D->Option D}{m:Nat->List D->Option D}(h0:∀ds,m 0 ds=none)(hs:∀n,m (n+1)=b (m n))
 (bd:Binds K fd ps []) (kp:W.keepIn K (.ref f)=true) (mx:mg x=some (.ref f)) {k:Nat}(hlen:∀n ds d,m n ds=some d->ds.length=ps.length)
 (step:∀{n:Nat}{self:List D->Option D},Cal P w K mg base (k+n) x ps (spF K self)->FnOk P w K mg base CX0 (k+n+1) f fd ps (spF K (b self))):∀n,FnOk P w K mg base CX0 (k+n) f fd ps (spF K (m n))
 | 0=>by
   refine⟨fun vs H Q E h=>?_,fun A outer s H args us vs Q E _ _ _ _ h=>?_⟩
   ·obtain⟨J,ds,d,_,_,e,_⟩:=h;rw[h0] at e;cases e
   ·obtain⟨J,ds,d,_,_,e,_⟩:=h;rw[h0] at e;cases e
 | n+1=>by
   rw[hs];exact step ⟨f,fd,zkr h0 hs bd kp mx hlen step n,bd,kp,mx⟩
section
variable {K:W.Frag}{mg:Str->Option Value}
theorem zgm {x:Str}{n:Int}{t:Tok}(h:mg x=some (.int n t)):GlobD K mg x (.int n):=⟨_,.int n,h,⟨t,rfl⟩,fun _ _=>.int n⟩
end
def tyD:D->String
 | .non=>"NoneType"
 | .bl _=>"bool"
 | .int _=>"int"
 | .str _=>"str"
 | .tup _=>"tuple"
 | .lst _=>"list"
 | .dct _ _=>"dict"
 | .scr _=>"list"
 | .exc _ _ _=>"?"
def isK (k T:String):Bool:=k == T||(k == "bool"&&T == "int")
structure Kit (K:W.Frag)(T:String):Prop where
 non:PySem.W.kitOne K (.type "NoneType") (.type T)=some (isK "NoneType" T)
 bl:PySem.W.kitOne K (.type "bool") (.type T)=some (isK "bool" T)
 int:PySem.W.kitOne K (.type "int") (.type T)=some (isK "int" T)
 str:PySem.W.kitOne K (.type "str") (.type T)=some (isK "str" T)
 tup:PySem.W.kitOne K (.type "tuple") (.type T)=some (isK "tuple" T)
 lst:PySem.W.kitOne K (.type "list") (.type T)=some (isK "list" T)
 dct:PySem.W.kitOne K (.type "dict") (.type T)=some (isK "dict" T)
def zks (K:W.Frag):List V->Hp->VK->Prop:=fun xs H Q=>zmQ K xs H Q\/∃a vs n k,xs = [.ref a,.ty n]/\SqT K H a vs/\PySem.W.kitOne K (.type "tuple") (.type n)=some k/\Q (.bl k) H
theorem zgY {X:Cx}:zcs X (.builtin "isinstance") (zks X.K):=by
 intro pins s σ H xs us Q I r h;rcases h with h | ⟨a,vs,n,k,rfl,hs,e,q⟩
 ·exact zld pins s σ H xs us Q I r h
 ·obtain⟨u,w',rfl,r1,r2⟩:=zho r;obtain rfl:w'=Value.type n:=r2;obtain rfl:u=Value.ref a:=r1;obtain⟨its,_,p,_⟩:=I.tuple hs;obtain⟨o,h1,h2,_⟩:=p;exact waJ PySem.W.kitx_tuple I.kIn ⟨o,h1,h2⟩ e (fun z=>nomatch z) fun tk=>⟨.bl k,H,I.tok _,rfl,q⟩
def isD (T:String):D->Option D
 | .scr _=>none
 | .exc _ _ _=>none
 | d=>some (.bl (isK (tyD d) T))
def zoG (T:String)(f:FE):FE:=fun ρ=>(f ρ).bind (isD T)
theorem zlp {T:String}{Ts:Str}{X:Cx}{a:Expr}{fa:FE}{p q pos:Pos}(KT:Kit X.K T)(B:Blt X.mg)(hv:bootBuiltins Ts=some (.type T))(ha:VW X a fa)(hBT:Ts∈zbr:=by decide +kernel)(hgT:Gl X Ts:=by rfl)(hnT:Ts≠"__name__":=by decide)(hdT:(Ts == ("__debug__" : Str))=false:=by decide)(hg:Gl X "isinstance":=by rfl)
 (h1:starEach [a,.Name Ts q] X.env=(false,eval a X.env)::starEach [.Name Ts q] X.env:=by rfl) (h2:starEach [.Name Ts q] X.env=(false,eval (.Name Ts q) X.env)::starEach [] X.env:=by rfl)
 (hpl:(backTo pos (starEach [.Name Ts q] X.env)).any (·.1)=false:=by rfl):VE X (.Call (.Name "isinstance" p) [a,.Name Ts q] [] pos) (zoG T fa):=by
 obtain⟨t,pa,g⟩:=ha;refine⟨_,pb zgY B boot_isinstance (zaC pa (zaC (ptn (v:=.ty T) (u:=.type T) B hv rfl hBT hgT hnT hdT) zbA h2) h1) (by decide +kernel) hg (by decide) (by decide) h1 hpl,?_⟩;intro Hz Jz O ρ σ H J d Q s e w;obtain⟨x,e1,e⟩:=bind_some e;refine g Hz Jz O ρ σ H J x _ s e1 fun v H1 J1 u1 r1=>?_
 show zks X.K [v,.ty T] H1 Q
 cases x with
 | scr p=>cases e
 | exc _ _ _=>cases e
 | non=>cases e;rw[r1.non];exact .inl ⟨_,_,_,_,rfl,.non,KT.non,w _ H1 J1 u1 (.bl _)⟩
 | bl b=>cases e;rw[r1.bl];exact .inl ⟨_,_,_,_,rfl,.bl b,KT.bl,w _ H1 J1 u1 (.bl _)⟩
 | int b=>cases e;rw[r1.int];exact .inl ⟨_,_,_,_,rfl,.int b,KT.int,w _ H1 J1 u1 (.bl _)⟩
 | str b=>cases e;rw[r1.str];exact .inl ⟨_,_,_,_,rfl,.str b,KT.str,w _ H1 J1 u1 (.bl _)⟩
 | tup ds=>cases e;obtain⟨a,vs,rfl,h1,_⟩:=r1.tup;exact .inr ⟨a,vs,T,_,rfl,h1,KT.tup,w _ H1 J1 u1 (.bl _)⟩
 | lst ds=>cases e;obtain⟨a,vs,rfl,h1,_⟩:=r1.lst;exact .inl ⟨_,_,_,_,rfl,.lst h1,KT.lst,w _ H1 J1 u1 (.bl _)⟩
 | dct ks ds=>cases e;obtain⟨a,kvs,vs,rfl,h1,_⟩:=r1.dct;exact .inl ⟨_,_,_,_,rfl,.dK h1,KT.dct,w _ H1 J1 u1 (.bl _)⟩
section
variable {K:W.Frag}{H H':Hp}{J J':Addr->Prop}
end
abbrev FX:=En->Option (D×En)
abbrev FR:=En->Option (RV×En)
abbrev FAX:=En->Option (List D×En)
section
variable (K:W.Frag)
def GoX (t:TE)(f:FX):Prop:=∀Hz Jz O ρ σ H J d ρ' Q,ST K Hz Jz O ρ σ H J->f ρ=some (d,ρ')->(∀v H' J',ST K Hz Jz O ρ' σ H' J'->Keep K H J H' J'->Rp K H' J' v d->Q v H')->t σ H Q
def GoR (t:TE)(f:FR):Prop:=∀Hz Jz O ρ σ H J r ρ' Q,ST K Hz Jz O ρ σ H J->f ρ=some (r,ρ')->(∀v H' J',ST K Hz Jz O ρ' σ H' J'->Keep K H J H' J'->RtAt K Hz O ρ' σ H' J' v r->Q v H')->t σ H Q
def GoAX (t:TA)(f:FAX):Prop:=∀Hz Jz O ρ σ H J ds ρ' Q,ST K Hz Jz O ρ σ H J->f ρ=some (ds,ρ')->(∀vs H' J',ST K Hz Jz O ρ' σ H' J'->Keep K H J H' J'->RpL K H' J' vs ds->Q vs H')->t σ H Q
end
def VX (X:Cx)(e:Expr)(f:FX):Prop:=∃t,PE X e t/\GoX X.K t f
def VR (X:Cx)(e:Expr)(f:FR):Prop:=∃t,PE X e t/\GoR X.K t f
def VAX (X:Cx)(es:List Expr)(f:FAX):Prop:=∃t,PA X es t/\GoAX X.K t f
section
variable {X:Cx}{K:W.Frag}{a b c e:Expr}{es rest:List Expr}{fa fb fc:FX}{fe:FE}{ft fu:FTX}{fl:FAX}{fr:FR}{pos p p2:Pos}
def xE (f:FE):FX:=fun ρ=>(f ρ).bind fun d=>some (d,ρ)
theorem VE.x (h:VE X e fe):VX X e (xE fe):=by
 obtain⟨t,p,g⟩:=h;refine⟨t,p,fun Hz Jz O ρ σ H J d _ Q s e w=>?_⟩;obtain⟨d',e1,e⟩:=bind_some e;cases e;exact g Hz Jz O ρ σ H J d Q s e1 fun v H' J' u r=>w v H' J' (s.up u) u.keep r
def xA (f:FA):FAX:=fun ρ=>(f ρ).bind fun d=>some (d,ρ)
theorem VA.x {f:FA}(h:VA X es f):VAX X es (xA f):=by
 obtain⟨t,p,g⟩:=h;refine⟨t,p,fun Hz Jz O ρ σ H J d _ Q s e w=>?_⟩;obtain⟨d',e1,e⟩:=bind_some e;cases e;exact g Hz Jz O ρ σ H J d Q s e1 fun v H' J' u r=>w v H' J' (s.up u) u.keep r
theorem zjg {Hz H H':Hp}{Jz J J':Addr->Prop}{O:Pr}{ρ:En}{σ:L2.St}{p:Addr}{vs:List V}{ds:List D}(s:ST K Hz Jz O ρ σ H J)(u:Up H J H' J')(hp:H p=none)(nj:¬J' p)(h':H' p=some (.lst vs))(r:RpL K H' J' vs ds):RtAt K Hz O ρ σ H' J' (.ref p) (.new 1 (.lst ds)):=by
 obtain⟨fp0,ow0⟩:=s.ow;refine⟨[p],fp0,⟨fun i=>(ow0.at' i).keep u.keep fun b _=>u.same b,ow0.nd,fun i b hb jb=>?_,ow0.dj⟩,.lst h' (RpUL.of r),by simp,fun b hb=>?_,fun i b hb hb2=>?_⟩
 ·rcases u.jn b jb with jb | jb
  ·exact ow0.nj i b hb jb
  ·obtain⟨o,e,_⟩:=(ow0.at' i).ru b hb;rw[e] at jb;cases jb
 ·rw[waq.mp hb];refine⟨nj,?_⟩;cases e:Hz p with
  | none=>rfl
  | some o=>exact absurd hp (s.al p (by rw[e];simp))
 ·rw[waq.mp hb] at hb2;obtain⟨o,e,_⟩:=(ow0.at' i).ru p hb2;rw[hp] at e;cases e
def RV.d:RV->D
 | .told d=>d
 | .new _ d=>d
def xR (f:FR):FX:=fun ρ=>(f ρ).bind fun q=>some (q.1.d,q.2)
theorem ST.tell {Hz H:Hp}{Jz J:Addr->Prop}{O:Pr}{ρ:En}{σ:L2.St}{v:V}{r:RV}(s:ST K Hz Jz O ρ σ H J)(q:RtAt K Hz O ρ σ H J v r):∃J',ST K Hz Jz O ρ σ H J'/\Keep K H J H J'/\Rp K H J' v r.d:=by
 cases r with
 | told d=>exact⟨J,s,Keep.refl,q⟩
 | new n d=>
   obtain⟨A,fp,ow,r,nd,hA,dj⟩:=q;have kp:Keep K H J H (fun b=>J b\/b∈A):=⟨fun _ h=>.inl h,fun _ _ _ h=>h,fun _ _ h=>h⟩
   refine⟨fun b=>J b\/b∈A,⟨s.same,fun b h=>.inl (s.j0 b h),fun b h=>?_,fun b h=>?_,s.len,fun j e h=>?_,⟨fp,fun i=>(ow.at' i).keep kp fun _ _ _ h=>h,ow.nd,fun i b hb jb=>?_,ow.dj⟩,s.ps,s.al⟩,kp,r.rp (fun _ h=>.inl h) (fun b hb=>.inr hb)⟩
   ·rcases h with h | h
    ·exact s.jn b h
    ·exact .inr (hA b h).2
   ·rcases h with h | h
    ·exact s.ja b h
    ·obtain⟨o,e,_⟩:=r.some b h;rw[e];simp
   ·obtain⟨v,e1,r1⟩:=s.vl j e h;exact⟨v,e1,r1.keep kp⟩
   ·rcases jb with jb | jb
    ·exact ow.nj i b hb jb
    ·exact dj i b jb hb
theorem VR.x (h:VR X e fr):VX X e (xR fr):=by
 obtain⟨t,p,g⟩:=h;refine⟨t,p,fun Hz Jz O ρ σ H J d _ Q s e w=>?_⟩;obtain⟨⟨r,ρ1⟩,e1,e⟩:=bind_some e;cases e;refine g Hz Jz O ρ σ H J r _ Q s e1 fun v H' J' s' k q=>?_
 obtain⟨J2,s2,k2,r2⟩:=s'.tell q;exact w v H' J2 s2 (k.trans k2) r2
def x2 (F:D->D->Option D)(f g:FX):FX:=fun ρ=>(f ρ).bind fun q=>(g q.2).bind fun r=>(F q.1 r.1).bind fun d=>some (d,r.2)
theorem zkt {r:R2}{F:D->D->Option D}{ta tb:TE}(im:Im2 K r F)(ga:GoX K ta fa)(gb:GoX K tb fb):GoX K (tOp r ta tb) (x2 F fa fb):=by
 intro Hz Jz O ρ σ H J d ρ' Q s e w;obtain⟨⟨x,ρ1⟩,ex,e⟩:=bind_some e;obtain⟨⟨y,ρ2⟩,ey,e⟩:=bind_some e;obtain⟨z,ez,e⟩:=bind_some e;cases e;refine ga Hz Jz O ρ σ H J x _ _ s ex fun v1 H1 J1 s1 k1 r1=>?_
 refine gb Hz Jz O ρ1 σ H1 J1 y _ _ s1 ey fun v2 H2 J2 s2 k2 r2=>?_
 exact im H2 J2 v1 v2 x y d Q s2.ja (.inl (r1.keep k2)) (.inl r2) ez fun v3 H3 J3 u3 r3=>w v3 H3 J3 (s2.up u3) ((k1.trans k2).trans u3.keep) r3
theorem zng {op:Operator}{r:R2}{F:D->D->Option D}(ho:OpR X (binaryOp op) r)(im:Im2 X.K r F)(ha:VX X a fa)(hb:VX X b fb):VX X (.BinOp a op b pos) (x2 F fa fb):=by
 obtain⟨ta,pa,ga⟩:=ha;obtain⟨tb,pb,gb⟩:=hb;exact⟨_,zmz ho pa pb,zkt im ga gb⟩
def axNil:FAX:=fun ρ=>some ([],ρ)
def axCons (f:FX)(g:FAX):FAX:=fun ρ=>(f ρ).bind fun q=>(g q.2).bind fun r=>some (q.1::r.1,r.2)
theorem zew:VAX X [] axNil:=⟨_,zbA,fun Hz Jz O ρ σ H J ds ρ' Q s e w=>by cases e;exact w [] H J s Keep.refl .nil⟩
theorem zaw (ha:VX X e fa)(hr:VAX X es fl)(hs:starEach (e::es) X.env=(false,eval e X.env)::starEach es X.env:=by rfl):VAX X (e::es) (axCons fa fl):=by
 obtain⟨t,p,g⟩:=ha;obtain⟨t2,p2,g2⟩:=hr;refine⟨_,zaC p p2 hs,?_⟩;intro Hz Jz O ρ σ H J ds ρ' Q s e w;obtain⟨⟨x,ρ1⟩,ex,e⟩:=bind_some e;obtain⟨⟨xs,ρ2⟩,exs,e⟩:=bind_some e;cases e;refine g Hz Jz O ρ σ H J x _ _ s ex fun v1 H1 J1 s1 k1 r1=>?_
 refine g2 Hz Jz O ρ1 σ H1 J1 xs _ _ s1 exs fun vs H2 J2 s2 k2 r2=>?_
 exact w _ H2 J2 s2 (k1.trans k2) (.cons (r1.keep k2) r2)
def xTup (f:FAX):FX:=fun ρ=>(f ρ).bind fun q=>(mkT q.1).bind fun d=>some (d,q.2)
theorem zku {x1}(h:VAX X es fl):VX X (.Tuple es x1 pos) (xTup fl):=by
 obtain⟨t,p,g⟩:=h;refine⟨_,zhs p,?_⟩;intro Hz Jz O ρ σ H J d ρ' Q s e w;obtain⟨⟨xs,ρ1⟩,exs,e⟩:=bind_some e;obtain⟨d',ed,e⟩:=bind_some e;cases e;obtain⟨hl,rfl⟩:=zeq ed;refine g Hz Jz O ρ σ H J xs _ _ s exs fun vs H1 J1 s1 k1 r1=>⟨by rw[r1.length];exact zbZ hl,fun p hp=>?_⟩
 have un:=Up.new s1.ja hp (.tup vs)
 exact w _ _ _ (s1.up un) (k1.trans un.keep) (.tup (SqT.of zaf) (r1.keep un.keep))
def xLst (f:FAX):FR:=fun ρ=>(f ρ).bind fun q=>if q.1.length<=lim then some (.new 1 (.lst q.1),q.2) else none
theorem zkv (h:VAX X es fl):VR X (.List es pos) (xLst fl):=by
 obtain⟨t,p,g⟩:=h;refine⟨_,zht p,?_⟩;intro Hz Jz O ρ σ H J d ρ' Q s e w;obtain⟨⟨xs,ρ1⟩,exs,e⟩:=bind_some e;by_cases hl:xs.length<=lim
 ·have e:(if xs.length<=lim then some (RV.new 1 (.lst xs),ρ1) else none)=some (d,ρ'):=e
  rw[if_pos hl] at e;cases e;refine g Hz Jz O ρ σ H J xs _ _ s exs fun vs H1 J1 s1 k1 r1=>⟨by rw[r1.length];exact zbZ hl,fun p hp=>?_⟩
  have un:=Up.new s1.ja hp (.lst vs)
  exact w _ _ _ (s1.up un) (k1.trans un.keep) (zjg s1 un hp (fun j=>s1.ja p j hp) zaf (r1.keep un.keep))
 ·have e:(if xs.length<=lim then some (RV.new 1 (.lst xs),ρ1) else none)=some (d,ρ'):=e
  rw[if_neg hl] at e;cases e
theorem zlq (ha:VX X a fa)(hb:VX X b fb)(hs:zct b:=by exact fun _ _=>rfl):VX X (.Subscript a b pos) (x2 dIx fa fb):=by
 obtain⟨ta,pa,ga⟩:=ha;obtain⟨tb,pb,gb⟩:=hb;exact⟨_,zgW zgb pa pb hs,zkt zm7 ga gb⟩
def x1 (F:D->Option D)(f:FX):FX:=fun ρ=>(f ρ).bind fun q=>(F q.1).bind fun d=>some (d,q.2)
end
section
variable {X:Cx}{K:W.Frag}{H H' H1 H2 Hz:Hp}{J J' J1 J2 Jz:Addr->Prop}{ρ ρ':En}{σ:L2.St}{O:Pr}
theorem ST.chgsG {fp fp':Nat->List Addr}{is:Nat->Bool}(s:ST K Hz Jz O ρ σ H J)(w:Ow K Hz O ρ σ H J fp)(hl:ρ'.length=ρ.length)(h1:∀j,is j=false->ρ'[j]?=ρ[j]?/\fp' j=fp j)
 (h2:∀i,is i=true->∃n d d' v,ownD (ρ[i]?)=some (n,d)/\ρ'[i]?=some (putD (ρ[i]?) d')/\σ[i]?=some (some v)/\RpU K H' J' n v d' (fp' i)/\∀b∈fp' i,b∈fp i\/(Hz b=none/\∀j,b∉fp j))
 (nd:∀i,is i=true->(fp' i).Nodup) (nj:∀i,is i=true->∀b∈fp' i,¬J' b) (dj:∀i j,is i=true->is j=true->i≠j->∀b∈fp' i,b∉fp' j)
 (hs:∀b o,(∀i,is i=true->b∉fp i)->H b=some o->H' b=some o) (ha:∀b,H b≠none->H' b≠none) (jj:∀a,J a->J' a) (jn:∀a,J' a->J a\/H a=none) (ja:∀a,J' a->H' a≠none) :
 ST K Hz Jz O ρ' σ H' J'/\Ow K Hz O ρ' σ H' J' fp'/\Keep K H J H' J':=by
 have free:∀b,H b=none->Hz b=none:=fun b hb=>by
  cases e:Hz b with
  | none=>rfl
  | some o=>exact absurd hb (s.al b (by rw[e];simp))
 have kp:Keep K H J H' J':=⟨jj,fun p o j h=>hs p o (fun i _ hp=>w.nj i p hp j) h,fun p vs h=>by
  have ne:∀o,H p=some o->¬MutO o->∀i,is i=true->p∉fp i:=fun o ho nm i _ hp=>by
   obtain⟨o',e,m⟩:=(w.at' i).ru p hp;rw[ho] at e;cases e;exact nm m
  rcases h with(h | ⟨u,h⟩) | h
  ·exact .inl (.inl (hs p _ (ne _ h (fun z=>z)) h))
  ·exact .inl (.inr ⟨u,hs p _ (ne _ h (fun z=>z)) h⟩)
  ·exact .inr h⟩
 have slot:∀i,is i=true->∀b∈fp i,Hz b=none\/b∈O.fpo i:=fun i hi b hb=>by
  obtain⟨n,d,d',v,e1,_⟩:=h2 i hi;have q:=w.at' i
  match z:ρ[i]?,e1,q with
  | some (.own m e),_,q=>exact .inl (q.2 b hb)
  | some (.par m e),_,q=>exact q.2 b hb
 have ow':Ow K Hz O ρ' σ H' J' fp':=by
  refine⟨fun i=>?_,fun i=>?_,fun i b hb=>?_,fun i j ne b hb hb2=>?_⟩
  ·cases hi:is i with
   | false=>
     rw[(h1 i hi).1,(h1 i hi).2];exact(w.at' i).keep kp fun b hb o ho=>hs b o (fun j hj hb2=>w.dj i j (fun z=>by subst z;rw[hi] at hj;cases hj) b hb hb2) ho
   | true=>
     obtain⟨n,d,d',v,e1,e2,e3,e4,e5⟩:=h2 i hi;rw[e2];have q:=w.at' i
     match z:ρ[i]?,e1,q with
     | some (.own m e),e1,q=>
       cases e1;refine⟨⟨v,e3,e4⟩,fun b hb=>?_⟩;rcases e5 b hb with hb | hb
       ·exact q.2 b hb
       ·exact hb.1
     | some (.par m e),e1,q=>
       cases e1;refine⟨⟨v,e3,e4⟩,fun b hb=>?_⟩;rcases e5 b hb with hb | hb
       ·exact q.2 b hb
       ·exact .inl hb.1
  ·cases hi:is i with
   | false=>rw[(h1 i hi).2];exact w.nd i
   | true=>exact nd i hi
  ·cases hi:is i with
   | false=>
     rw[(h1 i hi).2] at hb;intro jb;rcases jn b jb with jb | jb
     ·exact w.nj i b hb jb
     ·obtain⟨o,e,_⟩:=(w.at' i).ru b hb;rw[e] at jb;cases jb
   | true=>exact nj i hi b hb
  ·have cross:∀i j,i≠j->is i=true->is j=false->b∈fp' i->b∈fp' j->False:=fun i j ne hi hj hb hb2=>by
    rw[(h1 j hj).2] at hb2;obtain⟨_,_,_,_,_,_,_,_,e5⟩:=h2 i hi;rcases e5 b hb with h | h
    ·exact w.dj i j ne b h hb2
    ·exact h.2 j hb2
   cases hi:is i with
   | true=>
     cases hj:is j with
     | true=>exact dj i j hi hj ne b hb hb2
     | false=>exact cross i j ne hi hj hb hb2
   | false=>
     cases hj:is j with
     | true=>exact cross j i (Ne.symm ne) hj hi hb2 hb
     | false=>
       rw[(h1 i hi).2] at hb;rw[(h1 j hj).2] at hb2;exact w.dj i j ne b hb hb2
 refine⟨⟨fun b o hb h=>hs b o (fun i hi hb2=>?_) (s.same b o hb h),fun a h=>jj a (s.j0 a h),fun a h=>?_,ja,by rw[hl];exact s.len,fun j e h=>?_,⟨fp',ow'⟩,fun q hq=>?_,fun b h=>ha b (s.al b h)⟩,ow',kp⟩
 ·rcases slot i hi b hb2 with h2 | h2
  ·rw[h2] at h;cases h
  ·exact hb ⟨i,h2⟩
 ·rcases jn a h with h | h
  ·exact s.jn a h
  ·exact .inr (free a h)
 ·cases hj:is j with
  | false=>
    rw[(h1 j hj).1] at h;obtain⟨v,e1,r1⟩:=s.vl j e h;exact⟨v,e1,r1.keep kp⟩
  | true=>
    obtain⟨n,d,d',v,e1,e2,_⟩:=h2 j hj;rw[e2] at h;match z:ρ[j]?,e1 with
    | some (.own m e),_=>rw[z] at h;cases h
    | some (.par m e),_=>rw[z] at h;cases h
 ·obtain⟨e1,d,h⟩:=s.ps q hq;refine⟨e1,?_⟩;cases hj:is q.1 with
  | false=>rw[(h1 _ hj).1];exact⟨d,h⟩
  | true=>
    obtain⟨n,d0,d',v,_,e2,_⟩:=h2 _ hj;rw[e2,h];exact⟨d',rfl⟩
theorem ST.chgs {fp fp':Nat->List Addr}{is:Nat->Bool}(s:ST K Hz Jz O ρ σ H J)(w:Ow K Hz O ρ σ H J fp)(hl:ρ'.length=ρ.length)(h1:∀j,is j=false->ρ'[j]?=ρ[j]?/\fp' j=fp j)
 (h2:∀i,is i=true->∃n d d' v,ownD (ρ[i]?)=some (n,d)/\ρ'[i]?=some (putD (ρ[i]?) d')/\σ[i]?=some (some v)/\RpU K H' J' n v d' (fp' i)/\∀b∈fp' i,b∈fp i\/H b=none)
 (nd:∀i,is i=true->(fp' i).Nodup) (nj:∀i,is i=true->∀b∈fp' i,¬J' b) (dj:∀i j,is i=true->is j=true->i≠j->∀b∈fp' i,b∉fp' j)
 (hs:∀b o,(∀i,is i=true->b∉fp i)->H b=some o->H' b=some o) (ha:∀b,H b≠none->H' b≠none) (jj:∀a,J a->J' a) (jn:∀a,J' a->J a\/H a=none) (ja:∀a,J' a->H' a≠none) :
 ST K Hz Jz O ρ' σ H' J'/\Ow K Hz O ρ' σ H' J' fp'/\Keep K H J H' J':=by
 refine s.chgsG w hl h1 (fun i hi=>?_) nd nj dj hs ha jj jn ja;obtain⟨n,d,d',v,e1,e2,e3,e4,e5⟩:=h2 i hi;refine⟨n,d,d',v,e1,e2,e3,e4,fun b hb=>?_⟩;rcases e5 b hb with h | h
 ·exact .inl h
 ·right
  refine⟨?_,fun j hj=>?_⟩
  ·cases e:Hz b with
   | none=>rfl
   | some o=>exact absurd h (s.al b (by rw[e];simp))
  ·obtain⟨o,e,_⟩:=(w.at' j).ru b hj;rw[h] at e;cases e
def zoH (K:W.Frag)(H:Hp)(J:Addr->Prop)(k:Option (Option Nat))(v:Option V)(d:Option D)(A:List Addr):Prop:=match k with
 | some none=>∃u e,v=some u/\d=some e/\Rp K H J u e/\A = []
 | some (some n)=>∃a e,v=some (.ref a)/\d=some e/\RpU K H J n (.ref a) e A
 | none=>A = []
structure ArgsG (K:W.Frag)(H:Hp)(J:Addr->Prop)(ks:List (Option Nat))(vs:List V)(ds:List D)(fp:Nat->List Addr):Prop where
 l1:vs.length=ks.length
 l2:ds.length=ks.length
 at':∀i,zoH K H J (ks[i]?) (vs[i]?) (ds[i]?) (fp i)
 nd:∀i,(fp i).Nodup
 nj:∀i,∀b∈fp i,¬J b
 dj:∀i j,i≠j->∀b∈fp i,b∉fp j
def ResG (K:W.Frag)(H:Hp)(H':Hp)(J':Addr->Prop)(fp':Nat->List Addr)(v:V):RV->Prop
 | .told d=>Rp K H' J' v d
 | .new n d=>∃A,RpU K H' J' n v d A/\A.Nodup/\(∀b∈A,¬J' b/\H b=none)/\∀i:Nat,∀b∈A,b∉fp' i
structure PostG (K:W.Frag)(H:Hp)(J:Addr->Prop)(ks:List (Option Nat))(vs:List V)(fp:Nat->List Addr)(r:RV)(es:List D)(v:V)(H':Hp)(J':Addr->Prop)(fp':Nat->List Addr):Prop where
 hs:∀b o,(∀i,b∉fp i)->H b=some o->H' b=some o
 al:∀b,H b≠none->H' b≠none
 jj:∀a,J a->J' a
 jn:∀a,J' a->J a\/H a=none
 ja:∀a,J' a->H' a≠none
 own:∀i n,ks[i]?=some (some n)->∃a e,vs[i]?=some (.ref a)/\es[i]?=some e/\RpU K H' J' n (.ref a) e (fp' i)/\∀b∈fp' i,b∈fp i\/H b=none
 nd:∀i,(fp' i).Nodup
 nj:∀i,∀b∈fp' i,¬J' b
 dj:∀i j,i≠j->∀b∈fp' i,b∉fp' j
 res:ResG K H H' J' fp' v r
def spG (K:W.Frag)(ks:List (Option Nat))(F:List D->Option (RV×List D)):Sp:=fun vs H Q _=>∃J ds r es fp,(∀a,J a->H a≠none)/\ArgsG K H J ks vs ds fp/\F ds=some (r,es)/\∀v H' J' fp',PostG K H J ks vs fp r es v H' J' fp'->Q v H'
def inSl:List (Option Nat)->List D->En
 | none::ks,d::ds=>.val d::inSl ks ds
 | some n::ks,d::ds=>.par n d::inSl ks ds
 | _,_=>[]
def slOf:Option (Option Nat)->Option D->Option SV
 | some none,some d=>some (.val d)
 | some (some n),some d=>some (.par n d)
 | _,_=>none
theorem zex:∀(ks:List (Option Nat)) (ds:List D) (i:Nat),ks.length=ds.length->(inSl ks ds)[i]?=slOf (ks[i]?) (ds[i]?)
 | [],[],i,_=>by simp[inSl,slOf]
 | none::ks,d::ds,0,_=>by simp[inSl,slOf]
 | some n::ks,d::ds,0,_=>by simp[inSl,slOf]
 | none::ks,d::ds,i+1,h=>by simpa[inSl] using zex ks ds i (by simpa using h)
 | some n::ks,d::ds,i+1,h=>by simpa[inSl] using zex ks ds i (by simpa using h)
 | [],_::_,_,h=>by simp at h
 | _::_,[],_,h=>by simp at h
theorem zcN:∀(ks:List (Option Nat)) (ds:List D),ks.length=ds.length->(inSl ks ds).length=ks.length
 | [],[],_=>rfl
 | none::ks,d::ds,h=>by simp[inSl,zcN ks ds (by simpa using h)]
 | some n::ks,d::ds,h=>by simp[inSl,zcN ks ds (by simpa using h)]
 | [],_::_,h=>by simp at h
 | _::_,[],h=>by simp at h
def outSl:List (Option Nat)->En->Option (List D)
 | [],_=>some []
 | none::ks,_::ρ=>(outSl ks ρ).bind fun es=>some (.non::es)
 | some _::ks,.par _ d::ρ=>(outSl ks ρ).bind fun es=>some (d::es)
 | _,_=>none
theorem zdz:∀{ks:List (Option Nat)}{ρ:En}{es:List D}{i n:Nat}{m:Nat}{d:D},outSl ks ρ=some es->ks[i]?=some (some n)->ρ[i]?=some (.par m d)->es[i]?=some d
 | [],_,_,_,_,_,_,_,h,_=>by simp at h
 | none::ks,x::ρ,es,i,n,m,d,e,h1,h2=>by
   obtain⟨es',e1,e⟩:=bind_some (show((outSl ks ρ).bind fun es=>some (D.non::es))=some es from e);cases e;match i,h1,h2 with
   | 0,h1,_=>simp at h1
   | i+1,h1,h2=>simpa using zdz (n:=n) (m:=m) e1 (by simpa using h1) (by simpa using h2)
 | some k::ks,.par m' d'::ρ,es,i,n,m,d,e,h1,h2=>by
   obtain⟨es',e1,e⟩:=bind_some (show((outSl ks ρ).bind fun es=>some (d'::es))=some es from e);cases e;match i,h1,h2 with
   | 0,h1,h2=>simp at h2;simp[h2.2]
   | i+1,h1,h2=>simpa using zdz (n:=n) (m:=m) e1 (by simpa using h1) (by simpa using h2)
def psAt (i:Nat):Option (Option Nat)->Option V->Option (Nat×Addr×Nat)
 | some (some n),some (.ref a)=>some (i,a,n)
 | _,_=>none
def psOf (ks:List (Option Nat))(vs:List V):List (Nat×Addr×Nat):=(List.range ks.length).filterMap fun i=>psAt i (ks[i]?) (vs[i]?)
theorem mem_psOf {ks:List (Option Nat)}{vs:List V}{q:Nat×Addr×Nat}:q∈psOf ks vs↔ks[q.1]?=some (some q.2.2)/\vs[q.1]?=some (.ref q.2.1):=by
 unfold psOf;rw[wbO];constructor
 ·rintro⟨i,_,h⟩;unfold psAt at h;split at h
  ·rename_i n a h1 h2;cases h;exact⟨h1,h2⟩
  ·cases h
 ·rintro⟨h1,h2⟩;refine⟨q.1,wbo.mpr (wak.mp h1).1,?_⟩;rw[h1,h2];rfl
theorem ze4 {N:List Str}{ks:List (Option Nat)}{vs:List V}{ds:List D}{fp:Nat->List Addr}(ja:∀a,J a->H a≠none)(r:ArgsG K H J ks vs ds fp) :
 ST K H J ⟨psOf ks vs,fp⟩ (inSl ks ds++List.replicate (N.length - ks.length) .un) (start N vs) H J:=by
 have get:∀i:Nat,(inSl ks ds++List.replicate (N.length - ks.length) SV.un)[i]?=slOf (ks[i]?) (ds[i]?)\/(ks[i]?=none/\((inSl ks ds++List.replicate (N.length - ks.length) SV.un)[i]?=some SV.un\/(inSl ks ds++List.replicate (N.length - ks.length) SV.un)[i]?=none)):=fun i=>by
  by_cases hi:i<ks.length
  ·left
   rw[wbd (by rw[zcN ks ds r.l2.symm];exact hi),zex ks ds i r.l2.symm]
  ·right
   refine⟨waI (by omega),?_⟩;rw[wbH (by rw[zcN ks ds r.l2.symm];omega),List.getElem?_replicate];split
   ·exact .inl rfl
   ·exact .inr rfl
 have sg:∀(i:Nat) (v:V),vs[i]?=some v->(start N vs)[i]?=some (some v):=fun i v h=>by
  unfold L2.start;rw[wbd (by simp;exact(wak.mp h).1),wam,h];rfl
 refine⟨fun _ _ _ h=>h,fun _ h=>h,fun _ h=>.inl h,ja,by simp[L2.start,r.l1,zcN ks ds r.l2.symm],fun i d h=>?_,⟨fp,fun i=>?_,r.nd,r.nj,r.dj⟩,fun q hq=>?_,fun _ h=>h⟩
 ·have q:=r.at' i
  rcases get i with e | ⟨_,e | e⟩
  ·rw[e] at h;match z:ks[i]?,y:ds[i]?,h,q with
   | some none,some e',h,q=>
     cases h;obtain⟨u,e,h1,h2,h3,_⟩:=q;cases h2;exact⟨u,sg i u h1,h3⟩
  ·rw[e] at h;cases h
  ·rw[e] at h;cases h
 ·have q:=r.at' i
  rcases get i with e | ⟨e0,e | e⟩
  ·rw[e];match z:ks[i]?,y:ds[i]?,q with
   | some none,some e',q=>obtain⟨_,_,_,_,_,h⟩:=q;exact h
   | some (some n),some e',q=>
     obtain⟨a,e,h1,h2,h3⟩:=q;cases h2;exact⟨⟨_,sg i _ h1,h3⟩,fun b hb=>.inr hb⟩
   | none,_,q=>exact q
   | some none,none,q=>obtain⟨_,_,_,h,_⟩:=q;cases h
   | some (some n),none,q=>obtain⟨_,_,_,h,_⟩:=q;cases h
  ·rw[e];rw[e0] at q;exact q
  ·rw[e];rw[e0] at q;exact q
 ·obtain⟨h1,h2⟩:=mem_psOf.mp hq;refine⟨sg _ _ h2,?_⟩;have q':=r.at' q.1
  rw[h1] at q';obtain⟨a,e,_,h3,_⟩:=q';rcases get q.1 with g | ⟨g,_⟩
  ·rw[g,h1,h3];exact⟨e,rfl⟩
  ·rw[h1] at g;cases g
end
section
variable {P:Program}{w:World}{K:W.Frag}{mg:Str->Option Value}{base:Heap}
theorem zjh {ks:List (Option Nat)}{vs:List V}{ds:List D}{es:List D}{fp:Nat->List Addr}{r:RV}{H H':Hp}{J J':Addr->Prop}{ρ:En}{σ:L2.St}{v:V}(A:ArgsG K H J ks vs ds fp)(s:ST K H J ⟨psOf ks vs,fp⟩ ρ σ H' J')
 (q:RtAt K H ⟨psOf ks vs,fp⟩ ρ σ H' J' v r) (e:outSl ks ρ=some es):∃fp',PostG K H J ks vs fp r es v H' J' fp':=by
 have main:∀fp',Ow K H ⟨psOf ks vs,fp⟩ ρ σ H' J' fp'->ResG K H H' J' fp' v r->PostG K H J ks vs fp r es v H' J' fp':=fun fp' w hr=>
  ⟨fun b o hb h=>s.same b o (fun⟨i,hi⟩ =>hb i hi) h,s.al,s.j0,s.jn,s.ja,fun i n hk=>by
   have qa:=A.at' i
   rw[hk] at qa;obtain⟨a,e0,h1,_,_⟩:=qa;obtain⟨h2,d,h3⟩:=s.ps (i,a,n) (mem_psOf.mpr ⟨hk,h1⟩);have h2:σ[i]?=some (some (.ref a)):=h2
   have h3:ρ[i]?=some (.par n d):=h3
   have o:=w.at' i
   rw[h3] at o;obtain⟨⟨v',e1,ru⟩,hb⟩:=o;rw[h2] at e1;cases e1;exact⟨a,d,h1,zdz e hk h3,ru,fun b hb'=>(hb b hb').symm⟩,w.nd,w.nj,w.dj,hr⟩
 cases r with
 | told d=>
   obtain⟨fp',w⟩:=s.ow;exact⟨fp',main fp' w q⟩
 | new n d=>
   obtain⟨B,fp',w,ru,nd,hb,dj⟩:=q;exact⟨fp',main fp' w ⟨B,ru,nd,hb,dj⟩⟩
end
theorem RpU.isRef {K:W.Frag}{H:Hp}{J:Addr->Prop}{n:Nat}{v:V}{d:D}{A:List Addr}(h:RpU K H J (n+1) v d A):∃a,v=.ref a:=by
 cases h <;> exact⟨_,rfl⟩
abbrev FAG:=En->Option (List (Option D)×En)
def ArgV (K:W.Frag)(H:Hp)(J:Addr->Prop)(u:Option (Option V)):List V->List (Option D)->Prop
 | [],[]=>True
 | v::vs,none::as=>u=some (some v)/\ArgV K H J u vs as
 | v::vs,some d::as=>Rp K H J v d/\ArgV K H J u vs as
 | _,_=>False
def GoAG (K:W.Frag)(i:Nat)(t:TA)(f:FAG):Prop:=∀Hz Jz O ρ σ H J as ρ' Q,ST K Hz Jz O ρ σ H J->f ρ=some (as,ρ')->(∀vs H' J',ST K Hz Jz O ρ' σ H' J'->Keep K H J H' J'->ArgV K H' J' (σ[i]?) vs as->Q vs H')->t σ H Q
def VAG (X:Cx)(i:Nat)(es:List Expr)(f:FAG):Prop:=∃t,PA X es t/\GoAG X.K i t f
theorem ArgV.keep {K:W.Frag}{H H':Hp}{J J':Addr->Prop}{u:Option (Option V)}(k:Keep K H J H' J'):∀{vs:List V}{as:List (Option D)},ArgV K H J u vs as->ArgV K H' J' u vs as
 | [],[],_=>trivial
 | v::vs,none::as,h=>⟨h.1,ArgV.keep k h.2⟩
 | v::vs,some d::as,h=>⟨h.1.keep k,ArgV.keep k h.2⟩
 | [],_::_,h=>h.elim
 | _::_,[],h=>h.elim
theorem ArgV.length {K:W.Frag}{H:Hp}{J:Addr->Prop}{u:Option (Option V)}:∀{vs:List V}{as:List (Option D)},ArgV K H J u vs as->vs.length=as.length
 | [],[],_=>rfl
 | v::vs,none::as,h=>by simp[ArgV.length h.2]
 | v::vs,some d::as,h=>by simp[ArgV.length h.2]
 | [],_::_,h=>h.elim
 | _::_,[],h=>h.elim
theorem ArgV.get {K:W.Frag}{H:Hp}{J:Addr->Prop}{u:Option (Option V)}:∀{vs:List V}{as:List (Option D)}{j:Nat}{o:Option D},ArgV K H J u vs as->as[j]?=some o->∃v,vs[j]?=some v/\match o with | none=>u=some (some v) | some d=>Rp K H J v d
 | [],[],_,_,_,e=>by simp at e
 | v::vs,none::as,0,o,h,e=>by simp at e;subst e;exact⟨v,rfl,h.1⟩
 | v::vs,some d::as,0,o,h,e=>by simp at e;subst e;exact⟨v,rfl,h.1⟩
 | v::vs,none::as,j+1,o,h,e=>by simpa using ArgV.get (j:=j) (o:=o) h.2 (by simpa using e)
 | v::vs,some d::as,j+1,o,h,e=>by simpa using ArgV.get (j:=j) (o:=o) h.2 (by simpa using e)
 | [],_::_,_,_,h,_=>h.elim
 | _::_,[],_,_,h,_=>h.elim
section
variable {X:Cx}{K:W.Frag}{e:Expr}{es:List Expr}{fa:FX}{fl:FAG}{pos p:Pos}{i:Nat}
def agNil:FAG:=fun ρ=>some ([],ρ)
def agOwn (i:Nat)(f:FAG):FAG:=fun ρ=>if(ownD (ρ[i]?)).isSome=true then(f ρ).bind fun q=>some (none::q.1,q.2) else none
def agX (g:FX)(f:FAG):FAG:=fun ρ=>(g ρ).bind fun q=>(f q.2).bind fun r=>some (some q.1::r.1,r.2)
theorem zaN:VAG X i [] agNil:=⟨_,zbA,fun Hz Jz O ρ σ H J ds ρ' Q s e w=>by cases e;exact w [] H J s Keep.refl trivial⟩
theorem zcB (ha:VX X e fa)(hr:VAG X i es fl)(hs:starEach (e::es) X.env=(false,eval e X.env)::starEach es X.env:=by rfl):VAG X i (e::es) (agX fa fl):=by
 obtain⟨t,p,g⟩:=ha;obtain⟨t2,p2,g2⟩:=hr;refine⟨_,zaC p p2 hs,?_⟩;intro Hz Jz O ρ σ H J ds ρ' Q s e w;obtain⟨⟨x,ρ1⟩,ex,e⟩:=bind_some e;obtain⟨⟨xs,ρ2⟩,exs,e⟩:=bind_some e;cases e;refine g Hz Jz O ρ σ H J x _ _ s ex fun v1 H1 J1 s1 k1 r1=>?_
 refine g2 Hz Jz O ρ1 σ H1 J1 xs _ _ s1 exs fun vs H2 J2 s2 k2 r2=>?_
 exact w _ H2 J2 s2 (k1.trans k2) ⟨r1.keep k2,r2⟩
theorem zaO {x:Str}(hr:VAG X i es fl)(hN:X.N[i]?=some x:=by rfl)(hv:Vis X.env.scope x:=by first | exact Or.inl rfl | exact Or.inr (Or.inl rfl) | exact Or.inr (Or.inr rfl))(hd:(x == ("__debug__" : Str))=false:=by decide)(hcd:(x == ("__classdict__" : Str))=false:=by decide)
 (hs:starEach (.Name x p::es) X.env=(false,eval (.Name x p) X.env)::starEach es X.env:=by rfl):VAG X i (.Name x p::es) (agOwn i fl):=by
 obtain⟨t2,p2,g2⟩:=hr;refine⟨_,zaC (zb1 hN hv hd hcd) p2 hs,?_⟩;intro Hz Jz O ρ σ H J ds ρ' Q s e w;unfold agOwn at e;by_cases ho:(ownD (ρ[i]?)).isSome=true
 ·rw[if_pos ho] at e;obtain⟨⟨xs,ρ2⟩,exs,e⟩:=bind_some e;cases e;obtain⟨⟨n,d⟩,hq⟩:=Option.isSome_iff_exists.mp ho;obtain⟨v,A,hv,_⟩:=s.rd hq;refine⟨v,hv,?_⟩;refine g2 Hz Jz O ρ σ H J xs _ _ s exs fun vs H2 J2 s2 k2 r2=>?_
  exact w _ H2 J2 s2 k2 ⟨hv,r2⟩
 ·rw[if_neg ho] at e;cases e
def agK (n:Nat):Option D->Option Nat
 | none=>some n
 | some _=>none
def xCallG (ks:List (Option Nat))(p i n:Nat)(F:List D->Option (RV×List D))(f:FAG):FR:=fun ρ=>(f ρ).bind fun q=>
 if q.1.map (agK n)=ks then match ownD (q.2[i]?) with
  | some (m,d)=>if m=n then(F (q.1.map fun o=>o.getD d)).bind fun r=>(r.2[p]?).bind fun e=>some (r.1,setO q.2 i e) else none
  | none=>none
 else none
theorem zfO {ρ:En}{i j:Nat}{d:D}(h:j≠i):(setO ρ i d)[j]?=ρ[j]?:=by
 unfold setO;exact wad (Ne.symm h)
theorem zji {ks:List (Option Nat)}{q n:Nat}{F:List D->Option (RV×List D)}{t:TA}(hp:ks[q]?=some (some n))(h1:∀(j m:Nat),ks[j]?=some (some m)->j=q)(hn:n≠0)(g:GoAG K i t fl)(E:XK):GoR K (zgT (spG K ks F) [] E t) (xCallG ks q i n F fl):=by
 intro Hz Jz O ρ σ H J r ρ' Q s e w;obtain⟨⟨as,ρ1⟩,e1,e⟩:=bind_some e;have eA:(if as.map (agK n)=ks then match ownD (ρ1[i]?) with
  | some (m,d)=>if m=n then(F (as.map fun o=>o.getD d)).bind fun r=>(r.2[q]?).bind fun e=>some (r.1,setO ρ1 i e) else none
  | none=>none
 else none)=some (r,ρ'):=e
 by_cases hk:as.map (agK n)=ks
 ·rw[if_pos hk] at eA;cases ho:ownD (ρ1[i]?) with
  | none=>rw[ho] at eA;cases eA
  | some md=>
    obtain⟨m,d⟩:=md;rw[ho] at eA;have eB:(if m=n then(F (as.map fun o=>o.getD d)).bind fun r=>(r.2[q]?).bind fun e=>some (r.1,setO ρ1 i e) else none)=some (r,ρ'):=eA
    by_cases hm:m=n
    ·rw[if_pos hm] at eB;subst hm;obtain⟨⟨r',es⟩,e2,eC⟩:=bind_some eB;obtain⟨d',e3,eD⟩:=bind_some eC;cases eD;refine g Hz Jz O ρ σ H J as ρ1 _ s e1 fun vs H1 J1 s1 k1 r1=>?_
     obtain⟨fp,ow⟩:=s1.ow;have hi:i<ρ1.length:=by
      by_cases hi:i<ρ1.length
      ·exact hi
      ·rw[waI (by omega)] at ho;cases ho
     have hat:∃v,σ[i]?=some (some v)/\RpU K H1 J1 m v d (fp i):=by
      have o:=ow.at' i
      match z:ρ1[i]?,ho,o with
      | some (.own _ _),ho,o=>cases ho;exact o.1
      | some (.par _ _),ho,o=>cases ho;exact o.1
     obtain⟨v,hv,ru⟩:=hat
     have asq:as[q]?=some none:=by
      have:=hp
      rw[<-hk,wam] at this;cases z:as[q]? with
      | none=>rw[z] at this;cases this
      | some o=>rw[z] at this;cases o with
        | none=>rfl
        | some _=>simp[agK] at this
     have mpos:∃a,v=.ref a:=by
      cases m with
      | zero=>exact absurd rfl hn
      | succ m=>exact ru.isRef
     obtain⟨a,rfl⟩:=mpos;have vq:vs[q]?=some (.ref a):=by
      obtain⟨u,h1,h2⟩:=r1.get asq;have h2:σ[i]?=some (some u):=h2
      rw[hv] at h2;cases h2;exact h1
     have args:ArgsG K H1 J1 ks vs (as.map fun o=>o.getD d) (fun j=>if j=q then fp i else[]):=by
      refine⟨by rw[r1.length,<-hk,wao],by rw[wao,<-hk,wao],fun j=>?_,fun j=>?_,fun j b hb=>?_,fun j l ne b hb=>?_⟩
      ·rw[<-hk,wam,wam];cases z:as[j]? with
       | none=>
         have:j≠q:=fun h=>by rw[h,asq] at z;cases z
         show(if j=q then fp i else[]) = []
         rw[if_neg this]
       | some o=>
         cases o with
         | none=>
           have:j=q:=h1 j m (by rw[<-hk,wam,z];rfl)
           subst this;exact⟨a,d,vq,rfl,by rw[if_pos rfl];exact ru⟩
         | some x=>
           have:j≠q:=fun h=>by rw[h,asq] at z;cases z
           obtain⟨u,h1,h2⟩:=r1.get z;exact⟨u,x,h1,rfl,h2,by rw[if_neg this]⟩
      ·split
       ·exact ow.nd i
       ·exact wbf
      ·split at hb
       ·exact ow.nj i b hb
       ·cases hb
      ·split at hb
       ·rename_i z
        rw[if_neg (fun h=>ne (z.trans h.symm))];simp
       ·cases hb
     refine⟨J1,_,r',es,_,s1.ja,by rw[waC];exact args,e2,fun v' H' J' fp' pg=>?_⟩;rw[waC] at pg;obtain⟨a2,d2,h2,h3,ru2,hb2⟩:=pg.own q m hp;rw[vq] at h2;cases h2;rw[e3] at h3;cases h3;have hA:∀b:Addr,(∀j,b∉(if j=q then fp i else[]))↔b∉fp i:=fun b=>by
      constructor
      ·intro h;have:=h q;rwa [if_pos rfl] at this
      ·intro h j;split
       ·exact h
       ·simp
     have key:=s1.chgs (ρ':=setO ρ1 i d') (fp':=zhI fp i (fp' q)) (is:=fun j=>j == i) (H':=H') (J':=J') ow (by simp[setO]) (fun j hj=>?_) (fun j hj=>?_) (fun j hj=>?_) (fun j hj=>?_) (fun j l hj hl ne=>?_) (fun b o hb h=>pg.hs b o ((hA b).mpr (hb i (by simp))) h) pg.al pg.jj pg.jn pg.ja
     ·obtain⟨s2,ow2,k2⟩:=key;refine w v' H' J' s2 (k1.trans k2) ?_;have res:=pg.res
      cases r' with
      | told d0=>exact res
      | new n0 d0=>
        obtain⟨B,ruB,ndB,hB,djB⟩:=res;refine⟨B,zhI fp i (fp' q),ow2,ruB,ndB,fun b hb=>⟨(hB b hb).1,?_⟩,fun j b hb=>?_⟩
        ·cases z:Hz b with
         | none=>rfl
         | some o=>exact absurd (hB b hb).2 (s1.al b (by rw[z];simp))
        ·by_cases hj:j=i
         ·subst hj;rw[za1];exact djB q b hb
         ·rw[zbt hj];intro hb2;obtain⟨o,ho',_⟩:=(ow.at' j).ru b hb2;rw[(hB b hb).2] at ho';cases ho'
     ·have hj':j≠i:=by simpa using hj
      exact⟨zfO hj',zbt hj'⟩
     ·have hj':j=i:=by simpa using hj
      subst hj';refine⟨m,d,d',.ref a,ho,wap hi,hv,by rw[za1];exact ru2,fun b hb=>?_⟩;rw[za1] at hb;have:=hb2 b hb
      rwa [if_pos rfl] at this
     ·have hj':j=i:=by simpa using hj
      subst hj';rw[za1];exact pg.nd q
     ·have hj':j=i:=by simpa using hj
      subst hj';rw[za1];exact pg.nj q
     ·have hj':j=i:=by simpa using hj
      have hl':l=i:=by simpa using hl
      exact absurd (hj'.trans hl'.symm) ne
    ·rw[if_neg hm] at eB;cases eB
 ·rw[if_neg hk] at eA;cases eA
def zkw (ks:List (Option Nat))(q:Nat):Bool:=(List.range ks.length).all fun j=>match ks[j]? with
 | some (some _)=>j == q
 | _=>true
theorem zhR {ks:List (Option Nat)}{q:Nat}(h:zkw ks q=true)(j m:Nat)(hj:ks[j]?=some (some m)):j=q:=by
 have:=waQ.mp h j (wbo.mpr (wak.mp hj).1)
 rw[hj] at this;simpa using this
theorem zaP (q i n:Nat){k k':Nat}{x:Str}{ps:List Str}{ks:List (Option Nat)}{F:List D->Option (RV×List D)}(C:Cal X.prog X.w X.K X.mg X.base k x ps (spG X.K ks F))(hr:Room k' X.A)(ha:VAG X i (e::es) fl)(hp:ks[q]?=some (some n):=by rfl)(ho:zkw ks q=true:=by decide)(hn:n≠0:=by decide)(hk:k<=k':=by decide)(hg:Gl X x:=by rfl)(hdb:(x == ("__debug__" : Str))=false:=by decide)
 (he:starEach (e::es) X.env=(false,eval e X.env)::starEach es X.env:=by rfl) (hpl:(backTo pos (starEach es X.env)).any (·.1)=false:=by rfl):VR X (.Call (.Name x p) (e::es) [] pos) (xCallG ks q i n F fl):=by
 obtain⟨t,p,g⟩:=ha;exact⟨_,pc C hr p hk hg hdb he hpl,zji hp (zhR ho) hn g _⟩
def xCallN (ks:List (Option Nat))(F:List D->Option (RV×List D))(f:FAX):FR:=fun ρ=>(f ρ).bind fun q=>(F q.1).bind fun r=>if q.1.length=ks.length then some (r.1,q.2) else none
theorem ArgsG.plain {H:Hp}{J:Addr->Prop}{vs:List V}{ds:List D}{ks:List (Option Nat)}(r:RpL K H J vs ds)(hk:ds.length=ks.length)(hn:ks.all (·.isNone)=true):ArgsG K H J ks vs ds (fun _=>[]):=by
 refine⟨by rw[r.length,hk],hk,fun j=>?_,fun _=>wbf,fun _ b hb=>absurd hb (by simp),fun _ _ _ b hb=>absurd hb (by simp)⟩;cases z:ks[j]? with
 | none=>rfl
 | some o=>
   have:=waQ.mp hn o (waA z)
   cases o with
   | some _=>cases this
   | none=>
     have hj:j<ds.length:=by rw[hk];exact(wak.mp z).1
     obtain⟨v,hv,rv⟩:=r.get (wat hj);exact⟨v,ds[j],hv,wat hj,rv,rfl⟩
theorem zjj {fl:FAX}{ks:List (Option Nat)}{F:List D->Option (RV×List D)}{t:TA}(hn:ks.all (·.isNone)=true)(g:GoAX K t fl)(E:XK):GoR K (zgT (spG K ks F) [] E t) (xCallN ks F fl):=by
 intro Hz Jz O ρ σ H J r ρ' Q s e w;obtain⟨⟨ds,ρ1⟩,e1,eA⟩:=bind_some e;obtain⟨⟨r',es⟩,e2,eB⟩:=bind_some eA;have eB:(if ds.length=ks.length then some (r',ρ1) else none)=some (r,ρ'):=eB
 by_cases hl:ds.length=ks.length
 ·rw[if_pos hl] at eB;cases eB;refine g Hz Jz O ρ σ H J ds _ _ s e1 fun vs H1 J1 s1 k1 r1=>?_
  refine⟨J1,ds,_,es,_,s1.ja,by rw[waC];exact ArgsG.plain r1 hl hn,e2,fun v H2 J2 fp' pg=>?_⟩;have u:Up H1 J1 H2 J2:=⟨fun b o h=>pg.hs b o (fun _=>by simp) h,pg.jj,pg.jn,pg.ja⟩
  refine w v H2 J2 (s1.up u) (k1.trans u.keep) ?_;have res:=pg.res
  cases r with
  | told d0=>exact res
  | new n0 d0=>
    obtain⟨B,ruB,ndB,hB,_⟩:=res;obtain⟨fp,ow⟩:=s1.ow;refine⟨B,fp,⟨fun i=>(ow.at' i).keep u.keep fun b _=>u.same b,ow.nd,fun i b hb jb=>?_,ow.dj⟩,ruB,ndB,fun b hb=>⟨(hB b hb).1,?_⟩,fun j b hb hb2=>?_⟩
    ·rcases u.jn b jb with jb | jb
     ·exact ow.nj i b hb jb
     ·obtain⟨o,e,_⟩:=(ow.at' i).ru b hb;rw[e] at jb;cases jb
    ·cases z:Hz b with
     | none=>rfl
     | some o=>exact absurd (hB b hb).2 (s1.al b (by rw[z];simp))
    ·obtain⟨o,ho,_⟩:=(ow.at' j).ru b hb2;rw[(hB b hb).2] at ho;cases ho
 ·rw[if_neg hl] at eB;cases eB
end
section
variable {X:Cx}{K:W.Frag}{a b c e:Expr}{es:List Expr}{fa fb:FX}{fe:FE}{ft:FTX}{fl:FAX}{fr:FR}{g g2:FS}{pos p:Pos}
def gSetX (i:Nat)(f:FX):FS:=fun ρ=>(f ρ).bind fun q=>if i<q.2.length/\isPar (q.2[i]?)=false then some (.nx (q.2.set i (.val q.1))) else none
theorem zdA {i:Nat}{x:Str}{pos':Pos}(hN:X.N.Nodup)(hi:X.N[i]?=some x)(hx:Loc X.env.scope x)(h:VX X e fa)(hs:swapsWith e (some (.Name x pos')) pos.line X.env=pure false:=by rfl)(hf:X.fn x=true\/X.env.scope.names.lookup x=some .local:=by first | exact .inl rfl | exact .inr rfl | assumption) :
 VS X (.Assign [.Name x pos'] e pos) (gSetX i fa):=by
 obtain⟨t,p,q⟩:=h;refine⟨_,zeL hN hi hx p hs hf,?_⟩;intro Hz Jz O ρ σ H J o E s e w;obtain⟨⟨d,ρ1⟩,e1,eA⟩:=bind_some e;have eA:(if i<ρ1.length/\isPar (ρ1[i]?)=false then some (Out.nx (ρ1.set i (.val d))) else none)=some o:=eA
 by_cases hi:i<ρ1.length/\isPar (ρ1[i]?)=false
 ·rw[if_pos hi] at eA;cases eA;exact q Hz Jz O ρ σ H J d ρ1 _ s e1 fun v H' J' s' k r=>w _ H' J' (s'.set r hi.1 (za2 hi.2)) k
 ·rw[if_neg hi] at eA;cases eA
theorem ST.take {Hz H:Hp}{Jz J:Addr->Prop}{O:Pr}{ρ:En}{σ:L2.St}{i n:Nat}{v:V}{d:D}(s:ST K Hz Jz O ρ σ H J)(q:RtAt K Hz O ρ σ H J v (.new n d))(hi:i<ρ.length)(hp:∀n d,ρ[i]?≠some (.par n d)):ST K Hz Jz O (ρ.set i (.own n d)) (σ.set i (some v)) H J:=by
 obtain⟨A,fp,w,r,nd,hA,dj⟩:=q;refine⟨s.same,s.j0,s.jn,s.ja,by simp[s.len],fun j e h=>?_,?_,fun q hq=>?_,s.al⟩
 ·rcases zcw h with⟨rfl,he⟩ | ⟨ne,h⟩
  ·cases he
  ·rw[wad (Ne.symm ne)];exact s.vl j e h
 ·refine⟨_,w.put (i:=i) (A:=A) Keep.refl (fun _ _ _ _ _ h=>h) (fun j _=>w.nj j) (fun j e=>wad (Ne.symm e)) (fun j e=>wad (Ne.symm e)) ?_ nd (fun b hb=>(hA b hb).1) (fun j _ b hb=>dj j b hb)⟩;rw[wap hi,wap (by rw[s.len];exact hi)];exact⟨⟨v,rfl,r⟩,fun b hb=>(hA b hb).2⟩
 ·have e:=s.psNe hp q hq
  rw[wad (Ne.symm e),wad (Ne.symm e)];exact s.ps q hq
def gOwnR (i:Nat)(f:FR):FS:=fun ρ=>(f ρ).bind fun q=>match q.1 with
 | .new n d=>if i<q.2.length/\isPar (q.2[i]?)=false then some (.nx (q.2.set i (.own n d))) else none
 | .told _=>none
theorem zhS {i:Nat}{x:Str}{pos':Pos}(hN:X.N.Nodup)(hi:X.N[i]?=some x)(hx:Loc X.env.scope x)(h:VR X e fr)(hs:swapsWith e (some (.Name x pos')) pos.line X.env=pure false:=by rfl)(hf:X.fn x=true\/X.env.scope.names.lookup x=some .local:=by first | exact .inl rfl | exact .inr rfl | assumption) :
 VS X (.Assign [.Name x pos'] e pos) (gOwnR i fr):=by
 obtain⟨t,p,q⟩:=h;refine⟨_,zeL hN hi hx p hs hf,?_⟩;intro Hz Jz O ρ σ H J o E s e w;obtain⟨⟨r,ρ1⟩,e1,eA⟩:=bind_some e;cases r with
 | told d=>cases eA
 | new n d=>
   have eA:(if i<ρ1.length/\isPar (ρ1[i]?)=false then some (Out.nx (ρ1.set i (.own n d))) else none)=some o:=eA
   by_cases hi:i<ρ1.length/\isPar (ρ1[i]?)=false
   ·rw[if_pos hi] at eA;cases eA;exact q Hz Jz O ρ σ H J _ ρ1 _ s e1 fun v H' J' s' k r=>w _ H' J' (s'.take r hi.1 (za2 hi.2)) k
   ·rw[if_neg hi] at eA;cases eA
def isL1:Option (Nat×D)->Bool
 | some (1,.lst _)=>true
 | _=>false
theorem zlr {x:Option (Nat×D)}(h:isL1 x=true):∃ds,x=some (1,.lst ds):=by
 match x,h with
 | some (1,.lst ds),_=>exact⟨ds,rfl⟩
def gAppX (i:Nat)(f:FX):FS:=fun ρ=>if isL1 (ownD (ρ[i]?))=true then(f ρ).bind fun q=>match ownD (q.2[i]?) with
 | some (1,.lst ds)=>if ds.length<lim then some (.nx (setO q.2 i (.lst (ds++[q.1])))) else none
 | _=>none
 else none
theorem zls {i:Nat}{t:TE}(q:GoX K t fa):GoS K (ziV (tBM K "list" zeo (tVar i) (zi0 t tNil))) (gAppX i fa):=by
 intro Hz Jz O ρ σ H J o E s e w;unfold gAppX at e;by_cases h0:isL1 (ownD (ρ[i]?))=true
 ·rw[if_pos h0] at e;obtain⟨ds0,z0⟩:=zlr h0;obtain⟨⟨d,ρ1⟩,e1,eA⟩:=bind_some e;obtain⟨a,vs0,ha,hv0,_,_⟩:=s.top (H':=H) (es:=[]) z0;refine⟨.ref a,ha,.inl ⟨rfl,vs0,SqL.of hv0⟩,?_⟩;refine q Hz Jz O ρ σ H J d ρ1 _ s e1 fun v H1 J1 s1 k1 r1=>?_
  split at eA
  ·rename_i ds z
   by_cases hl:ds.length<lim
   ·rw[if_pos hl] at eA;cases eA;obtain⟨a',vs',ha',hv',rl,go⟩:=s1.top (H':=H) (es:=[]) z;rw[ha] at ha';cases ha';refine⟨a,vs',v,rfl,rfl,hv',by rw[rl.length];exact waj hl (waW zd4),?_⟩;obtain⟨s2,k2⟩:=go (vs'++[v]) (ds++[d]) (rl.append (.cons r1 .nil));exact w σ _ J1 s2 (k1.trans k2)
   ·rw[if_neg hl] at eA;cases eA
  ·cases eA
 ·rw[if_neg h0] at e;cases e
theorem zlt (i:Nat){x:Str}{xp apos cpos:Pos}(h:VX X e fa)(hN:X.N[i]?=some x:=by rfl)(hv:Vis X.env.scope x:=by first | exact Or.inl rfl | exact Or.inr (Or.inl rfl) | exact Or.inr (Or.inr rfl))(hd:(x == ("__debug__" : Str))=false:=by decide)
 (hcd:(x == ("__classdict__" : Str))=false:=by decide) (h1:starEach [e] X.env=(false,eval e X.env)::starEach [] X.env:=by rfl)
 (hbase:attributeBase (.Name x xp) "append" X.env (eval (.Name x xp) X.env)=eval (.Name x xp) X.env:=by rfl)
 (hfew:((backTo cpos (starEach [e] X.env)).all (fun x=>!x.1)&&(backToKw cpos (keywordEach [] X.env)).all (fun x=>x.1.isSome)
  && decide ([e].length+([]:List Keyword).length+(if([]:List Keyword).isEmpty then 0 else 1)<30))=true:=by rfl)
 (hline:(apos.endLine == cpos.line)=true:=by rfl) (hs:starEach [e] X.env = [(false,eval e X.env)]:=by rfl) (hsw:swapsWith (.Call (.Attribute (.Name x xp) "append" apos) [e] [] cpos) none pos.line X.env=pure false:=by rfl) :
 VS X (.Expr (.Call (.Attribute (.Name x xp) "append" apos) [e] [] cpos) pos) (gAppX i fa):=by
 obtain⟨t,p,q⟩:=h;exact⟨_,zei (papp (zb1 hN hv hd hcd) (zaC p zbA h1) hbase hfew hline hs) hsw,zls q⟩
def gPutL (i:Nat)(fk:FE)(f:FX):FS:=fun ρ=>(f ρ).bind fun q=>(fk q.2).bind fun k=>(dInt k).bind fun k=>match ownD (q.2[i]?) with
 | some (1,.lst ds)=>(ixN ds.length k).bind fun j=>some (.nx (setO q.2 i (.lst (ds.set j q.1))))
 | _=>none
theorem zhT (i:Nat){x:Str}{xp sp:Pos}{fk:FE}(h:VX X e fa)(hk:VE X a fk)(hN:X.N[i]?=some x:=by rfl)(hv:Vis X.env.scope x:=by first | exact Or.inl rfl | exact Or.inr (Or.inl rfl) | exact Or.inr (Or.inr rfl))(hd:(x == ("__debug__" : Str))=false:=by decide)(hcd:(x == ("__classdict__" : Str))=false:=by decide)
 (ha:∀v,assign (.Subscript (.Name x xp) a sp) X.env v=(do
  let ov <-holding [v] (eval (.Name x xp) X.env)
  let iv <-holding [v,ov] (eval a X.env)
  standAt sp
  holding [v,ov,iv] (setItem ov iv v)
  release [v,ov,iv] []):=by intro _;rfl)
 (hs:swapsWithSole [.Subscript (.Name x xp) a sp] e pos.line X.env=pure false:=by rfl) (hw:swappedStores [.Subscript (.Name x xp) a sp] e X.env=pure none:=by rfl) (h1:(assignEach [.Subscript (.Name x xp) a sp] X.env).map (·.2) = [assign (.Subscript (.Name x xp) a sp) X.env]:=by rfl) :
 VS X (.Assign [.Subscript (.Name x xp) a sp] e pos) (gPutL i fk fa):=by
 obtain⟨t,p,q⟩:=h;obtain⟨tk,pk,qk⟩:=hk;refine⟨_,zkb p (zka (zb1 hN hv hd hcd) pk zgc ha) hs hw h1,fun Hz Jz O ρ σ H J o E s e w=>?_⟩;obtain⟨⟨d,ρ1⟩,e1,eA⟩:=bind_some e;obtain⟨k,e2,eB⟩:=bind_some eA;obtain⟨kk,e3,eC⟩:=bind_some eB;refine q Hz Jz O ρ σ H J d ρ1 _ s e1 fun v H1 J1 s1 k1 r1=>?_
 split at eC
 ·rename_i ds z
  obtain⟨j,e4,eD⟩:=bind_some eC;cases eD;obtain⟨a0,vs0,ha0,_,_,_⟩:=s1.top (H':=H) (es:=[]) z;refine⟨.ref a0,ha0,?_⟩;refine qk Hz Jz O ρ1 σ H1 J1 k _ s1 e2 fun vk H2 J2 u2 rk=>?_
  have s2:=s1.up u2
  obtain⟨a1,vs1,ha1,hv1,rl,go⟩:=s2.top (H':=H) (es:=[]) z;rw[ha0] at ha1;cases ha1;cases k with
  | int k0=>
    cases e3;cases rk;refine⟨a0,vs1,kk,j,rfl,rfl,hv1,by rw[rl.length];exact e4,?_⟩;obtain⟨s3,k3⟩:=go (vs1.set j v) (ds.set j d) (rl.set j (r1.keep u2.keep));exact w σ _ J2 s3 ((k1.trans u2.keep).trans k3)
  | _=>cases e3
 ·cases eC
end
section
variable {X:Cx}{K:W.Frag}{fi fl:FAX}{fa:FX}{g:FS}{pos p:Pos}{ft:FT}{tg a b:Expr}
def keyD:D->Option Key
 | .int i=>some (.inl i)
 | .str x=>some (.inr x)
 | _=>none
theorem znh {H:Hp}{J:Addr->Prop}{v:V}{d:D}{k:Key}(r:RpW K H J v d)(h:keyD d=some k):v=kV k:=by
 cases d with
 | int i=>cases h;exact r.int
 | str x=>cases h;exact r.str
 | _=>cases h
end
section
variable {X:Cx}{K:W.Frag}{a b c e:Expr}{es:List Expr}{fa fb:FX}{fe fk fv:FE}{fl:FA}{pos p p2:Pos}
theorem ST.top2 {Hz H:Hp}{Jz J:Addr->Prop}{O:Pr}{ρ:En}{σ:L2.St}{i j:Nat}{ds es:List D}(s:ST K Hz Jz O ρ σ H J)(h0:ownD (ρ[i]?)=some (2,.lst ds))(hj:ds[j]?=some (.lst es)):∃a vs b us,σ[i]?=some (some (.ref a))/\H a=some (.lst vs)/\vs.length=ds.length/\vs[j]?=some (.ref b)/\H b=some (.lst us)/\RpL K H J us es/\
 (∀(us':List V) (es':List D),RpL K H J us' es'->ST K Hz Jz O (setO ρ i (.lst (ds.set j (.lst es')))) σ (upd H b (.lst us')) J/\Keep K H J (upd H b (.lst us')) J)/\
 (∀(H':Hp) (J':Addr->Prop) (q:Addr) (us':List V) (es':List D),Up H J H' J'->H q=none->¬J' q->H' q=some (.lst us')->RpL K H' J' us' es'->ST K Hz Jz O (setO ρ i (.lst (ds.set j (.lst es')))) σ (upd H' a (.lst (vs.set j (.ref q)))) J'/\Keep K H J (upd H' a (.lst (vs.set j (.ref q)))) J'):=by
 obtain⟨v,A,hv,r,nd,nj,go⟩:=s.chg h0;cases r with
 | lst ha rl=>
   rename_i a vs A
   obtain⟨w,A1,A2,A3,hw,rfl,rw',up⟩:=rl.split j hj;obtain⟨b,us,rfl,rfl,hb,ru⟩:=rw'.one;have hab:a≠b:=by
    rintro rfl;have:=(waF.mp nd).1
    exact this (by simp)
   have ndA:=(waF.mp nd).2
   have naA:=(waF.mp nd).1
   have hb13:∀x∈A1++A3,x≠b:=by
    intro x hx z;subst z;rw[wbs] at ndA;obtain⟨n1,n2,n3⟩:=ndA;rw[wcb,waF] at n2;rcases way.mp hx with h | h
    ·exact n3 x h x (by simp) rfl
    ·exact n2.1 h
   refine⟨a,vs,b,us,hv,ha,rl.length,hw,hb,ru,fun us' es' re=>?_,fun H' J' q us' es' u hq njq hq' re=>?_⟩
   ·have nja:¬J b:=nj b (by simp)
    have kp:Keep K H J (upd H b (.lst us')) J:=zcA hb nja
    refine go (upd H b (.lst us')) J (.lst (ds.set j (.lst es'))) (a::(A1++([b]++A3))) (fun c o hc h=>?_) (fun c h=>?_) (fun _ h=>h) (fun _ h=>.inl h) (fun c h=>?_) ?_ nd nj (fun c hc=>.inl hc)
    ·rw[zag (fun z=>hc (by simp[z]))];exact h
    ·by_cases z:c=b
     ·subst z;rw[zaf];simp
     ·rw[zag z];exact h
    ·by_cases z:c=b
     ·subst z;rw[zaf];simp
     ·rw[zag z];exact s.ja c h
    ·have vset:vs.set j (V.ref b)=vs:=by
      apply List.ext_getElem?;intro k;by_cases hk:k=j
      ·subst hk;rw[hw,wap (wak.mp hw).1]
      ·rw[wad (Ne.symm hk)]
     have:=up (upd H b (.lst us')) J (.ref b) (.lst es') [b] kp (fun c hc o ho=>by rw[zag (hb13 c hc)];exact ho) (.lst zaf (RpUL.of (re.keep kp)))
     rw[vset] at this;exact .lst (by rw[zag hab];exact ha) this
   ·have haH':=u.same _ _ ha
    have hqa:q≠a:=by rintro rfl;rw[ha] at hq;cases hq
    have nja:¬J' a:=fun z=>by
     rcases u.jn a z with z | z
     ·exact nj a (by simp) z
     ·rw[ha] at z;cases z
    have kp:Keep K H' J' (upd H' a (.lst (vs.set j (.ref q)))) J':=zcA haH' nja
    have qfree:∀c∈a::(A1++([b]++A3)),c≠q:=by
     intro c hc z;subst z;rcases wag.mp hc with rfl | hc
     ·rw[ha] at hq;cases hq
     ·obtain⟨o,e,_⟩:=rl.some c hc;rw[hq] at e;cases e
    refine(go (upd H' a (.lst (vs.set j (.ref q)))) J' (.lst (ds.set j (.lst es'))) (a::(A1++([q]++A3))) (fun c o hc h=>?_) (fun c h=>?_) u.jj u.jn (fun c h=>?_) ?_ ?_ (fun c hc=>?_) (fun c hc=>?_))
    ·rw[zag (fun z=>hc (by simp[z]))];exact u.same _ _ h
    ·by_cases z:c=a
     ·subst z;rw[zaf];simp
     ·rw[zag z];cases e:H c with
      | none=>exact absurd e h
      | some o=>rw[u.same _ _ e];simp
    ·by_cases z:c=a
     ·subst z;rw[zaf];simp
     ·rw[zag z];exact u.ja c h
    ·have:=up (upd H' a (.lst (vs.set j (.ref q)))) J' (.ref q) (.lst es') [q] (u.keep.trans kp) (fun c hc o ho=>by
      rw[zag (fun z=>naA (by rw[<-z];simp at hc⊢;rcases hc with hc | hc <;> simp[hc]))];exact u.same _ _ ho) (.lst (by rw[zag hqa];exact hq') (RpUL.of (re.keep kp)))
     exact .lst zaf this
    ·have h1:q∉a::(A1++([b]++A3)):=fun z=>qfree q z rfl
     rw[wbs] at ndA;obtain⟨n1,n2,n3⟩:=ndA;rw[wcb,waF] at n2;simp only[wag,way,not_or,waq] at h1;refine waF.mpr ⟨?_,wbs.mpr ⟨n1,?_,?_⟩⟩
     ·simp only[way,waq,not_or] at naA⊢;exact⟨naA.1,fun z=>h1.1 z.symm,naA.2.2⟩
     ·rw[wcb];exact waF.mpr ⟨h1.2.2.2,n2.2⟩
     ·intro x hx y hy z;subst z;rcases way.mp hy with hy | hy
      ·rw[waq.mp hy] at hx;exact h1.2.1 hx
      ·exact n3 x hx x (by simp[hy]) rfl
    ·simp only[wag,way,wcf,or_false] at hc;have old:c∈a::(A1++([b]++A3))->¬J' c:=fun h z=>by
      rcases u.jn c z with z | z
      ·exact nj c h z
      ·rcases wag.mp h with rfl | h
       ·rw[ha] at z;cases z
       ·obtain⟨o,e,_⟩:=rl.some c h;rw[z] at e;cases e
     rcases hc with rfl | hc | rfl | hc
     ·exact nja
     ·exact old (by simp[hc])
     ·exact njq
     ·exact old (by simp[hc])
    ·simp only[wag,way,wcf,or_false] at hc;rcases hc with rfl | hc | rfl | hc
     ·exact .inl (by simp)
     ·exact .inl (by simp[hc])
     ·exact .inr hq
     ·exact .inl (by simp[hc])
def eIx2 (i:Nat)(fk:FE):FE:=fun ρ=>(fk ρ).bind fun k=>(dInt k).bind fun k=>match ownD (ρ[i]?) with
 | some (2,.lst ds)=>(atI ds k).bind fun d=>match d with | .lst es=>some (.lst es) | _=>none
 | _=>none
theorem zkx (i:Nat){x:Str}{xp:Pos}(hk:VE X a fk)(hN:X.N[i]?=some x:=by rfl)(hv:Vis X.env.scope x:=by first | exact Or.inl rfl | exact Or.inr (Or.inl rfl) | exact Or.inr (Or.inr rfl))(hd:(x == ("__debug__" : Str))=false:=by decide)(hcd:(x == ("__classdict__" : Str))=false:=by decide)(hs:zct a:=by exact fun _ _=>rfl) :
 VW X (.Subscript (.Name x xp) a pos) (eIx2 i fk):=by
 obtain⟨t,p,g⟩:=hk;refine⟨_,zgW zgb (zb1 hN hv hd hcd) p hs,?_⟩;intro Hz Jz O ρ σ H J d Q s e w;obtain⟨k,e1,eA⟩:=bind_some e;obtain⟨kk,e2,eB⟩:=bind_some eA;split at eB
 ·rename_i ds z
  obtain⟨d1,e3,eC⟩:=bind_some eB;split at eC
  ·rename_i es
   cases eC;obtain⟨v,A,hv,r⟩:=s.rd z;refine⟨v,hv,?_⟩;refine g Hz Jz O ρ σ H J k _ s e1 fun vk H1 J1 u1 rk=>?_
   cases k with
   | int k0=>
     cases e2;cases rk;have r1:=r.keep u1.keep fun b _ o=>u1.same b o
     cases r1 with
     | lst ha rl=>
       unfold atI at e3;cases q:ixN ds.length kk with
       | none=>rw[q] at e3;cases e3
       | some j=>
         rw[q] at e3;obtain⟨u,A1,A2,A3,hu,_,ru,_⟩:=rl.split j e3;refine .inl ⟨_,_,kk,u,rfl,rfl,SqL.of ha,?_,w u H1 J1 u1 (.inr ⟨A2,ru⟩)⟩;unfold atI;rw[rl.length,q];exact hu
   | _=>cases e2
  ·cases eC
 ·cases eB
def zlu (i:Nat)(fk fv:FE):FS:=fun ρ=>(fk ρ).bind fun k=>(dInt k).bind fun k=>(fv ρ).bind fun d=>match ownD (ρ[i]?) with
 | some (2,.lst ds)=>(ixN ds.length k).bind fun j=>match ds[j]? with
   | some (.lst es)=>if es.length<lim then some (.nx (setO ρ i (.lst (ds.set j (.lst (es++[d])))))) else none
   | _=>none
 | _=>none
theorem zlv (i:Nat){x:Str}{xp sp apos cpos:Pos}(hk:VE X a fk)(h:VE X e fv)(hN:X.N[i]?=some x:=by rfl)(hv:Vis X.env.scope x:=by first | exact Or.inl rfl | exact Or.inr (Or.inl rfl) | exact Or.inr (Or.inr rfl))(hd:(x == ("__debug__" : Str))=false:=by decide)
 (hcd:(x == ("__classdict__" : Str))=false:=by decide) (hpi:zct a:=by exact fun _ _=>rfl) (h1:starEach [e] X.env=(false,eval e X.env)::starEach [] X.env:=by rfl)
 (hbase:attributeBase (.Subscript (.Name x xp) a sp) "append" X.env (eval (.Subscript (.Name x xp) a sp) X.env)=eval (.Subscript (.Name x xp) a sp) X.env:=by rfl)
 (hfew:((backTo cpos (starEach [e] X.env)).all (fun x=>!x.1)&&(backToKw cpos (keywordEach [] X.env)).all (fun x=>x.1.isSome)
  && decide ([e].length+([]:List Keyword).length+(if([]:List Keyword).isEmpty then 0 else 1)<30))=true:=by rfl)
 (hline:(apos.endLine == cpos.line)=true:=by rfl) (hs:starEach [e] X.env = [(false,eval e X.env)]:=by rfl) (hsw:swapsWith (.Call (.Attribute (.Subscript (.Name x xp) a sp) "append" apos) [e] [] cpos) none pos.line X.env=pure false:=by rfl) :
 VS X (.Expr (.Call (.Attribute (.Subscript (.Name x xp) a sp) "append" apos) [e] [] cpos) pos) (zlu i fk fv):=by
 obtain⟨tk,pk,qk⟩:=hk;obtain⟨t,p,q⟩:=h;refine⟨_,zei (papp (zgW zgb (zb1 hN hv hd hcd) pk hpi) (zaC p zbA h1) hbase hfew hline hs) hsw,?_⟩;intro Hz Jz O ρ σ H J o E s e w;obtain⟨k,e1,eA⟩:=bind_some e;obtain⟨kk,e2,eB⟩:=bind_some eA;obtain⟨d,e3,eC⟩:=bind_some eB;split at eC
 ·rename_i ds z
  obtain⟨j,e4,eD⟩:=bind_some eC;split at eD
  ·rename_i es ze
   by_cases hl:es.length<lim
   ·rw[if_pos hl] at eD;cases eD;obtain⟨v0,A0,hv0,r0⟩:=s.rd z;refine⟨v0,hv0,?_⟩;refine qk Hz Jz O ρ σ H J k _ s e1 fun vk H1 J1 u1 rk=>?_
    cases k with
    | int k0=>
      cases e2;cases rk;have s1:=s.up u1
      obtain⟨a1,vs1,b1,us1,ha1,hA1,hl1,hj1,hb1,ru1,_,_⟩:=s1.top2 z ze;rw[hv0] at ha1;cases ha1;refine .inl ⟨a1,vs1,kk,.ref b1,rfl,rfl,SqL.of hA1,by unfold atI;rw[hl1,e4];exact hj1,?_⟩;refine⟨.inl ⟨rfl,us1,SqL.of hb1⟩,?_⟩;refine q Hz Jz O ρ σ H1 J1 d _ s1 e3 fun v H2 J2 u2 r2=>?_
      have s2:=s1.up u2
      obtain⟨a2,vs2,b2,us2,ha2,hA2,hl2,hj2,hb2,ru2,go,_⟩:=s2.top2 z ze;rw[hv0] at ha2;cases ha2;have hA12:=u2.same _ _ hA1
      rw[hA2] at hA12;cases hA12;rw[hj2] at hj1;cases hj1;refine⟨b1,us2,v,rfl,rfl,hb2,by rw[ru2.length];exact waj hl (waW zd4),?_⟩;obtain⟨s3,k3⟩:=go (us2++[v]) (es++[d]) (ru2.append (.cons r2 .nil));exact w σ _ J2 s3 ((u1.trans u2).keep.trans k3)
    | _=>cases e2
   ·rw[if_neg hl] at eD;cases eD
  ·cases eD
 ·cases eC
def zlw (i:Nat)(fk:FE)(f:FA):FS:=fun ρ=>(f ρ).bind fun es=>(fk ρ).bind fun k=>(dInt k).bind fun k=>match ownD (ρ[i]?) with
 | some (2,.lst ds)=>(ixN ds.length k).bind fun j=>match ds[j]? with
   | some (.lst _)=>some (.nx (setO ρ i (.lst (ds.set j (.lst es)))))
   | _=>none
 | _=>none
theorem zlx (i:Nat){x:Str}{xp sp:Pos}(h:VN X e fl)(hk:VE X a fk)(hN:X.N[i]?=some x:=by rfl)(hv:Vis X.env.scope x:=by first | exact Or.inl rfl | exact Or.inr (Or.inl rfl) | exact Or.inr (Or.inr rfl))(hd:(x == ("__debug__" : Str))=false:=by decide)(hcd:(x == ("__classdict__" : Str))=false:=by decide)
 (ha:∀v,assign (.Subscript (.Name x xp) a sp) X.env v=(do
  let ov <-holding [v] (eval (.Name x xp) X.env)
  let iv <-holding [v,ov] (eval a X.env)
  standAt sp
  holding [v,ov,iv] (setItem ov iv v)
  release [v,ov,iv] []):=by intro _;rfl)
 (hs:swapsWithSole [.Subscript (.Name x xp) a sp] e pos.line X.env=pure false:=by rfl) (hw:swappedStores [.Subscript (.Name x xp) a sp] e X.env=pure none:=by rfl) (h1:(assignEach [.Subscript (.Name x xp) a sp] X.env).map (·.2) = [assign (.Subscript (.Name x xp) a sp) X.env]:=by rfl) :
 VS X (.Assign [.Subscript (.Name x xp) a sp] e pos) (zlw i fk fl):=by
 obtain⟨t,p,q⟩:=h;obtain⟨tk,pk,qk⟩:=hk;refine⟨_,zkb p (zka (zb1 hN hv hd hcd) pk zgc ha) hs hw h1,fun Hz Jz O ρ σ H J o E s e w=>?_⟩;obtain⟨es,e1,eA⟩:=bind_some e;obtain⟨k,e2,eB⟩:=bind_some eA;obtain⟨kk,e3,eC⟩:=bind_some eB;split at eC
 ·rename_i ds z
  obtain⟨j,e4,eD⟩:=bind_some eC;split at eD
  ·rename_i es0 ze
   cases eD;refine q Hz Jz O ρ σ H J es _ s e1 fun p1 us H1 J1 u1 hp1 nj1 hq1 r1=>?_
   obtain⟨v0,A0,hv0,r0⟩:=s.rd z;refine⟨v0,hv0,?_⟩;refine qk Hz Jz O ρ σ H1 J1 k _ (s.up u1) e2 fun vk H2 J2 u2 rk=>?_
   cases k with
   | int k0=>
     cases e3;cases rk;obtain⟨a0,vs0,b0,us0,ha0,hA0,hl0,hj0,hb0,ru0,_,go⟩:=s.top2 z ze;rw[hv0] at ha0;cases ha0;have u:=u1.trans u2
     have hq2:=u2.same _ _ hq1
     have nj2:¬J2 p1:=fun z=>by
      rcases u2.jn p1 z with z | z
      ·exact nj1 z
      ·rw[hq1] at z;cases z
     refine⟨a0,vs0,kk,j,rfl,rfl,u.same _ _ hA0,by rw[hl0];exact e4,?_⟩;obtain⟨s3,k3⟩:=go H2 J2 p1 us es u hp1 nj2 hq2 (r1.keep u2.keep);exact w σ _ J2 s3 k3
   | _=>cases e3
  ·cases eD
 ·cases eC
end
section
variable {X:Cx}{K:W.Frag}{elt iter tg:Expr}{ifs:List Expr}{scope:Scope}{pos:Pos}{NC:List Str}
def TNof (K:W.Frag)(f:FA):TE:=fun σ H Q=>∃Hz Jz O ρ J d,ST K Hz Jz O ρ σ H J/\f ρ=some d/\zkk K H J d Q
theorem VN.of {X:Cx}{e:Expr}{f:FA}(h:VN X e f):PE X e (TNof X.K f):=by
 obtain⟨t,p,g⟩:=h;rintro pins s σ H Q I ⟨Hz,Jz,O,ρ,J,d,s1,e1,w⟩;exact p pins s σ H Q I (g Hz Jz O ρ σ H J d Q s1 e1 w)
def zb4 (ρ:En)(g:FG)(e:FA)(d:D):Option (Option D):=(g d ρ).bind fun ρ1=>(e ρ1).bind fun x=>some (some (.lst x))
def zky (fr:List (Option Nat))(fi:FA)(g:FG)(e:FA):FR:=fun ρ=>(fi ρ).bind fun ds=>(zcx (zb4 (zaY ρ fr) g e) ds).bind fun out=>if out.length<=lim then some (.new 2 (.lst out),ρ) else none
theorem zjk {fr:List (Option Nat)}{wi:TI}{fi:FA}{g:FG}{is:List Nat}{fe:FA}(hi:GoI K wi fi)(hon:∀d ρ ρ',g d ρ=some ρ'->Only is ρ ρ')(hap:apart is fr=true) :
 GoR K (zfE fr wi (TGof K g) (TTof K tTrue) (TNof K fe)) (zky fr fi g fe):=by
 intro Hz Jz O ρ σ H J rr ρ' Q s e w;obtain⟨ds,e1,eA⟩:=bind_some e;obtain⟨out,e2,eB⟩:=bind_some eA;by_cases hl:out.length<=lim
 ·rw[if_pos hl] at eB;cases eB;refine hi Hz Jz O ρ σ H J ds _ s e1 fun I H1 J1 u1 src=>?_
  intro Da hD;have hD0:Hz Da=none:=s.free (u:=u1) hD
  have nJ1:¬J1 Da:=fun j=>u1.ja Da j hD
  refine⟨fun i m ys σ2 H2=>m=ds.length - i/\i<=ds.length/\∃J2 dn rs A,ST K Hz Jz O.blk (zaY ρ fr) σ2 H2 J2/\Up H1 J1 H2 J2/\¬J2 Da/\RpUL K H2 J2 1 ys dn A/\A.Nodup/\(∀b∈A,¬J2 b/\H1 b=none/\b≠Da)/\out=dn++rs/\zcx (zb4 (zaY ρ fr) g fe) (ds.drop i)=some rs,⟨ds.length,by simp,wcm _,?_⟩,?_⟩
  ·have un:=Up.new u1.ja hD (.lst [])
   exact⟨J1,[],out,[],((s.up u1).up un).pick fr,un,nJ1,.nil,wbf,by simp,rfl,by simpa using e2⟩
  ·rintro i m ys σ2 H2 ⟨rfl,hil,J2,dn,rs,A,s2,u2,nj2,r2,nd2,hA2,eo,ec⟩ hys;obtain⟨stop,turn⟩:=src H2 J2 u2.keep s2.ja;by_cases hlt:i<ds.length
   ·right
    have hd:ds[i]?=some ds[i]:=wat hlt
    generalize hdd:ds[i]=d at hd;obtain⟨go,yl⟩:=turn i d hd;have edrop:ds.drop i=d::ds.drop (i+1):=by rw[<-hdd];exact(wbz hlt).symm
    rw[edrop] at ec;obtain⟨o,eo1,ec1⟩:=bind_some (show((zb4 (zaY ρ fr) g fe d).bind fun o=>(zcx (zb4 (zaY ρ fr) g fe) (ds.drop (i+1))).bind fun xs=>some (match o with | some x=>x::xs | none=>xs))=some rs from ec);obtain⟨rs',er,ec2⟩:=bind_some ec1;obtain⟨ρ1,eg,eo2⟩:=bind_some eo1;obtain⟨x,ex,eo3⟩:=bind_some eo2;cases eo3;cases ec2;refine⟨go,fun zs σ' H'=>∃J2 dn rs A,ST K Hz Jz O.blk (zaY ρ fr) σ' H' J2/\Up H1 J1 H' J2/\¬J2 Da/\RpUL K H' J2 1 zs dn A/\A.Nodup/\(∀b∈A,¬J2 b/\H1 b=none/\b≠Da)/\out=dn++rs/\zcx (zb4 (zaY ρ fr) g fe) (ds.drop (i+1))=some rs,fun zs σ' H' h=>⟨ds.length - (i+1),by omega,rfl,hlt,h⟩,fun xv H3 y=>?_⟩;obtain⟨J3,u3,r3⟩:=yl xv H3 y;have wk:Weak (zaY ρ fr) ρ1:=zhQ (hon _ _ _ eg) hap
    refine⟨Hz,Jz,O.blk,zaY ρ fr,J3,d,ρ1,s2.up u3,r3,eg,fun σ4 s4=>?_⟩;refine⟨Hz,Jz,O.blk,ρ1,J3,true,s4,rfl,fun H5 J5 u5=>?_⟩;have s5:=s4.up u5
    refine⟨fun _=>?_,fun z=>by cases z⟩;refine⟨Hz,Jz,O.blk,ρ1,J5,x,s5,ex,fun q vs H6 J6 u6 hq nq hq6 r6=>?_⟩;have u26:=(u3.trans u5).trans u6
    have old:∀{b:Addr}{o:HO},H2 b=some o->¬J2 b->¬J6 b:=fun {b o} hb nb jb=>by
     rcases u26.jn b jb with jb | jb
     ·exact nb jb
     ·rw[hb] at jb;cases jb
    have nj6:¬J6 Da:=old hys nj2
    have hy6:H6 Da=some (.lst ys):=u26.same _ _ hys
    have kA:Keep K H6 J6 (upd H6 Da (.lst (ys++[.ref q]))) J6:=zcA hy6 nj6
    have hqD:q≠Da:=fun z=>by
     subst z;have:=(u3.trans u5).same _ _ hys
     rw[this] at hq;cases hq
    have hqA:q∉A:=fun z=>by
     obtain⟨o,eo,_⟩:=r2.some q z;rw[(u3.trans u5).same _ _ eo] at hq;cases hq
    refine⟨hy6,?_,J6,dn++[.lst x],rs',A++[q],?_,(u2.trans u26).at (ys:=ys) hD,nj6,?_,?_,fun b hb=>?_,by rw[eo];simp,er⟩
    ·have:(dn++.lst x::rs').length<=lim:=by rw[<-eo];exact hl
     rw[was,waX] at this;rw[r2.length];exact waj (by omega:dn.length<lim) (waW zd4)
    ·exact((s5.up u6).weak wk rfl).at (zcz ρ fr) hy6 nj6 hD0
    ·have ra:RpUL K H6 J6 1 ys dn A:=r2.keep u26.keep fun b _ o=>u26.same b o
     have rb:RpUL K H6 J6 1 [.ref q] [.lst x] [q]:=by
      have:=RpUL.cons (n:=1) (RpU.lst hq6 (RpUL.of r6)) (RpUL.nil (K:=K) (H:=H6) (J:=J6))
      simpa using this
     refine(ra.append rb).keep kA fun b hb o ho=>?_
     rw[zag];exact ho;rcases way.mp hb with hb | hb
     ·exact(hA2 b hb).2.2
     ·rw[waq.mp hb];exact hqD
    ·refine wbs.mpr ⟨nd2,by simp,fun a ha b hb z=>?_⟩;rw[waq.mp hb] at z;exact hqA (z▸ha)
    ·rcases way.mp hb with hb | hb
     ·obtain⟨o,eo,_⟩:=r2.some b hb;exact⟨old eo (hA2 b hb).1,(hA2 b hb).2⟩
     ·rw[waq.mp hb];exact⟨nq,(u2.trans (u3.trans u5)).same.free hq,hqD⟩
   ·left
    have hi':i=ds.length:=by omega
    subst hi';rw[wce] at ec;cases ec;refine⟨stop,?_⟩;rw[waC] at eo;subst eo;have u:=u1.trans u2
    obtain⟨fp,ow⟩:=s.ow;refine w (.ref Da) H2 J2 (s.up u) u.keep ⟨Da::A,fp,⟨fun i=>(ow.at' i).keep u.keep fun b _=>u.same b,ow.nd,fun i b hb jb=>?_,ow.dj⟩,.lst hys r2,?_,fun b hb=>?_,fun i b hb hb2=>?_⟩
    ·rcases u.jn b jb with jb | jb
     ·exact ow.nj i b hb jb
     ·obtain⟨o,e,_⟩:=(ow.at' i).ru b hb;rw[e] at jb;cases jb
    ·exact waF.mpr ⟨fun z=>(hA2 Da z).2.2 rfl,nd2⟩
    ·rcases wag.mp hb with rfl | hb
     ·exact⟨nj2,hD0⟩
     ·exact⟨(hA2 b hb).1,s.free (u:=u1) (hA2 b hb).2.1⟩
    ·obtain⟨o,e,_⟩:=(ow.at' i).ru b hb2;have e1:=u1.same _ _ e
     rcases wag.mp hb with rfl | hb
     ·rw[hD] at e1;cases e1
     ·rw[(hA2 b hb).2.1] at e1;cases e1
 ·rw[if_neg hl] at eB;cases eB
end
section
variable {X:Cx}{K:W.Frag}{H H' H1 H2 Hz:Hp}{J J' J1 J2 Jz:Addr->Prop}{ρ ρ' ρ2:En}{σ σ2:L2.St}{O:Pr}{fp:Nat->List Addr}
end
section
variable {X:Cx}{K:W.Frag}
end
def putKD (ks:List Key)(ds:List D)(j:Key)(d:D):List Key×List D:=if ks.any (fun k=>decide (k=j))=true then(ks,(ks.zip ds).map fun p=>if p.1=j then d else p.2) else(ks++[j],ds++[d])
section
variable {X:Cx}{K:W.Frag}{a b c e:Expr}{es:List Expr}{fa fb:FX}{fe fk fv:FE}{fl:FA}{fr:FR}{pos p p2:Pos}
def gPutD (i:Nat)(fk:FE)(f:FX):FS:=fun ρ=>(f ρ).bind fun q=>(fk q.2).bind fun k=>(keyD k).bind fun k=>match ownD (q.2[i]?) with
 | some (1,.dct ks ds)=>if ks.length<lim then some (.nx (setO q.2 i (.dct (putKD ks ds k q.1).1 (putKD ks ds k q.1).2))) else none
 | _=>none
def aRevR (f:FA):FA:=fun ρ=>(f ρ).bind fun l=>(a1Int l).bind fun j=>if 0<=j/\j<=1000000 then some (zaE 0 j.toNat).reverse else none
theorem zjl {H:Hp}{J:Addr->Prop}(n:Nat):Src K (Itd ((n:Int) - 1) n) H J (zaE 0 n).reverse:=by
 intro H2 J2 k ja;have hl:(zaE 0 n).length=n:=by simp[zaE]
 rw[wbk,hl];refine⟨wan _,fun i d hd=>?_⟩;have hi:i<n:=by
  have:=(wak.mp hd).1
  rwa [wbk,hl] at this
 refine⟨hi,fun x H3 y=>?_⟩;obtain⟨rfl,rfl⟩:=y;rw[List.getElem?_reverse (by rw[hl];exact hi),hl] at hd;unfold zaE at hd;rw[wam,wcn (by omega)] at hd;cases hd;refine⟨J2,Up.refl ja,?_⟩;have e:(n:Int) - 1 - (i:Int)=0+((n - 1 - i:Nat):Int):=by omega
 rw[e];exact .int _
theorem zoI {tg:Expr}{pos2:Pos}(B:Blt X.mg)(ha:VA X [a] fl)(hg:Gl X "range":=by rfl)(hg2:Gl X "reversed":=by rfl)(hs:starEach [a] X.env = [(false,eval a X.env)]:=by rfl)
 (hs2:starEach [.Call (.Name "range" p) [a] [] pos] X.env = [(false,eval (.Call (.Name "range" p) [a] [] pos) X.env)]:=by rfl):VI X tg (.Call (.Name "reversed" p2) [.Call (.Name "range" p) [a] [] pos] [] pos2) (aRevR fl):=by
 obtain⟨t,p,g⟩:=ha;refine⟨_,zle hg (B.get "range") hg2 (B.get "reversed") p hs hs2,?_⟩;intro Hz Jz O ρ σ H J ds R s e w;obtain⟨l,e1,eA⟩:=bind_some e;obtain⟨j,e2,eB⟩:=bind_some eA;by_cases hj:0<=j/\j<=1000000
 ·rw[if_pos hj] at eB;cases eB;refine g Hz Jz O ρ σ H J _ _ s e1 fun vs H1 J1 u1 r1=>?_
  match l,e2,r1 with
  | [.int i],e2,r1=>
    cases e2;cases r1 with
    | cons h t=>
      cases t;cases h;have ej:j - 1=((j.toNat:Nat):Int) - 1:=by omega
      refine⟨j,rfl,by omega,by omega,?_⟩;rw[ej];exact w _ H1 J1 u1 (zjl _)
 ·rw[if_neg hj] at eB;cases eB
def Itv (K:W.Frag)(a:Addr)(n:Nat):It:=
 ⟨fun i H=>i<n/\∃xs x,SqL K H a xs/\xs.length=n/\xs[n - 1 - i]?=some x,fun i H x H'=>H'=H/\∀xs,SqL K H a xs->xs[n - 1 - i]?=some x,fun i _=>n<=i⟩
theorem zjm {P:Program}{w:World}{K:W.Frag}{tg:Expr}(a it:Addr)(n:Nat):Turn P w K tg (Itv K a n) [it] it (fun i h=>i<=n/\h.IsRevIter it a ((n:Int) - 1 - (i:Int))) where
 mem:=by simp
 obj:=fun i h st b hb=>by
  have e:b=it:=by simpa using hb
  subst e;obtain⟨_,o,e,c,d⟩:=st;exact⟨o,e,fun v z=>by rw[d] at z;cases z⟩
 keep:=fun i h h' st k=>⟨st.1,st.2.at fun o e=>k it (by simp) o e⟩
 item:=by
  intro X hP hw hK hc i pins s σ H E I hf st hg;subst hP hw hK;obtain⟨hlt,xs,x,hq,hn,hx⟩:=hg;obtain⟨its,rv,p,hz⟩:=I.list hq;obtain⟨u,hu,ru⟩:=rv.get hx;obtain⟨f0,f1,f2,f3,f4,f5⟩:=hf it (by simp);have e1:(n:Int) - 1 - (i:Int)=((n - 1 - i:Nat):Int):=by omega
  have st':=st.2
  rw[e1] at st';refine wpAny_pyNext_rev_item st' p.isList (x:=u) (by simpa using hu) fun h' st2 sb=>?_
  have I1:Inv X pins σ H {s with heap:=h'}:=I.turned (t':=s.toks) (fun b o hb e=>(sb.2 b hb).trans e) f0 f1 f3 f4 f5
  obtain⟨o,e,c,d⟩:=id st2;have e2:((n - 1 - i:Nat):Int) - 1=(n:Int) - 1 - ((i+1:Nat):Int):=by omega
  rw[e2] at st2;exact⟨u,rfl,zhk (s:={s with heap:=h'}) e c d (by decide) ⟨x,H,I1,ru,⟨rfl,fun ys hy=>by rw[I.list_inj hy hq];exact hx⟩,⟨hlt,st2⟩,fun b hb=>(hf b hb).1⟩⟩
 done:=by
  intro X hP hw hK hc i pins s σ H E I hf st hg;subst hP hw hK;obtain⟨f0,f1,f2,f3,f4,f5⟩:=hf it (by simp);have hi:n<=i:=hg
  have e1:(n:Int) - 1 - (i:Int) = -1:=by have:=st.1;omega
  have st':=st.2
  rw[e1] at st';exact wpAny_pyNext_rev_end (I.ok.hd hc) st' fun h' eb=>⟨rfl,I.turned (t':=s.toks) (fun b o hb e=>eb b o hb e) f0 f1 f3 f4 f5⟩
 self:=fun _ _ _ _ _ st h=>wpAny_pyIter_revIter st.2 h
def zoJ (K:W.Frag)(ta:TA):TI:=fun σ H R=>ta σ H fun vs H1=>∃a xs,vs = [.ref a]/\SqL K H1 a xs/\R (Itv K a xs.length) H1
theorem zly {tg:Expr}{ta:TA}(hg:Gl X "reversed")(hm:X.mg "reversed"=none)(ha:PA X [a] ta)(hs:starEach [a] X.env = [(false,eval a X.env)]:=by rfl):PI X tg (.Call (.Name "reversed" p) [a] [] pos) (zoJ X.K ta):=by
 intro pins s σ H R I h;refine waR (zc9 I hg hm boot_reversed ?_ (by decide) (by decide));refine waO (thn (ha pos pins s σ H _ I h) fun us s1 ⟨vs,H1,I1,r1,q1⟩ =>?_) hs rfl;obtain⟨a,xs,rfl,hq,q⟩:=q1;cases r1 with
 | cons r rr=>
   cases rr;cases r;obtain⟨its,rv,pl,hz⟩:=I1.list hq;refine call_reversed_list pl.isList ?_;have e0:((its.toArray.size:Nat):Int) - 1=(xs.length:Int) - 1 - ((0:Nat):Int):=by simp[rv.length]
   rw[e0];have st:(s1.heap.push (revObj a ((xs.length:Int) - 1 - ((0:Nat):Int)))).IsRevIter s1.heap.objs.size a ((xs.length:Int) - 1 - ((0:Nat):Int)):=⟨_,wav _ rfl,rfl,rfl⟩
   refine wpAny_pyIter_revIter st ?_;refine⟨s1.heap.objs.size,[s1.heap.objs.size],_,_,H1,rfl,I1.kept (t':=s1.toks) fun b o e=>wac _ e,zjm a _ xs.length,⟨wcm _,st⟩,fun b hb=>?_,q⟩;have e:b=s1.heap.objs.size:=by simpa using hb
   subst e;exact I1.fpOk (wan _) (I1.hok.fresh (wan _))
def zni:List D->Option (List D)
 | [.lst ds]=>some ds
 | _=>none
def zoK (f:FA):FA:=fun ρ=>(f ρ).bind fun l=>(zni l).bind fun ds=>some ds.reverse
theorem zlz {tg:Expr}(B:Blt X.mg)(ha:VA X [a] fl)(hg:Gl X "reversed":=by rfl)(hs:starEach [a] X.env = [(false,eval a X.env)]:=by rfl):VI X tg (.Call (.Name "reversed" p) [a] [] pos) (zoK fl):=by
 obtain⟨t,p,g⟩:=ha;refine⟨_,zly hg (B.get "reversed") p hs,?_⟩;intro Hz Jz O ρ σ H J ds R s e w;obtain⟨l,e1,eA⟩:=bind_some e;obtain⟨xs,e2,eB⟩:=bind_some eA;cases eB;refine g Hz Jz O ρ σ H J _ _ s e1 fun vs H1 J1 u1 r1=>?_
 match l,e2,r1 with
 | [.lst _],e2,r1=>
   cases e2;cases r1 with
   | cons h t=>
     cases t;cases h with
     | lst h j r=>
       rename_i p vs
       refine⟨p,vs,rfl,SqL.of h,w _ H1 J1 u1 fun H2 J2 k ja=>?_⟩;have h2:=k.jo _ _ j h
       rw[wbk,<-r.length];refine⟨wan _,fun i d hd=>?_⟩;have hi:i<vs.length:=by
        have:=(wak.mp hd).1
        rwa [wbk,<-r.length] at this
       rw[List.getElem?_reverse (by rw[<-r.length];exact hi),<-r.length] at hd;obtain⟨v,hv,rv⟩:=r.get hd;refine⟨⟨hi,vs,v,SqL.of h2,rfl,hv⟩,fun x H3 y=>?_⟩;obtain⟨rfl,y⟩:=y;have e:=y _ (SqL.of h2)
       rw[hv] at e;cases e;exact⟨J2,Up.refl ja,rv.keep k⟩
end
section
variable {X:Cx}{K:W.Frag}{a b c e:Expr}{es:List Expr}{fa fb:FX}{fe fk fv:FE}{fl:FA}{fr:FR}{pos p p2:Pos}
def isL2:Option (Nat×D)->Bool
 | some (2,.lst _)=>true
 | _=>false
def xPop (i:Nat):FX:=fun ρ=>match ownD (ρ[i]?) with
 | some (1,.lst ds)=>(ds[ds.length - 1]?).bind fun d=>some (d,setO ρ i (.lst ds.dropLast))
 | _=>none
def zkz (i:Nat)(f:FX):FX:=fun ρ=>if isL1 (ownD (ρ[i]?))=true then(f ρ).bind fun q=>(dInt q.1).bind fun k=>match ownD (q.2[i]?) with
 | some (1,.lst ds)=>if -1000000<=k/\k<=1000000 then(seqIndex? k ds.length).bind fun j=>(ds[j]?).bind fun d=>some (d,setO q.2 i (.lst (ds.eraseIdx j))) else none
 | _=>none
 else none
end
section
variable {X:Cx}{K:W.Frag}{fa:FX}{fr:FR}
theorem zlA {i:Nat}{t:TE}(q:GoR K t fr):GoS K (tAsg t (zdV i)) (gOwnR i fr):=by
 intro Hz Jz O ρ σ H J o E s e w;obtain⟨⟨r,ρ1⟩,e1,eA⟩:=bind_some e;cases r with
 | told d=>cases eA
 | new n d=>
   have eA:(if i<ρ1.length/\isPar (ρ1[i]?)=false then some (Out.nx (ρ1.set i (.own n d))) else none)=some o:=eA
   by_cases hi:i<ρ1.length/\isPar (ρ1[i]?)=false
   ·rw[if_pos hi] at eA;cases eA;exact q Hz Jz O ρ σ H J _ ρ1 _ s e1 fun v H' J' s' k r=>w _ H' J' (s'.take r hi.1 (za2 hi.2)) k
   ·rw[if_neg hi] at eA;cases eA
theorem zjn (N:List Str)(st:Stmt){i:Nat}{x:Str}{elt iter tg:Expr}{scope:Scope}{pos pos' cp:Pos}{NC:List Str}(fr:List (Option Nat)){fi:FA}{g:FG}{is:List Nat}{fe:FA}(hND:X.N.Nodup)(hix:X.N[i]?=some x)(hx:Loc X.env.scope x)(hcalm:X.calm=true)(hi:VI X tg iter fi)
 (hcells:∀x,X.env.scope.names.lookup x=some .cell->∃c,X.env.cells.lookup x=some c) (hfk:X.env.scope.kind=.function) (hN:X.N=N) (hsc:X.env.scope.names=(zac st).names)
 (hfree':∀y∈scope.names,y.2=.free->(zac st).names.lookup y.1=some .cell) (hcell:∀y∈scope.names,y.2≠.cell) (hkind:scope.kind=.function) (hnames:∀y∈scope.names,y.2=.local->scope.names.lookup y.1=some .local)
 (hfr':zdw N (zac st).names scope.names NC fr=true) (hlen:fr.length=NC.length) (hap:apart is fr=true)
 (hg:∀cl C s0 H0 ex pn,VG (cxC X scope cl NC C s0 H0 ex pn) tg is g) (he:∀cl C s0 H0 ex pn,VN (cxC X scope cl NC C s0 H0 ex pn) elt fe)
 (hs:∀x,foldedSetIterable iter X.env x=pure x:=by intro _;rfl) (hsw:swapsWith (.ListComp elt [⟨tg,iter,[],0⟩] scope cp) (some (.Name x pos')) pos.line X.env=pure true:=by rfl)
 (hf:X.fn x=true\/X.env.scope.names.lookup x=some .local:=by first | exact .inl rfl | exact .inr rfl | assumption) :
 VS X (.Assign [.Name x pos'] (.ListComp elt [⟨tg,iter,[],0⟩] scope cp) pos) (gOwnR i (zky fr fi g fe)):=by
 obtain⟨wi,pi,gi⟩:=hi;obtain⟨_,_,hon,_⟩:=hg [] 0 X.s₀ X.Hz [] [];have p:=zlf N st (i:=i) (pos:=pos) (pos':=pos') (cp:=cp) fr hND hix hx hcalm pi hcells hfk hN hsc hfree' hcell hkind hnames hfr' hlen (fun cl C s0 H0 ex pn=>show PG (cxC X scope cl NC C s0 H0 ex pn) tg (TGof X.K g) from(hg cl C s0 H0 ex pn).of) (fun cl C s0 H0 ex pn=>show PTs (cxC X scope cl NC C s0 H0 ex pn) [] (TTof X.K tTrue) from zcy) (fun cl C s0 H0 ex pn=>show PE (cxC X scope cl NC C s0 H0 ex pn) elt (TNof X.K fe) from(he cl C s0 H0 ex pn).of) hs hsw hf
 exact⟨_,p,zlA (zjk gi hon hap)⟩
theorem vrC (i:Nat){scope:Scope}{cl:List (Str×Addr)}{NC:List Str}{C:Addr}{s0:Shared}{H0:Hp}{ex:List Addr}{pn:List (Addr×Obj)}{x:Str}{pos:Pos}(hi:NC[i]?=some x)(hfk:X.env.scope.kind=.function)
 (h1:scope.names.lookup x=some .free) (h2:X.env.scope.names.lookup x=some .cell) (hd:(x == ("__debug__" : Str))=false:=by decide) (hcd:(x == ("__classdict__" : Str))=false:=by decide):VW (cxC X scope cl NC C s0 H0 ex pn) (.Name x pos) (eRd i):=
 ⟨_,pvC i hi hfk h1 h2 hd hcd,zmU⟩
end
def zlB (ρ:En)(i:Nat):En:=if isPar (ρ[i]?)=false then ρ.set i .un else ρ
def dropE (is:List Nat)(ρ:En):En:=is.foldl zlB ρ
theorem ST.dropE {K:W.Frag}{Hz H:Hp}{Jz J:Addr->Prop}{O:Pr}{σ:L2.St}:∀(is:List Nat) {ρ:En},ST K Hz Jz O ρ σ H J->ST K Hz Jz O (dropE is ρ) σ H J
 | [],_,s=>s
 | i::is,ρ,s=>by
   refine ST.dropE is (ρ:=zlB ρ i) ?_;unfold zlB;by_cases h:isPar (ρ[i]?)=false
   ·rw[if_pos h];exact s.drop fun n d z=>by rw[z] at h;cases h
   ·rw[if_neg h];exact s
def zlC (is:List Nat)(g:FS):FS:=fun ρ=>g (dropE is ρ)
section
variable {X:Cx}{sts:List Stmt}{g:FS}
theorem zaV (is:List Nat)(h:VSs X sts g):VSs X sts (zlC is g):=by
 obtain⟨t,p,q⟩:=h;exact⟨t,p,fun Hz Jz O ρ σ H J o E s e w=>q Hz Jz O _ σ H J o E (s.dropE is) e w⟩
end
def EvS {R A:Type}(k:Out->Option R)(φ:A->Option R)(g:FS)(ρ:En)(a:Option A):Prop:=∀r,a.bind φ=some r->(g ρ).bind k=some r
def Step {α:Type}(g:FS)(ρ:En)(x:Option α)(ρ':α->En):Prop:=∀d,x=some d->g ρ=some (.nx (ρ' d))
def okS (i:Nat)(ρ:En):Bool:=decide (i<ρ.length) && !isPar (ρ[i]?)
theorem zde {i:Nat}{ρ:En}(h:okS i ρ=true):i<ρ.length/\isPar (ρ[i]?)=false:=by
 unfold okS at h;simpa using h
section
variable {R A α S:Type}{k:Out->Option R}{φ:A->Option R}{g g2 a b:FS}{ρ:En}{x:Option α}{ρ':α->En}{c:FT}{e:FE}{fl:FA}
theorem zaa {β γ:Type}{x:Option β}{f:β->Option γ}{r:γ}(h:x.bind f=some r):∃y,x=some y/\f y=some r:=by
 cases x with
 | none=>cases h
 | some y=>exact⟨y,rfl,h⟩
theorem zaj {K:α->Option A}(s:Step g ρ x ρ')(h:∀d,EvS k φ g2 (ρ' d) (K d)):EvS k φ (gSeq g g2) ρ (x.bind K):=fun r e=>by
 obtain⟨y,e,e2⟩:=zaa e;obtain⟨d,e0,e⟩:=zaa e;unfold gSeq;rw[s d e0];exact h d r (by rw[e];exact e2)
theorem znj {K:α->Option A}(s:Step g ρ x ρ')(h:∀d r,(K d).bind φ=some r->k (.nx (ρ' d))=some r):EvS k φ g ρ (x.bind K):=fun r e=>by
 obtain⟨y,e,e2⟩:=zaa e;obtain⟨d,e0,e⟩:=zaa e;rw[s d e0];exact h d r (by rw[e];exact e2)
theorem zbE {a:Option A}(h:∀r,a.bind φ=some r->k (.nx ρ)=some r):EvS k φ gNx ρ a:=fun r e=>h r e
theorem zcO {a:Option A}(h:EvS k φ g ρ a):EvS k φ (gSeq gNx g) ρ a:=h
theorem zgn (i:Nat){a:Option A}(h:EvS k φ g (frzE i ρ) a):EvS k φ (fun ρ=>g (frzE i ρ)) ρ a:=h
theorem zaZ (is:List Nat){a:Option A}(h:EvS k φ g (dropE is ρ) a):EvS k φ (zlC is g) ρ a:=h
def kx (k:Out->Option R):Out->Option R
 | .nx _=>none
 | o=>k o
theorem zkA {r:R}(h:(a ρ).bind (kx k)=some r):(gSeq a g ρ).bind k=some r:=by
 unfold gSeq;cases z:a ρ with
 | none=>rw[z] at h;cases h
 | some o=>rw[z] at h;cases o <;> first | cases h | exact h
theorem zbu {a' b':Option A}(h1:EvS (kx k) φ a ρ a')(h2:EvS k φ (gSeq b g) ρ b'):EvS k φ (gSeq (gIf c a b) g) ρ ((c ρ).bind fun t=>if t then a' else b'):=fun r e=>by
 obtain⟨y,e,e2⟩:=zaa e;obtain⟨t,e0,e⟩:=zaa e;cases t with
 | true=>
   have:=zkA (g:=g) (h1 r (by rw[if_pos rfl] at e;rw[e];exact e2))
   unfold gSeq gIf at *;rw[e0];exact this
 | false=>
   have:=h2 r (by rw[if_neg (by decide)] at e;rw[e];exact e2)
   unfold gSeq gIf at *;rw[e0];exact this
theorem zhU {a':Option A}(h:a'=none):EvS k φ gNo ρ a':=fun r e=>by rw[h] at e;cases e
theorem zat {K:D->Option A}(h:∀d r,(K d).bind φ=some r->k (.ret (.told d) ρ)=some r):EvS k φ (gRet e) ρ ((e ρ).bind K):=fun r z=>by
 obtain⟨y,z,z2⟩:=zaa z;obtain⟨d,e0,z⟩:=zaa z;unfold gRet;rw[e0];exact h d r (by rw[z];exact z2)
theorem zc3 {K:List D->Option A}(h:∀ds r,(K ds).bind φ=some r->k (.ret (.new 1 (.lst ds)) ρ)=some r):EvS k φ (gRetN fl) ρ ((fl ρ).bind K):=fun r z=>by
 obtain⟨y,z,z2⟩:=zaa z;obtain⟨d,e0,z⟩:=zaa z;unfold gRetN;rw[e0];exact h d r (by rw[z];exact z2)
theorem zay {i:Nat}(h:okS i ρ=true):Step (gSet i e) ρ (e ρ) fun d=>ρ.set i (.val d):=fun d z=>by
 unfold gSet;rw[z,zOB,if_pos (zde h)]
theorem ze5 {i:Nat}(h:okS i ρ=true):Step (gOwn i fl) ρ (fl ρ) fun ds=>ρ.set i (.own 1 (.lst ds)):=fun d z=>by
 unfold gOwn;rw[z,zOB,if_pos (zde h)]
def appL (xs:List D)(d:D):Option (List D):=if xs.length<lim then some (xs++[d]) else none
def extL (xs:List D)(d:D):Option (List D):=match d with | .lst es=>if(xs++es).length<=lim then some (xs++es) else none | _=>none
theorem zgo {i:Nat}{xs:List D}(h:ownD (ρ[i]?)=some (1,.lst xs)):Step (gApp i e) ρ ((e ρ).bind (appL xs)) fun ys=>setO ρ i (.lst ys):=fun d z=>by
 obtain⟨y,e0,z⟩:=zaa z;unfold gApp;rw[e0,zOB,h];unfold appL at z;split at z
 ·rename_i q;cases z;exact if_pos q
 ·cases z
theorem znk {i:Nat}{xs:List D}(h:ownD (ρ[i]?)=some (1,.lst xs)):Step (gExt i e) ρ ((e ρ).bind (extL xs)) fun ys=>setO ρ i (.lst ys):=fun d z=>by
 obtain⟨y,e0,z⟩:=zaa z;unfold gExt;rw[e0,zOB,h];unfold extL at z;cases y <;> try cases z
 rename_i es
 have z:(if(xs++es).length<=lim then some (xs++es) else none)=some d:=z
 split at z
 ·rename_i q;cases z;exact if_pos q
 ·cases z
def k0:Out->Option En
 | .nx ρ=>some ρ
 | _=>none
def kL:Out->Option En
 | .nx ρ=>some ρ
 | .ct ρ=>some ρ
 | _=>none
end
def Tg {α:Type}(tg:FG)(d:D)(ρ:En)(x:Option α)(ρ':α->En):Prop:=∀y,x=some y->tg d ρ=some (ρ' y)
section
variable {d:D}{ρ:En}
theorem tg_n {i:Nat}(h:okS i ρ=true):Tg (gN i) d ρ (some d) fun d=>ρ.set i (.val d):=fun y e=>by
 cases e;unfold gN;rw[if_pos (zde h)]
def un2:D->Option (D×D)
 | .tup [a,b]=>some (a,b)
 | _=>none
theorem zjo {d:D}{y:D×D}(h:un2 d=some y):d=.tup [y.1,y.2]:=by
 unfold un2 at h;split at h
 ·cases h;rfl
 ·cases h
theorem zfP {i:Nat}{d:D}{ρ:En}(h:okS i ρ=true):gN i d ρ=some (ρ.set i (.val d)):=by unfold gN;rw[if_pos (zde h)]
theorem tg_2 {i j:Nat}(h1:okS i ρ=true)(h2:∀x,okS j (ρ.set i (.val x))=true):Tg (gT 2 (gCons' (gN i) (gCons' (gN j) gNil'))) d ρ (un2 d) fun y=>(ρ.set i (.val y.1)).set j (.val y.2):=fun y e=>by
 rw[zjo e];show((gN i y.1 ρ).bind fun ρ1=>(gN j y.2 ρ1).bind fun ρ2=>gNil' [] ρ2)=_
 rw[zfP h1,zOB,zfP (h2 _)];rfl
end
def zaL {S:Type}(f:S->D->Option S):S->List D->Option S
 | s,[]=>some s
 | s,d::ds=>(f s d).bind fun s=>zaL f s ds
theorem zhV {α S:Type}{ρ:En}{fi:FA}{tg:FG}{b:FS}{x:D->Option α}{emb:S->En}{ρ1:S->α->En}{step:S->α->Option S}{s0:S}(h0:emb s0=ρ)(ht:∀s d,Tg tg d (emb s) (x d) (ρ1 s))(hb:∀s y,EvS kL (fun s=>some (emb s)) b (ρ1 s y) (step s y)) :
 Step (gFor fi tg b) ρ ((fi ρ).bind (zaL (fun s d=>(x d).bind (step s)) s0)) emb:=fun s z=>by
 have key:∀(ds:List D) (s0:S),zaL (fun s d=>(x d).bind (step s)) s0 ds=some s->forL tg b ds (emb s0)=some (.nx (emb s)):=by
  intro ds;induction ds with
  | nil=>intro s0 q;cases q;rfl
  | cons d ds ih=>
    intro s0 q;obtain⟨s1,e1,q1⟩:=zaa q;obtain⟨y,e2,e5⟩:=zaa e1;have hb1:=hb s0 y (emb s1) (by rw[e5];rfl)
    obtain⟨o,e3,e4⟩:=zaa hb1;unfold forL;rw[ht s0 d y e2,zOB,e3,zOB];cases o <;> cases e4 <;> exact ih _ q1
 obtain⟨ds,e0,z1⟩:=zaa z;unfold gFor;rw[e0,zOB,<-h0];exact key ds s0 z1
inductive Fl (S A:Type) where
 | nx (s:S) | bk (s:S) | ret (a:A)
def zbN {S A:Type}(f:S->D->Option (Fl S A)):S->List D->Option (Fl S A)
 | s,[]=>some (.nx s)
 | s,d::ds=>(f s d).bind fun o=>match o with
   | .nx s=>zbN f s ds
   | .bk s=>some (.nx s)
   | .ret a=>some (.ret a)
def kR {R:Type}(k:Out->Option R):Out->Option (Fl En R)
 | .nx ρ=>some (.nx ρ)
 | .ct ρ=>some (.nx ρ)
 | .bk ρ=>some (.bk ρ)
 | .ret v ρ=>(k (.ret v ρ)).map .ret
def fR {S A R:Type}(φ:A->Option R)(emb:S->En):Fl S A->Option (Fl En R)
 | .nx s=>some (.nx (emb s))
 | .bk s=>some (.bk (emb s))
 | .ret a=>(φ a).map .ret
theorem zkB {α S A R:Type}{k:Out->Option R}{φ:A->Option R}{ρ:En}{fi:FA}{tg:FG}{b g:FS}{x:D->Option α}{emb:S->En}{ρ1:S->α->En}{step:S->α->Option (Fl S A)}{K:S->Option A}{s0:S}(h0:emb s0=ρ)(ht:∀s d,Tg tg d (emb s) (x d) (ρ1 s))(hb:∀s y,EvS (kR k) (fR φ emb) b (ρ1 s y) (step s y))(hk:∀s,EvS k φ g (emb s) (K s)) :
 EvS k φ (gSeq (gFor fi tg b) g) ρ ((fi ρ).bind fun ds=>(zbN (fun s d=>(x d).bind (step s)) s0 ds).bind fun o=>match o with | .nx s=>K s | .bk s=>K s | .ret a=>some a):=fun r z=>by
 have key:∀(ds:List D) (s0:S) (v:A) (o:Fl S A),zbN (fun s d=>(x d).bind (step s)) s0 ds=some o->(match o with | .nx s=>K s | .bk s=>K s | .ret a=>some a)=some v->φ v=some r->((forL tg b ds (emb s0)).bind fun o=>match o with | .nx ρ'=>g ρ' | .bk ρ'=>some (.bk ρ') | .ct ρ'=>some (.ct ρ') | .ret d ρ'=>some (.ret d ρ')).bind k=some r:=by
  intro ds;induction ds with
  | nil=>
    intro s0 v o q1 q2 q3;cases q1;exact hk s0 r (by rw[show K s0=some v from q2];exact q3)
  | cons d ds ih=>
    intro s0 v o q1 q2 q3;obtain⟨o1,e1,q4⟩:=zaa q1;obtain⟨y,e2,e5⟩:=zaa e1;unfold forL;rw[ht s0 d y e2,zOB];cases o1 with
    | nx s1=>
      have hb1:=hb s0 y (.nx (emb s1)) (by rw[e5];rfl)
      obtain⟨ob,e3,e4⟩:=zaa hb1;rw[e3,zOB];have ih:=ih s1 v o q4 q2 q3
      cases ob with
      | nx ρ2=>cases e4;exact ih
      | ct ρ2=>cases e4;exact ih
      | bk ρ2=>cases e4
      | ret v ρ2=>
        have e4:(k (.ret v ρ2)).map Fl.ret=some (Fl.nx (emb s1)):=e4
        cases h:k (.ret v ρ2) <;> rw[h] at e4 <;> cases e4
    | bk s1=>
      cases q4;have q2:K s1=some v:=q2
      have hb1:=hb s0 y (.bk (emb s1)) (by rw[e5];rfl)
      obtain⟨ob,e3,e4⟩:=zaa hb1;rw[e3,zOB];cases ob with
      | nx ρ2=>cases e4
      | ct ρ2=>cases e4
      | bk ρ2=>cases e4;exact hk s1 r (by rw[q2];exact q3)
      | ret v ρ2=>
        have e4:(k (.ret v ρ2)).map Fl.ret=some (Fl.bk (emb s1)):=e4
        cases h:k (.ret v ρ2) <;> rw[h] at e4 <;> cases e4
    | ret a=>
      cases q4;cases q2;have hb1:=hb s0 y (.ret r) (by rw[e5];show(φ _).map Fl.ret=_;rw[q3];rfl)
      obtain⟨ob,e3,e4⟩:=zaa hb1;rw[e3,zOB];cases ob with
      | nx ρ2=>cases e4
      | ct ρ2=>cases e4
      | bk ρ2=>cases e4
      | ret v ρ2=>
        have e4:(k (.ret v ρ2)).map Fl.ret=some (Fl.ret r):=e4
        cases h:k (.ret v ρ2) with
        | none=>rw[h] at e4;cases e4
        | some r'=>rw[h] at e4;cases e4;exact h
 obtain⟨v,z1,z2⟩:=zaa z;obtain⟨ds,e0,z3⟩:=zaa z1;obtain⟨o,z4,z5⟩:=zaa z3;unfold gSeq gFor;rw[e0,zOB,<-h0];exact key ds s0 v o z4 z5 z2
def aC (x:Option D)(xs:Option (List D)):Option (List D):=x.bind fun d=>xs.bind fun ds=>some (d::ds)
def aN:Option (List D):=some []
def zbp (f:D->Option (Option D))(ds:List D):Option (List D):=(zcx f ds).bind fun out=>if out.length<=lim then some out else none
def zoL (l:List D):Option (List D):=(a1Tup l).bind fun ds=>some (ze0 ds)
def rngA (l:List D):Option (List D):=(a1Int l).bind fun j=>if -1000000<=j/\j<=1000000 then some (zaE 0 j.toNat) else none
def zoM (l:List D):Option (List D):=(zni l).bind fun ds=>some ds.reverse
def mkLs (ds:List D):Option (List D):=if ds.length<=lim then some ds else none
def flK {S A:Type}(K:S->Option A):Fl S A->Option A
 | .nx s=>K s
 | .bk s=>K s
 | .ret a=>some a
section
variable {α S A R:Type}{k:Out->Option R}{φ:A->Option R}{ρ:En}{fi:FA}{b g:FS}{emb:S->En}{s0:S}
theorem zey {i:Nat}{step:S->D->Option S}(h0:emb s0=ρ)(hi:∀s,okS i (emb s)=true)(hb:∀s d,EvS kL (fun s=>some (emb s)) b ((emb s).set i (.val d)) (step s d)) :
 Step (gFor fi (gN i) b) ρ ((fi ρ).bind (zaL step s0)) emb:=
 zhV (x:=fun d=>some d) (step:=step) h0 (fun s d=>tg_n (hi s)) hb
theorem zhW {i j:Nat}{step:S->D×D->Option S}(h0:emb s0=ρ)(hi:∀s,okS i (emb s)=true)(hj:∀s x,okS j ((emb s).set i (.val x))=true)(hb:∀s y,EvS kL (fun s=>some (emb s)) b (((emb s).set i (.val y.1)).set j (.val y.2)) (step s y)) :
 Step (gFor fi (gT 2 (gCons' (gN i) (gCons' (gN j) gNil'))) b) ρ ((fi ρ).bind (zaL (fun s d=>(un2 d).bind (step s)) s0)) emb:=
 zhV (x:=un2) (step:=step) h0 (fun s d=>tg_2 (hi s) (hj s)) hb
theorem zdB {i:Nat}{step:S->D->Option (Fl S A)}{K:S->Option A}(h0:emb s0=ρ)(hi:∀s,okS i (emb s)=true)(hb:∀s d,EvS (kR k) (fR φ emb) b ((emb s).set i (.val d)) (step s d))(hk:∀s,EvS k φ g (emb s) (K s)) :
 EvS k φ (gSeq (gFor fi (gN i) b) g) ρ ((fi ρ).bind fun ds=>(zbN step s0 ds).bind (flK K)):=fun r z=>
 zkB (x:=fun d=>some d) (step:=step) h0 (fun s d=>tg_n (hi s)) hb hk r (by
  rw[<-z];congr 1)
theorem zlD {i j:Nat}{step:S->D×D->Option (Fl S A)}{K:S->Option A}(h0:emb s0=ρ)(hi:∀s,okS i (emb s)=true)(hj:∀s x,okS j ((emb s).set i (.val x))=true)(hb:∀s y,EvS (kR k) (fR φ emb) b (((emb s).set i (.val y.1)).set j (.val y.2)) (step s y))(hk:∀s,EvS k φ g (emb s) (K s)) :
 EvS k φ (gSeq (gFor fi (gT 2 (gCons' (gN i) (gCons' (gN j) gNil'))) b) g) ρ ((fi ρ).bind fun ds=>(zbN (fun s d=>(un2 d).bind (step s)) s0 ds).bind (flK K)):=fun r z=>
 zkB (x:=un2) (step:=step) h0 (fun s d=>tg_2 (hi s) (hj s)) hb hk r (by
  rw[<-z];congr 1)
end
def zoN (x k v:D):Option D:=(keyD k).bind fun k=>match x with
 | .dct ks ds=>if ks.length<lim then some (.dct (putKD ks ds k v).1 (putKD ks ds k v).2) else none
 | _=>none
theorem zoO {i:Nat}{ρ:En}{fk f:FE}{x:D}(h:ownD (ρ[i]?)=some (1,x)):Step (gPutD i fk (xE f)) ρ ((f ρ).bind fun v=>(fk ρ).bind fun k=>zoN x k v) fun y=>setO ρ i y:=fun d z=>by
 obtain⟨v,e0,z1⟩:=zaa z;obtain⟨kk,e1,z2⟩:=zaa z1;obtain⟨key,e2,z3⟩:=zaa z2;unfold gPutD xE;rw[e0,zOB,zOB];show(fk ρ).bind _=_
 rw[e1,zOB,e2,zOB];show(match ownD (ρ[i]?) with | some (1,.dct ks ds)=>_ | _=>_)=_
 rw[h];cases x <;> try cases z3
 rename_i ks ds
 have z3:(if ks.length<lim then some (D.dct (putKD ks ds key v).1 (putKD ks ds key v).2) else none)=some d:=z3
 split at z3
 ·rename_i q;cases z3;exact if_pos q
 ·cases z3
def znl (xs:List D)(k v:D):Option (List D):=(dInt k).bind fun k=>(ixN xs.length k).bind fun j=>some (xs.set j v)
theorem zlE {i:Nat}{ρ:En}{fk f:FE}{xs:List D}(h:ownD (ρ[i]?)=some (1,.lst xs)):Step (gPutL i fk (xE f)) ρ ((f ρ).bind fun v=>(fk ρ).bind fun k=>znl xs k v) fun ys=>setO ρ i (.lst ys):=fun d z=>by
 obtain⟨v,e0,z1⟩:=zaa z;obtain⟨kk,e1,z2⟩:=zaa z1;obtain⟨key,e2,z3⟩:=zaa z2;obtain⟨j,e3,z4⟩:=zaa z3;cases z4;unfold gPutL xE;rw[e0,zOB,zOB];show(fk ρ).bind _=_
 rw[e1,zOB,e2,zOB];show(match ownD (ρ[i]?) with | some (1,.lst ds)=>_ | _=>_)=_
 rw[h];show(ixN xs.length key).bind _=_
 rw[e3];rfl
theorem zlF {i n:Nat}{ρ:En}{f:FR}{x:D}(hf:f ρ=some (.new n x,ρ))(h:okS i ρ=true):Step (gOwnR i f) ρ (some ()) fun _=>ρ.set i (.own n x):=fun d z=>by
 unfold gOwnR;rw[hf,zOB];exact if_pos (zde h)
def kF:Out->Option D
 | .ret (.told d) _=>some d
 | .ret (.new _ d) _=>some d
 | .nx _=>some .non
 | _=>none
section
variable {P:Program}{w:World}{K:W.Frag}{mg:Str->Option Value}{base:Heap}
theorem zb5 {x qual:Str}{st:Stmt}{f:Addr}{fd:FuncData}{N ps:List Str}{k:Nat}{c:List D->Option D}(F:Fun K x qual st f fd)(S:FnScope N ps (zac st))(hlen:∀ds d,c ds=some d->ds.length=ps.length)
 (hbody:∀(cdv:Value) (A:Around) (outer:List Env) (s:Shared) (H:Hp) (E:XK),Room k (A.deeper (envOfC qual (zac st) s.heap.objs.size f cdv))->∃g,VSs (cxOf CX0 P w K mg base N qual (zac st) f cdv A outer s H E).nox (zaT st) g/\∀ds,ds.length=ps.length->EvS kF some g (ds.map SV.val++List.replicate (N.length - ps.length) .un) (c ds)):FnOk P w K mg base CX0 (k+1) f fd ps (spF K c):=by
 refine F.ok S (fun vs H Q E h=>?_) (fun cdv A outer s H vs Q E hr h=>?_)
 ·obtain⟨J,ds,d,ja,r,e,w⟩:=h;rw[r.length];exact hlen ds d e
 ·obtain⟨J,ds,d,ja,r,e,w⟩:=h;have hl:=hlen ds d e
  obtain⟨g,⟨t,p,q⟩,ev⟩:=hbody cdv A outer s H E hr;refine⟨t,p,?_⟩;have e:=ev ds hl d (by rw[e];rfl)
  rw[<-hl] at e;have s0:=zev (N:=N) ja r
  cases z:g (ds.map SV.val++List.replicate (N.length - ds.length) .un) with
  | none=>rw[z] at e;cases e
  | some o=>
    rw[z] at e;refine q H J Pr.no _ _ H J o _ s0 z ?_;cases o with
    | nx ρ'=>cases e;exact fun σ' H' J' s' k'=>w .non H' J' s'.out .non
    | ret r ρ'=>
      cases r with
      | told d'=>cases e;exact fun v σ' H' J' s' r'=>w v H' J' s'.out r'
      | new n d'=>
        cases e;rintro v σ' H' J' s' ⟨B,fp,_,ru,_,hb,_⟩;have u:=s'.out
        refine w v H' (fun b=>J' b\/b∈B) ⟨u.same,fun a h=>.inl (u.jj a h),fun a h=>?_,fun a h=>?_⟩ (ru.rp (fun _ h=>.inl h) (fun b hb=>.inr hb))
        ·rcases h with h | h
         ·exact u.jn a h
         ·exact .inr (hb a h).2
        ·rcases h with h | h
         ·exact u.ja a h
         ·obtain⟨o,e,_⟩:=ru.some a h;rw[e];simp
    | bk _=>cases e
    | ct _=>cases e
end
def c0 (b:Option D):List D->Option D | []=>b | _=>none
def c1 (b:D->Option D):List D->Option D | [x]=>b x | _=>none
def c2 (b:D->D->Option D):List D->Option D | [x,y]=>b x y | _=>none
def c3 (b:D->D->D->Option D):List D->Option D | [x,y,z]=>b x y z | _=>none
def c4 (b:D->D->D->D->Option D):List D->Option D | [x,y,z,u]=>b x y z u | _=>none
def c5 (b:D->D->D->D->D->Option D):List D->Option D | [x,y,z,u,v]=>b x y z u v | _=>none
def c6 (b:D->D->D->D->D->D->Option D):List D->Option D | [x,y,z,u,v,t]=>b x y z u v t | _=>none
theorem zd5 {b:D->Option D}:∀ds d,c1 b ds=some d->ds.length=1:=fun ds d h=>by unfold c1 at h;split at h;rfl;cases h
theorem c2_len {b:D->D->Option D}:∀ds d,c2 b ds=some d->ds.length=2:=fun ds d h=>by unfold c2 at h;split at h;rfl;cases h
theorem c3_len {b:D->D->D->Option D}:∀ds d,c3 b ds=some d->ds.length=3:=fun ds d h=>by unfold c3 at h;split at h;rfl;cases h
section
variable {R:Type}{k:Out->Option R}{φ:D->Option R}{g:FS}{n:List SV}
theorem zgZ {b:D->Option D}(h:∀x,EvS k φ g (.val x::n) (b x)):∀ds:List D,ds.length=1->EvS k φ g (ds.map SV.val++n) (c1 b ds)
 | [x],_=>h x
theorem zc4 {b:D->D->Option D}(h:∀x y,EvS k φ g (.val x::.val y::n) (b x y)):∀ds:List D,ds.length=2->EvS k φ g (ds.map SV.val++n) (c2 b ds)
 | [x,y],_=>h x y
theorem zoP {b:D->D->D->Option D}(h:∀x y z,EvS k φ g (.val x::.val y::.val z::n) (b x y z)):∀ds:List D,ds.length=3->EvS k φ g (ds.map SV.val++n) (c3 b ds)
 | [x,y,z],_=>h x y z
end
mutual
inductive Rh (h:Heap):Value->D->Prop
 | non:Rh h .none .non
 | bl (b:Bool):Rh h (.bool b) (.bl b)
 | int (i:Int) (t:Tok):Rh h (.int i t) (.int i)
 | str (x:Str) (t:Tok):Rh h (.str x t) (.str x)
 | tup {l:Addr}{us:List Value}{ds:List D}(p:h.IsTuple l us.toArray) (r:RhL h us ds):Rh h (.ref l) (.tup ds)
 | lst {l:Addr}{us:List Value}{ds:List D}(p:h.IsList l us.toArray) (r:RhL h us ds):Rh h (.ref l) (.lst ds)
inductive RhL (h:Heap):List Value->List D->Prop
 | nil:RhL h [] []
 | cons {u:Value}{d:D}{us:List Value}{ds:List D}(a:Rh h u d) (t:RhL h us ds):RhL h (u::us) (d::ds)
end
mutual
def ndD:D->Bool
 | .dct _ _=>false
 | .scr _=>false
 | .exc _ _ _=>false
 | .tup ds=>ndL ds
 | .lst ds=>ndL ds
 | _=>true
def ndL:List D->Bool
 | []=>true
 | d::ds=>ndD d&&ndL ds
end
mutual
def depD:D->Nat
 | .tup ds=>depL ds+1
 | .lst ds=>depL ds+1
 | _=>0
def depL:List D->Nat
 | []=>0
 | d::ds=>max (depD d) (depL ds)
end
mutual
def eqOk:D->D->Bool
 | .non,.non=>true
 | .non,.int _=>true
 | .non,.str _=>true
 | .int _,.non=>true
 | .str _,.non=>true
 | .int _,.int _=>true
 | .str _,.str _=>true
 | .int _,.str _=>true
 | .str _,.int _=>true
 | .bl _,.bl _=>true
 | .tup xs,.tup ys=>zez xs ys
 | .lst xs,.lst ys=>zez xs ys
 | .non,.tup _=>true
 | .tup _,.non=>true
 | .non,.lst _=>true
 | .lst _,.non=>true
 | _,_=>false
def zez:List D->List D->Bool
 | x::xs,y::ys=>eqOk x y&&zez xs ys
 | _,_=>true
end
section
variable {X:Cx}{pins:List (Addr×Obj)}{σ:L2.St}{H:Hp}{J:Addr->Prop}{s:Shared}
mutual
theorem Rp.rh (I:Inv X pins σ H s){v:V}{d:D}:Rp X.K H J v d->ndD d=true->∀{u:Value},RelV v u->Rh s.heap u d
 | .non,_,_,q=>by cases q;exact .non
 | .bl b,_,_,q=>by cases q;exact .bl b
 | .int i,_,_,q=>by obtain⟨t,rfl⟩:=q;exact .int i t
 | .str x,_,_,q=>by obtain⟨t,rfl⟩:=q;exact .str x t
 | .tup h r,n,_,q=>by
   cases q;obtain⟨its,rv,pt,_⟩:=I.tuple h;exact .tup pt (RpL.rh I r n rv)
 | .lst h j r,n,_,q=>by
   cases q;obtain⟨its,rv,pt,_⟩:=I.list (SqL.of h);exact .lst pt.isList (RpL.rh I r n rv)
 | .dct h j ek ev r,n,_,q=>by cases n
 | .scr p,n,_,q=>by cases n
 | .exc _ _,n,_,q=>by cases n
theorem RpL.rh (I:Inv X pins σ H s){vs:List V}{ds:List D}:RpL X.K H J vs ds->ndL ds=true->∀{us:List Value},Vals vs us->RhL s.heap us ds
 | .nil,_,us,q=>by cases q;exact .nil
 | .cons h t,n,us,q=>by
   have n:(ndD _&&ndL _)=true:=n
   rw[waB] at n;cases q with
   | cons q1 q2=>exact .cons (Rp.rh I h n.1 q1) (RpL.rh I t n.2 q2)
end
theorem RpW.rh (I:Inv X pins σ H s){v:V}{d:D}(r:RpW X.K H J v d)(n:ndD d=true){u:Value}(q:RelV v u):Rh s.heap u d:=by
 rcases r with r | ⟨A,r⟩
 ·exact r.rh I n q
 ·have w:RpW X.K H J v d:=.inr ⟨A,r⟩
  cases r with
  | lst h r=>
    obtain⟨p,vs,e,hp,rl⟩:=w.lst;cases e;cases q;obtain⟨its,rv,pt,_⟩:=I.list (SqL.of hp);exact .lst pt.isList (RpL.rh I rl n rv)
  | dct h ek ev r=>cases n
end
section
variable {h:Heap}
theorem RhL.length:∀{us:List Value}{ds:List D},RhL h us ds->us.length=ds.length
 | _,_,.nil=>rfl
 | _,_,.cons _ t=>by simp[RhL.length t]
theorem RhL.get:∀{us:List Value}{ds:List D},RhL h us ds->∀(i:Nat) (hi:i<us.length) (hj:i<ds.length),Rh h us[i] ds[i]
 | _,_,.cons a _,0,_,_=>a
 | _,_,.cons _ t,i+1,hi,hj=>RhL.get t i (by simpa using hi) (by simpa using hj)
theorem zdC {l:Addr}{us ws:List Value}(p:h.IsTuple l us.toArray)(q:h.IsTuple l ws.toArray):us=ws:=by
 obtain⟨o,e,_,_,d⟩:=p;obtain⟨o',e',_,_,d'⟩:=q;rw[e] at e';cases e';rw[d] at d';injection d' with d1 _
 simpa using waN Array.toList d1
theorem zd6 {l:Addr}{us ws:List Value}(p:h.IsList l us.toArray)(q:h.IsList l ws.toArray):us=ws:=by
 obtain⟨o,e,_,_,d⟩:=p;obtain⟨o',e',_,_,d'⟩:=q;rw[e] at e';cases e';rw[d] at d';injection d' with d1 _
 simpa using waN Array.toList d1
theorem zcr {l:Addr}{us ws:Array Value}(p:h.IsTuple l us)(q:h.IsList l ws):False:=by
 obtain⟨o,e,c,_⟩:=p;obtain⟨o',e',c',_⟩:=q;rw[e] at e';cases e';rw[c] at c';simp at c'
mutual
theorem Rh.inj:∀{d e:D}{u:Value},Rh h u d->Rh h u e->d=e
 | _,_,_,.non,q=>by cases q;rfl
 | _,_,_,.bl b,q=>by cases q;rfl
 | _,_,_,.int i t,q=>by cases q;rfl
 | _,_,_,.str x t,q=>by cases q;rfl
 | _,_,_,.tup p r,q=>by
   cases q with
   | tup p' r'=>cases zdC p p';rw[RhL.inj r r']
   | lst p' r'=>exact(zcr p p').elim
 | _,_,_,.lst p r,q=>by
   cases q with
   | lst p' r'=>cases zd6 p p';rw[RhL.inj r r']
   | tup p' r'=>exact(zcr p' p).elim
theorem RhL.inj:∀{ds es:List D}{us:List Value},RhL h us ds->RhL h us es->ds=es
 | _,_,_,.nil,q=>by cases q;rfl
 | _,_,_,.cons a t,q=>by
   cases q with
   | cons a' t'=>rw[Rh.inj a a',RhL.inj t t']
end
end
theorem zdD:∀{xs ys:List D},zez xs ys=true->∀(i:Nat) (hi:i<xs.length) (hj:i<ys.length),eqOk xs[i] ys[i]=true
 | x::xs,y::ys,h,i,hi,hj=>by
   have h:(eqOk x y&&zez xs ys)=true:=h
   rw[waB] at h;cases i with
   | zero=>exact h.1
   | succ i=>exact zdD h.2 i (by simpa using hi) (by simpa using hj)
theorem zeA:∀{xs:List D}(i:Nat) (hi:i<xs.length),depD xs[i]<=depL xs
 | x::xs,i,hi=>by
   cases i with
   | zero=>exact Nat.le_max_left _ _
   | succ i=>exact wai (zeA i (by simpa using hi)) (Nat.le_max_right _ _)
theorem zbv (xs ys:List D):((List.range (min xs.length ys.length)).all (fun j=>decide (xs[j]?=ys[j]?))&&xs.length == ys.length)=decide (xs=ys):=by
 rw[wbC];simp only[waB,waQ,wbo,decide_eq_true_eq,beq_iff_eq];constructor
 ·rintro⟨a,b⟩;refine List.ext_getElem? fun j=>?_
  by_cases hj:j<min xs.length ys.length
  ·exact a j hj
  ·rw[waI (by omega),waI (by omega)]
 ·rintro rfl;exact⟨fun _ _=>rfl,rfl⟩
theorem zbF {p:Prop}[Decidable p](h:¬p):false=decide p:=(war h).symm
theorem zhX {xs ys:List D}(j:Nat)(h1:j<xs.length)(h2:j<ys.length):decide (xs[j]=ys[j])=decide (xs[j]?=ys[j]?):=by
 rw[wat h1,wat h2];exact zam ⟨fun z=>by rw[z],fun z=>wau z⟩
theorem zek (i j:Int):decide (D.int i=D.int j)=(i == j):=by rw[wcc];exact zam ⟨fun z=>by cases z;rfl,fun z=>by rw[z]⟩
theorem zel (i j:Str):decide (D.str i=D.str j)=(i == j):=by rw[wcc];exact zam ⟨fun z=>by cases z;rfl,fun z=>by rw[z]⟩
theorem zf9 (i j:Bool):decide (D.bl i=D.bl j)=(i == j):=by rw[wcc];exact zam ⟨fun z=>by cases z;rfl,fun z=>by rw[z]⟩
section
variable {A:Around}{s:Shared}
theorem zgp {v:Value}{e:D}(hu:A.units<cLine)(rv:Rh s.heap v e)(ho:eqOk .non e=true):SeqAt.EqAt A s .none v (decide (D.non=e)):=by
 cases rv with
 | non=>exact SeqAt.EqAt.same _
 | bl b=>cases ho
 | int i t=>rw[<-zbF (fun z=>by cases z)];exact SeqAt.EqAt.none_int _ _
 | str x t=>rw[<-zbF (fun z=>by cases z)];exact SeqAt.EqAt.none_str _ _
 | tup p r=>rw[<-zbF (fun z=>by cases z)];exact SeqAt.EqAt.none_tuple p hu
 | lst p r=>rw[<-zbF (fun z=>by cases z)];exact SeqAt.EqAt.none_list p hu
theorem zhY {v:Value}{e:D}{b:Bool}(rv:Rh s.heap v e)(ho:eqOk (.bl b) e=true):SeqAt.EqAt A s (.bool b) v (decide (D.bl b=e)):=by
 cases rv with
 | bl c=>rw[zf9];exact SeqAt.EqAt.bool_bool _ _
 | non=>cases ho
 | int i t=>cases ho
 | str x t=>cases ho
 | tup p r=>cases ho
 | lst p r=>cases ho
theorem zem {v:Value}{e:D}{b:Int}{u:Tok}(rv:Rh s.heap v e)(ho:eqOk (.int b) e=true):SeqAt.EqAt A s (.int b u) v (decide (D.int b=e)):=by
 cases rv with
 | int i t=>rw[zek];exact SeqAt.EqAt.int_int _ _ _ _
 | non=>rw[<-zbF (fun z=>by cases z)];exact SeqAt.EqAt.int_none _ _
 | bl c=>cases ho
 | str x t=>rw[<-zbF (fun z=>by cases z)];exact SeqAt.EqAt.int_str _ _ _ _
 | tup p r=>cases ho
 | lst p r=>cases ho
theorem zgq {v:Value}{e:D}{b:Str}{u:Tok}(rv:Rh s.heap v e)(ho:eqOk (.str b) e=true):SeqAt.EqAt A s (.str b u) v (decide (D.str b=e)):=by
 cases rv with
 | str i t=>rw[zel];exact SeqAt.EqAt.str_str _ _ _ _
 | non=>rw[<-zbF (fun z=>by cases z)];exact SeqAt.EqAt.str_none _ _
 | bl c=>cases ho
 | int x t=>rw[<-zbF (fun z=>by cases z)];exact SeqAt.EqAt.str_int _ _ _ _
 | tup p r=>cases ho
 | lst p r=>cases ho
theorem znm {l l':Addr}{us us':List Value}{ds ds':List D}(hu:A.units<cLine)(p:s.heap.IsTuple l us.toArray)(p':s.heap.IsTuple l' us'.toArray)(r:RhL s.heap us ds)(r':RhL s.heap us' ds')
 (he:∀j (h1:j<us.toArray.size) (h2:j<us'.toArray.size),SeqAt.EqAt A.in1 s us.toArray[j] us'.toArray[j] (decide (ds[j]?=ds'[j]?))):SeqAt.RcAt A s (.ref l) (.ref l') (decide (D.tup ds=D.tup ds')):=by
 have q:=SeqAt.RcAt.tuples p p' hu he
 rw[wab,wab,r.length,r'.length,zbv] at q;rw[zam (show D.tup ds=D.tup ds'↔ds=ds' from⟨fun z=>by cases z;rfl,fun z=>by rw[z]⟩)];exact q
theorem znn {l l':Addr}{us us':List Value}{ds ds':List D}(hu:A.units<cLine)(p:s.heap.IsList l us.toArray)(p':s.heap.IsList l' us'.toArray)(r:RhL s.heap us ds)(r':RhL s.heap us' ds')
 (he:∀j (h1:j<us.toArray.size) (h2:j<us'.toArray.size),SeqAt.EqAt A.in1 s us.toArray[j] us'.toArray[j] (decide (ds[j]?=ds'[j]?))):SeqAt.RcAt A s (.ref l) (.ref l') (decide (D.lst ds=D.lst ds')):=by
 rw[zam (show D.lst ds=D.lst ds'↔ds=ds' from⟨fun z=>by cases z;rfl,fun z=>by rw[z]⟩)];by_cases hz:ds.length=ds'.length
 ·have hsz:us.toArray.size=us'.toArray.size:=by simp only[wab];rw[r.length,r'.length,hz]
  have q:=SeqAt.RcAt.lists p p' hsz hu he
  have e1:=zbv ds ds'
  rw[hz,Nat.min_self,beq_self_eq_true,Bool.and_true,<-hz] at e1;rw[wab,r.length,e1] at q;exact q
 ·have q:=SeqAt.RcAt.lists_lengths p p' (by simp only[wab,r.length,r'.length];simpa using hz) hu
  rw[war (fun z=>hz (by rw[z]))];exact q
end
theorem zkC:∀(n:Nat) {A:Around}{s:Shared}{u v:Value}{d e:D},depD d<=n->A.units+n<cLine->Rh s.heap u d->Rh s.heap v e->eqOk d e=true->SeqAt.EqAt A s u v (decide (d=e)):=by
 intro n;induction n with
 | zero=>
   intro A s u v d e hn hu ru rv ho;cases ru with
   | non=>exact zgp (by omega) rv ho
   | bl b=>exact zhY rv ho
   | int i t=>exact zem rv ho
   | str x t=>exact zgq rv ho
   | tup p r=>exact absurd hn (Nat.not_succ_le_zero _)
   | lst p r=>exact absurd hn (Nat.not_succ_le_zero _)
 | succ n ih=>
   intro A s u v d e hn hu ru rv ho;have hu0:A.units<cLine:=by omega
   have he:∀{us us':List Value}{ds ds':List D}(r:RhL s.heap us ds) (r':RhL s.heap us' ds') (hd:depL ds<=n) (ho:zez ds ds'=true),∀j (h1:j<us.toArray.size) (h2:j<us'.toArray.size),SeqAt.EqAt A.in1 s us.toArray[j] us'.toArray[j] (decide (ds[j]?=ds'[j]?)):=fun {us us' ds ds'} r r' hd ho j h1 h2=>by
    simp only[wab] at h1 h2;have g1:j<ds.length:=by rw[<-r.length];exact h1
    have g2:j<ds'.length:=by rw[<-r'.length];exact h2
    have q:=ih (A:=A.in1) (wai (zeA j g1) hd) (show A.units+1+n<cLine by omega) (r.get j h1 g1) (r'.get j h2 g2) (zdD ho j g1 g2)
    rw[zhX j g1 g2] at q;exact q
   cases ru with
   | non=>exact zgp hu0 rv ho
   | bl b=>exact zhY rv ho
   | int i t=>exact zem rv ho
   | str x t=>exact zgq rv ho
   | tup p r=>
     rename_i l us ds
     have hd:depL ds<=n:=wba hn
     cases rv with
     | tup p' r'=>
       rename_i l' us' ds'
       by_cases hl:l=l'
       ·subst hl;cases zdC p p';rw[r.inj r',wax rfl];exact SeqAt.EqAt.same _
       ·exact SeqAt.EqAt.of_refs hl (znm hu0 p p' r r' (he r r' hd ho))
     | non=>rw[<-zbF (fun z=>by cases z)];exact SeqAt.EqAt.tuple_none p hu0
     | bl c=>cases ho
     | int i t=>cases ho
     | str x t=>cases ho
     | lst p' r'=>cases ho
   | lst p r=>
     rename_i l us ds
     have hd:depL ds<=n:=wba hn
     cases rv with
     | lst p' r'=>
       rename_i l' us' ds'
       by_cases hl:l=l'
       ·subst hl;cases zd6 p p';rw[r.inj r',wax rfl];exact SeqAt.EqAt.same _
       ·exact SeqAt.EqAt.of_refs hl (znn hu0 p p' r r' (he r r' hd ho))
     | non=>rw[<-zbF (fun z=>by cases z)];exact SeqAt.EqAt.list_none p hu0
     | bl c=>cases ho
     | int i t=>cases ho
     | str x t=>cases ho
     | tup p' r'=>cases ho
end VD
namespace VD
open PySem PySem.Spec PyProof PyProof.Rows L2
section
variable {A:Around}{s:Shared}{u v:Value}{d e:D}
theorem zjp {n:Nat}(hu:A.units+1+n<cLine){us us':List Value}{ds ds':List D}(r:RhL s.heap us ds)(r':RhL s.heap us' ds')(hd:depL ds<=n)(ho:zez ds ds'=true):∀j (h1:j<us.toArray.size) (h2:j<us'.toArray.size),SeqAt.EqAt A.in1 s us.toArray[j] us'.toArray[j] (decide (ds[j]?=ds'[j]?)):=fun j h1 h2=>by
 simp only[wab] at h1 h2;have g1:j<ds.length:=by rw[<-r.length];exact h1
 have g2:j<ds'.length:=by rw[<-r'.length];exact h2
 have q:=zkC n (A:=A.in1) (wai (zeA j g1) hd) hu (r.get j h1 g1) (r'.get j h2 g2) (zdD ho j g1 g2)
 rw[zhX j g1 g2] at q;exact q
theorem zno {n:Nat}(hu:A.units+1+n<cLine)(hn:depD d<=n+1)(ru:Rh s.heap u d)(rv:Rh s.heap v e)(ho:eqOk d e=true):SeqAt.RcAt A s u v (decide (d=e)):=by
 have hu0:A.units<cLine:=by omega
 cases ru with
 | non=>
   cases rv with
   | non=>exact SeqAt.RcAt.none_none
   | bl b=>cases ho
   | int i t=>rw[<-zbF (fun z=>by cases z)];exact SeqAt.RcAt.none_int _ _
   | str x t=>rw[<-zbF (fun z=>by cases z)];exact SeqAt.RcAt.none_str _ _
   | tup p r=>rw[<-zbF (fun z=>by cases z)];exact SeqAt.RcAt.none_tuple p hu0
   | lst p r=>rw[<-zbF (fun z=>by cases z)];exact SeqAt.RcAt.none_list p hu0
 | bl b=>
   cases rv with
   | bl c=>rw[zf9];exact SeqAt.RcAt.bool_bool _ _
   | non=>cases ho
   | int i t=>cases ho
   | str x t=>cases ho
   | tup p r=>cases ho
   | lst p r=>cases ho
 | int i t=>
   cases rv with
   | int i t=>rw[zek];exact SeqAt.RcAt.int_int _ _ _ _
   | non=>rw[<-zbF (fun z=>by cases z)];exact SeqAt.RcAt.int_none _ _
   | str x t=>rw[<-zbF (fun z=>by cases z)];exact SeqAt.RcAt.int_str _ _ _ _
   | bl b=>cases ho
   | tup p r=>cases ho
   | lst p r=>cases ho
 | str x t=>
   cases rv with
   | str i t=>rw[zel];exact SeqAt.RcAt.str_str _ _ _ _
   | non=>rw[<-zbF (fun z=>by cases z)];exact SeqAt.RcAt.str_none _ _
   | int x t=>rw[<-zbF (fun z=>by cases z)];exact SeqAt.RcAt.str_int _ _ _ _
   | bl b=>cases ho
   | tup p r=>cases ho
   | lst p r=>cases ho
 | tup p r=>
   cases rv with
   | tup p' r'=>exact znm hu0 p p' r r' (zjp hu r r' (wba hn) ho)
   | non=>rw[<-zbF (fun z=>by cases z)];exact SeqAt.RcAt.tuple_none p hu0
   | int i t=>cases ho
   | bl b=>cases ho
   | str x t=>cases ho
   | lst p r=>cases ho
 | lst p r=>
   cases rv with
   | lst p' r'=>exact znn hu0 p p' r r' (zjp hu r r' (wba hn) ho)
   | non=>rw[<-zbF (fun z=>by cases z)];exact SeqAt.RcAt.list_none p hu0
   | int i t=>cases ho
   | bl b=>cases ho
   | str x t=>cases ho
   | tup p r=>cases ho
theorem zdX {p:Prop}[Decidable p](h:¬p):true = !decide p:=by rw[war h];rfl
theorem zjq {n:Nat}(hu:A.units+1+n<cLine)(hn:depD d<=n+1)(ru:Rh s.heap u d)(rv:Rh s.heap v e)(ho:eqOk d e=true):SeqAt.RcNeAt A s u v (!decide (d=e)):=by
 have hu0:A.units<cLine:=by omega
 cases ru with
 | non=>
   cases rv with
   | non=>rw[wax rfl];exact SeqAt.RcNeAt.none_none
   | bl b=>cases ho
   | int i t=>rw[<-zdX (fun z=>by cases z)];exact SeqAt.RcNeAt.none_int _ _
   | str x t=>rw[<-zdX (fun z=>by cases z)];exact SeqAt.RcNeAt.none_str _ _
   | tup p r=>rw[<-zdX (fun z=>by cases z)];exact SeqAt.RcNeAt.none_tuple p hu0
   | lst p r=>rw[<-zdX (fun z=>by cases z)];exact SeqAt.RcNeAt.none_list p hu0
 | bl b=>
   cases rv with
   | bl c=>rw[zf9];exact SeqAt.RcNeAt.bool_bool _ _
   | non=>cases ho
   | int i t=>cases ho
   | str x t=>cases ho
   | tup p r=>cases ho
   | lst p r=>cases ho
 | int i t=>
   cases rv with
   | int i t=>rw[zek];exact SeqAt.RcNeAt.int_int _ _ _ _
   | non=>rw[<-zdX (fun z=>by cases z)];exact SeqAt.RcNeAt.int_none _ _
   | str x t=>rw[<-zdX (fun z=>by cases z)];exact SeqAt.RcNeAt.int_str _ _ _ _
   | bl b=>cases ho
   | tup p r=>cases ho
   | lst p r=>cases ho
 | str x t=>
   cases rv with
   | str i t=>rw[zel];exact SeqAt.RcNeAt.str_str _ _ _ _
   | non=>rw[<-zdX (fun z=>by cases z)];exact SeqAt.RcNeAt.str_none _ _
   | int x t=>rw[<-zdX (fun z=>by cases z)];exact SeqAt.RcNeAt.str_int _ _ _ _
   | bl b=>cases ho
   | tup p r=>cases ho
   | lst p r=>cases ho
 | tup p r=>
   cases rv with
   | tup p' r'=>
     rename_i us ds l' us' ds'
     have q:=SeqAt.RcNeAt.tuples p p' hu0 (zjp hu r r' (wba hn) ho)
     rw[wab,wab,r.length,r'.length,zbv] at q;rw[zam (show D.tup ds=D.tup ds'↔ds=ds' from⟨fun z=>by cases z;rfl,fun z=>by rw[z]⟩)];exact q
   | non=>rw[<-zdX (fun z=>by cases z)];exact SeqAt.RcNeAt.tuple_none p hu0
   | int i t=>cases ho
   | bl b=>cases ho
   | str x t=>cases ho
   | lst p r=>cases ho
 | lst p r=>
   cases rv with
   | lst p' r'=>
     rename_i us ds l' us' ds'
     rw[zam (show D.lst ds=D.lst ds'↔ds=ds' from⟨fun z=>by cases z;rfl,fun z=>by rw[z]⟩)];by_cases hz:ds.length=ds'.length
     ·have hsz:us.toArray.size=us'.toArray.size:=by simp only[wab];rw[r.length,r'.length,hz]
      have q:=SeqAt.RcNeAt.lists p p' hsz hu0 (zjp hu r r' (wba hn) ho)
      have e1:=zbv ds ds'
      rw[hz,Nat.min_self,beq_self_eq_true,Bool.and_true,<-hz] at e1;rw[wab,r.length,e1] at q;exact q
     ·have q:=SeqAt.RcNeAt.lists_lengths p p' (by simp only[wab,r.length,r'.length];simpa using hz) hu0
      rw[war (fun z=>hz (by rw[z]))];exact q
   | non=>rw[<-zdX (fun z=>by cases z)];exact SeqAt.RcNeAt.list_none p hu0
   | int i t=>cases ho
   | bl b=>cases ho
   | str x t=>cases ho
   | tup p r=>cases ho
end
def eqC (d e:D):Bool:=eqOk d e&&ndD d&&ndD e&&decide (depD d<=40)
def dEqG (neg:Bool)(d e:D):Option D:=if eqC d e=true then some (.bl (if neg then !decide (d=e) else decide (d=e))) else none
def rEqG (K:W.Frag)(neg:Bool):R2:=fun x y H Q=>∃J d e,RpW K H J x d/\RpW K H J y e/\eqC d e=true/\Q (.bl (if neg then !decide (d=e) else decide (d=e))) H
theorem zgr {d e:D}(h:eqC d e=true):eqOk d e=true/\ndD d=true/\ndD e=true/\depD d<=40:=by
 unfold eqC at h;simp only[waB,decide_eq_true_eq] at h;exact⟨h.1.1.1,h.1.1.2,h.1.2,h.2⟩
section
variable {X:Cx}{K:W.Frag}{k:Nat}
theorem zdE (hr:Room k X.A):OpR X (compareOp .Eq) (rEqG X.K false):=by
 intro pins s σ H x y v u Q I rx ry ⟨J,d,e,r1,r2,hc,q⟩;obtain⟨ho,n1,n2,hd⟩:=zgr hc;have:=hr.units
 exact zno (n:=40) (by omega) (by omega) (r1.rh I n1 rx) (r2.rh I n2 ry) ho _ _ _ _ ⟨.bl _,H,I,rfl,q⟩
theorem znp (hr:Room k X.A):OpR X (compareOp .NotEq) (rEqG X.K true):=by
 intro pins s σ H x y v u Q I rx ry ⟨J,d,e,r1,r2,hc,q⟩;obtain⟨ho,n1,n2,hd⟩:=zgr hc;have:=hr.units
 exact zjq (n:=40) (by omega) (by omega) (r1.rh I n1 rx) (r2.rh I n2 ry) ho _ _ _ _ ⟨.bl _,H,I,rfl,q⟩
theorem zbG (neg:Bool):Im2 K (rEqG K neg) (dEqG neg):=by
 intro H J x y d e d' Q ja hx hy hF w;unfold dEqG at hF;by_cases hc:eqC d e=true
 ·rw[if_pos hc] at hF;cases hF;exact⟨J,d,e,hx,hy,hc,w _ H J (Up.refl ja) (.bl _)⟩
 ·rw[if_neg hc] at hF;cases hF
end
def inC (x:D)(ds:List D):Bool:=ndD x&&ds.all fun y=>eqC y x
def hasK (ks:List Key)(j:Key):Bool:=ks.any fun k=>decide (k=j)
def dInG (neg:Bool):D->D->Option D
 | x,.lst ds=>if inC x ds=true then some (.bl (if neg then !decide (x∈ds) else decide (x∈ds))) else none
 | x,.tup ds=>if inC x ds=true then some (.bl (if neg then !decide (x∈ds) else decide (x∈ds))) else none
 | x,.dct ks _=>(keyD x).bind fun j=>some (.bl (if neg then !hasK ks j else hasK ks j))
 | _,_=>none
def zlG (K:W.Frag)(neg:Bool):R2:=fun x y H Q=>∃J d ds p vs,RpW K H J x d/\y=.ref p/\(SqL K H p vs\/SqT K H p vs)/\RpL K H J vs ds/\inC d ds=true/\Q (.bl (if neg then !decide (d∈ds) else decide (d∈ds))) H
open Classical in
noncomputable def ze6 (h:Heap)(u:Value):D:=if q:∃d,Rh h u d then q.choose else .non
theorem ze7 {h:Heap}{u:Value}{d:D}(r:Rh h u d):ze6 h u=d:=by
 unfold ze6;have q:∃d,Rh h u d:=⟨d,r⟩
 rw[dif_pos q];exact q.choose_spec.inj r
theorem RhL.mem {h:Heap}:∀{us:List Value}{ds:List D},RhL h us ds->∀u∈us,∃d∈ds,Rh h u d
 | _,_,.cons a t,u,hu=>by
   rcases wag.mp hu with rfl | hu
   ·exact⟨_,wal,a⟩
   ·obtain⟨d,hd,r⟩:=RhL.mem t u hu;exact⟨d,waf _ hd,r⟩
theorem RhL.map {h:Heap}:∀{us:List Value}{ds:List D},RhL h us ds->us.map (ze6 h)=ds
 | _,_,.nil=>rfl
 | _,_,.cons a t=>by rw[wbe,ze7 a,RhL.map t]
theorem zhZ:∀{ds:List D},(∀d∈ds,ndD d=true)->ndL ds=true
 | [],_=>rfl
 | d::ds,h=>by
   show(ndD d&&ndL ds)=true
   rw[h d wal,zhZ fun e he=>h e (waf _ he)];rfl
theorem zdl {h:Heap}{us:List Value}{ds:List D}(r:RhL h us ds)(x:D):us.toArray.any (fun y=>decide (ze6 h y=x))=decide (x∈ds):=by
 rw[List.any_toArray,<-r.map,wbC];simp only[List.any_eq_true,decide_eq_true_eq,waL]
section
variable {X:Cx}{K:W.Frag}{k:Nat}
theorem zdm {A:Around}{s:Shared}{us:List Value}{ds:List D}{x:Value}{d:D}(hu:A.units+1+40<cLine)(r:RhL s.heap us ds)(rx:Rh s.heap x d)(hc:∀y∈ds,eqC y d=true):∀y,y∈us.toArray->SeqAt.EqAt A.in1 s y x (decide (ze6 s.heap y=d)):=fun y hy=>by
 obtain⟨e,he,re⟩:=r.mem y (by simpa using hy);obtain⟨ho,_,_,hd⟩:=zgr (hc e he);rw[ze7 re];exact zkC 40 (A:=A.in1) hd hu re rx ho
theorem zkD {x:D}{ds:List D}(h:inC x ds=true):ndD x=true/\(∀y∈ds,eqC y x=true)/\ndL ds=true:=by
 unfold inC at h;rw[waB,waQ] at h;exact⟨h.1,h.2,zhZ fun y hy=>(zgr (h.2 y hy)).2.1⟩
theorem zo4 (hr:Room k X.A):OpR X (compareOp .In) (zlG X.K false):=by
 intro pins s σ H x y v u Q I rx ry ⟨J,d,ds,p,vs,r1,e,hq,rl,hc,q⟩;subst e;cases ry;have hu:=hr.units
 obtain⟨n1,hc,n2⟩:=zkD hc;rcases hq with hq | hq
 ·obtain⟨its,rv,pl,hz⟩:=I.list hq;refine SeqAt.in_listAt _ pl.isList (zdm (by omega) (rl.rh I n2 rv) (r1.rh I n1 rx) hc) ⟨.bl _,H,I,rfl,?_⟩;rw[zdl (rl.rh I n2 rv)];exact q
 ·obtain⟨its,rv,pl,hz⟩:=I.tuple hq;refine SeqAt.in_tupleAt _ pl (zdm (by omega) (rl.rh I n2 rv) (r1.rh I n1 rx) hc) ⟨.bl _,H,I,rfl,?_⟩;rw[zdl (rl.rh I n2 rv)];exact q
theorem zh0 (hr:Room k X.A):OpR X (compareOp .NotIn) (zlG X.K true):=by
 intro pins s σ H x y v u Q I rx ry ⟨J,d,ds,p,vs,r1,e,hq,rl,hc,q⟩;subst e;cases ry;have hu:=hr.units
 obtain⟨n1,hc,n2⟩:=zkD hc;rcases hq with hq | hq
 ·obtain⟨its,rv,pl,hz⟩:=I.list hq;refine SeqAt.notIn_listAt _ pl.isList (zdm (by omega) (rl.rh I n2 rv) (r1.rh I n1 rx) hc) ⟨.bl _,H,I,rfl,?_⟩;rw[zdl (rl.rh I n2 rv)];exact q
 ·obtain⟨its,rv,pl,hz⟩:=I.tuple hq;refine SeqAt.notIn_tupleAt _ pl (zdm (by omega) (rl.rh I n2 rv) (r1.rh I n1 rx) hc) ⟨.bl _,H,I,rfl,?_⟩;rw[zdl (rl.rh I n2 rv)];exact q
def rInD (neg:Bool):R2:=fun x y H Q=>∃a ov,y=.ref a/\DGet H a x ov/\Q (.bl (if neg then !ov.isSome else ov.isSome)) H
def rInG (K:W.Frag)(neg:Bool):R2:=fun x y H Q=>zlG K neg x y H Q\/rInD neg x y H Q
theorem zjr (hr:Room k X.A):OpR X (compareOp .NotIn) (rInD true):=by
 intro pins s σ H x y v u Q I rx ry ⟨a,ov,e,g,q⟩;subst e;obtain rfl:u=Value.ref a:=ry;exact zlc (zoy hr) I g rx fun s3 I3=>⟨.bl (!ov.isSome),H,I3,rfl,q⟩
theorem zjs (hr:Room k X.A):OpR X (compareOp .NotIn) (rInG X.K true):=(zh0 hr).or (zjr hr)
theorem zh1 {kvs:List (Key×V)}{j:Key}:(valV kvs j).isSome=hasK (kvs.map (·.1)) j:=by
 unfold valV hasK;rw[Option.isSome_map,List.any_map,wbC,List.find?_isSome,List.any_eq_true];rfl
theorem znq (neg:Bool):Im2 K (rInG K neg) (dInG neg):=by
 intro H J x y d e d' Q ja hx hy hF w;cases e with
 | lst ds=>
   have hF:(if inC d ds=true then some (D.bl (if neg then !decide (d∈ds) else decide (d∈ds))) else none)=some d':=hF
   by_cases hc:inC d ds=true
   ·rw[if_pos hc] at hF;cases hF;obtain⟨p,vs,rfl,h1,r1⟩:=hy.lst;exact .inl ⟨J,d,ds,p,vs,hx,rfl,.inl (SqL.of h1),r1,hc,w _ H J (Up.refl ja) (.bl _)⟩
   ·rw[if_neg hc] at hF;cases hF
 | tup ds=>
   have hF:(if inC d ds=true then some (D.bl (if neg then !decide (d∈ds) else decide (d∈ds))) else none)=some d':=hF
   by_cases hc:inC d ds=true
   ·rw[if_pos hc] at hF;cases hF;obtain⟨p,vs,rfl,h1,r1⟩:=hy.tup;exact .inl ⟨J,d,ds,p,vs,hx,rfl,.inr h1,r1,hc,w _ H J (Up.refl ja) (.bl _)⟩
   ·rw[if_neg hc] at hF;cases hF
 | dct ks ds=>
   obtain⟨j,ej,hF⟩:=zaa (show((keyD d).bind fun j=>some (D.bl (if neg then !hasK ks j else hasK ks j)))=some d' from hF);cases hF;obtain⟨p,kvs,vs,rfl,h1,h2,h3,rl⟩:=hy.dct;refine .inr ⟨p,valV kvs j,rfl,?_,?_⟩
   ·rw[znh hx ej];exact DGet.k h1
   ·rw[zh1,h2];exact w _ H J (Up.refl ja) (.bl _)
 | _=>cases hF
end
end VD
namespace Mn
open PySem PySem.Spec PyProof PyProof.Rows
open Sem (wp)
section
variable {prog:Program}{w:World}{A:Around}{R:Result->Shared->Prop}{I:Addr}{fp wr:List Addr}{n:Nat}{P:Nat->Value->Prop}{St:Nat->Heap->Prop}
end
section
variable {prog:Program}{w:World}{A:Around}{E:Value->Shared->Prop}{s:Shared}
end
end Mn
namespace VD
open PySem PySem.Spec PyProof PyProof.Rows L2
mutual
def ltD:D->D->Option Bool
 | .int a,.int b=>some (decide (a<b))
 | .tup xs,.tup ys=>ltL xs ys
 | _,_=>none
def ltL:List D->List D->Option Bool
 | [],[]=>some false
 | x::xs,y::ys=>if eqOk x y=true then(if x=y then ltL xs ys else if xs.length=ys.length then ltD x y else none) else none
 | _,_=>none
end
section
variable {X:Cx}{K:W.Frag}{k:Nat}
end
end VD
namespace VD
open PySem PySem.Spec PyProof PyProof.Rows L2
section
variable {X:Cx}{K:W.Frag}{k:Nat}
end
def EvX {S:Type}(f:FX)(ρ:En)(x:Option (D×S))(emb:S->En):Prop:=∀q,x=some q->f ρ=some (q.1,emb q.2)
def EvAX {S:Type}(f:FAX)(ρ:En)(x:Option (List D×S))(emb:S->En):Prop:=∀q,x=some q->f ρ=some (q.1,emb q.2)
def EvR {S:Type}(f:FR)(ρ:En)(x:Option (RV×S))(emb:S->En):Prop:=∀q,x=some q->f ρ=some (q.1,emb q.2)
def EvAG {S:Type}(f:FAG)(ρ:En)(x:Option (List (Option D)×S))(emb:S->En):Prop:=∀q,x=some q->f ρ=some (q.1,emb q.2)
section
variable {S:Type}{emb:S->En}{ρ:En}{s:S}{f g:FX}{x:Option (D×S)}{y:D×S->Option (D×S)}{e:FE}
theorem zdY (h:emb s=ρ):EvX (xE e) ρ ((e ρ).bind fun d=>some (d,s)) emb:=fun q z=>by
 obtain⟨d,e0,z⟩:=zaa z;cases z;unfold xE;rw[e0,<-h];rfl
theorem zh2 {F:D->D->Option D}(h1:EvX f ρ x emb)(h2:∀q,EvX g (emb q.2) (y q) emb):EvX (x2 F f g) ρ (x.bind fun q=>(y q).bind fun r=>(F q.1 r.1).bind fun d=>some (d,r.2)) emb:=fun q z=>by
 obtain⟨a,e0,z⟩:=zaa z;obtain⟨b,e1,z⟩:=zaa z;obtain⟨d,e2,z⟩:=zaa z;cases z;unfold x2;rw[h1 a e0,zOB,h2 a b e1,zOB,e2];rfl
theorem zh3 {fa:FAX}{xa:Option (List D×S)}(h1:EvAX fa ρ xa emb):EvX (xTup fa) ρ (xa.bind fun q=>(mkT q.1).bind fun d=>some (d,q.2)) emb:=fun q z=>by
 obtain⟨a,e0,z⟩:=zaa z;obtain⟨d,e2,z⟩:=zaa z;cases z;unfold xTup;rw[h1 a e0,zOB,e2];rfl
theorem zb6 {fr:FR}{xr:Option (RV×S)}(h1:EvR fr ρ xr emb):EvX (xR fr) ρ (xr.bind fun q=>some (q.1.d,q.2)) emb:=fun q z=>by
 obtain⟨a,e0,z⟩:=zaa z;cases z;unfold xR;rw[h1 a e0];rfl
theorem zdn (h:emb s=ρ):EvAX axNil ρ (some ([],s)) emb:=fun q z=>by cases z;rw[<-h];rfl
theorem zkE {fl:FA}(h:emb s=ρ):EvAX (xA fl) ρ ((fl ρ).bind fun d=>some (d,s)) emb:=fun q z=>by
 obtain⟨d,e0,z⟩:=zaa z;cases z;unfold xA;rw[e0,<-h];rfl
theorem zap {ga:FAX}{ya:D×S->Option (List D×S)}(h1:EvX f ρ x emb)(h2:∀q,EvAX ga (emb q.2) (ya q) emb):EvAX (axCons f ga) ρ (x.bind fun q=>(ya q).bind fun r=>some (q.1::r.1,r.2)) emb:=fun q z=>by
 obtain⟨a,e0,z⟩:=zaa z;obtain⟨b,e1,z⟩:=zaa z;cases z;unfold axCons;rw[h1 a e0,zOB,h2 a b e1];rfl
theorem zjt (h:emb s=ρ):EvAG agNil ρ (some ([],s)) emb:=fun q z=>by cases z;rw[<-h];rfl
theorem zju {i:Nat}{fg:FAG}{xg:Option (List (Option D)×S)}(ho:(ownD (ρ[i]?)).isSome=true)(h:EvAG fg ρ xg emb):EvAG (agOwn i fg) ρ (xg.bind fun q=>some (none::q.1,q.2)) emb:=fun q z=>by
 obtain⟨a,e0,z⟩:=zaa z;cases z;unfold agOwn;rw[if_pos ho,h a e0];rfl
theorem znr {fg:FAG}{yg:D×S->Option (List (Option D)×S)}(h1:EvX f ρ x emb)(h2:∀q,EvAG fg (emb q.2) (yg q) emb):EvAG (agX f fg) ρ (x.bind fun q=>(yg q).bind fun r=>some (some q.1::r.1,r.2)) emb:=fun q z=>by
 obtain⟨a,e0,z⟩:=zaa z;obtain⟨b,e1,z⟩:=zaa z;cases z;unfold agX;rw[h1 a e0,zOB,h2 a b e1];rfl
def zlH {S:Type}(F:List D->Option (RV×List D))(ks:List (Option Nat))(p n:Nat)(get:S->D)(put:S->D->S)(x:Option (List (Option D)×S)):Option (RV×S):=x.bind fun q=>if q.1.map (agK n)=ks then(F (q.1.map fun o=>o.getD (get q.2))).bind fun r=>(r.2[p]?).bind fun e=>some (r.1,put q.2 e) else none
theorem zjv {ks:List (Option Nat)}{p i n:Nat}{F:List D->Option (RV×List D)}{fg:FAG}{xg:Option (List (Option D)×S)}{get:S->D}{put:S->D->S}(h:EvAG fg ρ xg emb)(hg:∀s,ownD ((emb s)[i]?)=some (n,get s))(hp:∀s e,setO (emb s) i e=emb (put s e)):EvR (xCallG ks p i n F fg) ρ (zlH F ks p n get put xg) emb:=fun q z=>by
 obtain⟨a,e0,z⟩:=zaa z;split at z
 ·rename_i hk
  obtain⟨r,e1,z⟩:=zaa z;obtain⟨e,e2,z⟩:=zaa z;cases z;unfold xCallG;rw[h a e0,zOB];show(if a.1.map (agK n)=ks then match ownD ((emb a.2)[i]?) with
   | some (m,d)=>if m=n then(F (a.1.map fun o=>o.getD d)).bind fun r=>(r.2[p]?).bind fun e=>some (r.1,setO (emb a.2) i e) else none
   | none=>none
   else none)=_
  rw[if_pos hk,hg];show(if n=n then(F (a.1.map fun o=>o.getD (get a.2))).bind fun r=>(r.2[p]?).bind fun e=>some (r.1,setO (emb a.2) i e) else none)=_
  rw[if_pos rfl,e1,zOB,e2,zOB,hp]
 ·cases z
def zcq {S:Type}(F:List D->Option (RV×List D))(put:D->S)(as:List D):Option (RV×S):=(F as).bind fun r=>(r.2[0]?).bind fun e=>some (r.1,put e)
theorem zax {ks:List (Option Nat)}{i n:Nat}{F:List D->Option (RV×List D)}{fg:FAG}{as:List (Option D)}{d:D}{put:D->S}(h:fg ρ=some (as,ρ))(hk:as.map (agK n)=ks)(hg:ownD (ρ[i]?)=some (n,d))(hp:∀e,setO ρ i e=emb (put e)):EvR (xCallG ks 0 i n F fg) ρ (zcq F put (as.map fun o=>o.getD d)) emb:=fun q z=>by
 obtain⟨r,e1,z⟩:=zaa z;obtain⟨e,e2,z⟩:=zaa z;cases z;unfold xCallG;rw[h,zOB];show(if as.map (agK n)=ks then match ownD (ρ[i]?) with
  | some (m,d)=>if m=n then(F (as.map fun o=>o.getD d)).bind fun r=>(r.2[0]?).bind fun e=>some (r.1,setO ρ i e) else none
  | none=>none
  else none)=_
 rw[if_pos hk,hg];show(if n=n then(F (as.map fun o=>o.getD d)).bind fun r=>(r.2[0]?).bind fun e=>some (r.1,setO ρ i e) else none)=_
 rw[if_pos rfl,e1,zOB,e2,zOB,hp]
theorem ze8 {ks:List (Option Nat)}{F:List D->Option (RV×List D)}{fa:FAX}{xa:Option (List D×S)}(h:EvAX fa ρ xa emb):EvR (xCallN ks F fa) ρ (xa.bind fun q=>(F q.1).bind fun r=>if q.1.length=ks.length then some (r.1,q.2) else none) emb:=fun q z=>by
 obtain⟨a,e0,z⟩:=zaa z;obtain⟨r,e1,z⟩:=zaa z;split at z
 ·rename_i hl
  cases z;unfold xCallN;rw[h a e0,zOB];show((F a.1).bind fun r=>if a.1.length=ks.length then some (r.1,emb a.2) else none)=_
  rw[e1,zOB,if_pos hl]
 ·cases z
theorem zh4 {fa:FAX}{xa:Option (List D×S)}(h:EvAX fa ρ xa emb):EvR (xLst fa) ρ (xa.bind fun q=>(mkLs q.1).bind fun ds=>some (.new 1 (.lst ds),q.2)) emb:=fun q z=>by
 obtain⟨a,e0,z⟩:=zaa z;obtain⟨ds,e1,z⟩:=zaa z;cases z;unfold mkLs at e1;split at e1
 ·rename_i hl
  cases e1;unfold xLst;rw[h a e0,zOB];exact if_pos hl
 ·cases e1
def zns (xs:List D)(k:D):Option (D×List D):=(dInt k).bind fun k=>if -1000000<=k/\k<=1000000 then(seqIndex? k xs.length).bind fun j=>(xs[j]?).bind fun d=>some (d,xs.eraseIdx j) else none
theorem znt {i:Nat}{get:S->List D}{put:S->List D->S}(ho:isL1 (ownD (ρ[i]?))=true)(h:EvX f ρ x emb)(hg:∀s,ownD ((emb s)[i]?)=some (1,.lst (get s)))(hp:∀s e,setO (emb s) i (.lst e)=emb (put s e)):EvX (zkz i f) ρ (x.bind fun q=>(zns (get q.2) q.1).bind fun r=>some (r.1,put q.2 r.2)) emb:=fun q z=>by
 obtain⟨a,e0,z⟩:=zaa z;obtain⟨r,e1,z⟩:=zaa z;obtain⟨k,e2,e1⟩:=zaa e1;split at e1
 ·rename_i hk
  obtain⟨j,e3,e1⟩:=zaa e1;obtain⟨d,e4,e1⟩:=zaa e1;cases e1;cases z;unfold zkz;rw[if_pos ho,h a e0,zOB];show((dInt a.1).bind fun k=>match ownD ((emb a.2)[i]?) with
   | some (1,.lst ds)=>if -1000000<=k/\k<=1000000 then(seqIndex? k ds.length).bind fun j=>(ds[j]?).bind fun d=>some (d,setO (emb a.2) i (.lst (ds.eraseIdx j))) else none
   | _=>none)=_
  rw[e2,zOB,hg];show(if -1000000<=k/\k<=1000000 then(seqIndex? k (get a.2).length).bind fun j=>((get a.2)[j]?).bind fun d=>some (d,setO (emb a.2) i (.lst ((get a.2).eraseIdx j))) else none)=_
  rw[if_pos hk,e3,zOB,e4,zOB,hp]
 ·cases e1
theorem zdF {i:Nat}(h:EvX f ρ x emb)(hi:∀s,okS i (emb s)=true):Step (gSetX i f) ρ x fun q=>(emb q.2).set i (.val q.1):=fun q z=>by
 unfold gSetX;rw[h q z,zOB];exact if_pos (zde (hi q.2))
theorem zlI {i:Nat}{get:S->List D}(ho:isL1 (ownD (ρ[i]?))=true)(h:EvX f ρ x emb)(hg:∀s,ownD ((emb s)[i]?)=some (1,.lst (get s))):Step (gAppX i f) ρ (x.bind fun q=>(appL (get q.2) q.1).bind fun ys=>some (ys,q.2)) fun p=>setO (emb p.2) i (.lst p.1):=fun p z=>by
 obtain⟨a,e0,z⟩:=zaa z;obtain⟨ys,e1,z⟩:=zaa z;cases z;unfold appL at e1;split at e1
 ·rename_i hl
  cases e1;unfold gAppX;rw[if_pos ho,h a e0,zOB];show(match ownD ((emb a.2)[i]?) with
   | some (1,.lst ds)=>if ds.length<lim then some (Out.nx (setO (emb a.2) i (.lst (ds++[a.1])))) else none
   | _=>none)=_
  rw[hg];exact if_pos hl
 ·cases e1
section
variable {R A:Type}{k:Out->Option R}{φ:A->Option R}{a b g':FS}
end
end
section
variable {S S0 α A R:Type}{emb:S->En}{emb0:S0->En}{ρ:En}{fi:FAX}{b g:FS}{tg:FG}{xa:Option (List D×S0)}{ini:S0->S}
end
def kG (ks:List (Option Nat)):Out->Option (RV×List D)
 | .ret r ρ=>(outSl ks ρ).bind fun es=>some (r,es)
 | .nx ρ=>(outSl ks ρ).bind fun es=>some (.told .non,es)
 | _=>none
section
variable {P:Program}{w:World}{K:W.Frag}{mg:Str->Option Value}{base:Heap}
theorem zc5 {x qual:Str}{st:Stmt}{f:Addr}{fd:FuncData}{N ps:List Str}{k:Nat}{c:List D->Option (RV×List D)}(ks:List (Option Nat))(F:Fun K x qual st f fd)(S:FnScope N ps (zac st))(hks:ks.length=ps.length)
 (hbody:∀(cdv:Value) (A:Around) (outer:List Env) (s:Shared) (H:Hp) (E:XK),Room k (A.deeper (envOfC qual (zac st) s.heap.objs.size f cdv))->∃g,VSs (cxOf CX0 P w K mg base N qual (zac st) f cdv A outer s H E).nox (zaT st) g/\∀ds,ds.length=ks.length->EvS (kG ks) some g (inSl ks ds++List.replicate (N.length - ks.length) .un) (c ds)) :
 FnOk P w K mg base CX0 (k+1) f fd ps (spG K ks c):=by
 refine F.ok S (fun vs H Q E h=>?_) (fun cdv A outer s H vs Q E hr h=>?_)
 ·obtain⟨J,ds,r,es,fp,ja,a,e,w⟩:=h;rw[a.l1,hks]
 ·obtain⟨J,ds,r,es,fp,ja,a,e,w⟩:=h;obtain⟨g,⟨t,p,q⟩,ev⟩:=hbody cdv A outer s H E hr;refine⟨t,p,?_⟩;have s0:=ze4 (N:=N) ja a
  have e:=ev ds a.l2 (r,es) (by rw[e];rfl)
  cases z:g (inSl ks ds++List.replicate (N.length - ks.length) .un) with
  | none=>rw[z] at e;cases e
  | some o=>
    rw[z] at e;refine q H J _ _ _ H J o _ s0 z ?_;cases o with
    | nx ρ'=>
      obtain⟨es',e1,e⟩:=bind_some (show((outSl ks ρ').bind fun es=>some (RV.told D.non,es))=some (r,es) from e);cases e;intro σ' H' J' s' k';obtain⟨fp',pg⟩:=zjh (v:=.non) (r:=.told .non) a s' .non e1;exact w _ _ _ _ pg
    | ret r' ρ'=>
      obtain⟨es',e1,e⟩:=bind_some (show((outSl ks ρ').bind fun es=>some (r',es))=some (r,es) from e);cases e;intro v σ' H' J' s' q';obtain⟨fp',pg⟩:=zjh a s' q' e1;exact w _ _ _ _ pg
    | bk _=>cases e
    | ct _=>cases e
end
def g1 (b:D->Option (RV×List D)):List D->Option (RV×List D) | [x]=>b x | _=>none
def g2 (b:D->D->Option (RV×List D)):List D->Option (RV×List D) | [x,y]=>b x y | _=>none
def g3 (b:D->D->D->Option (RV×List D)):List D->Option (RV×List D) | [x,y,z]=>b x y z | _=>none
section
variable {R:Type}{k:Out->Option R}{φ:RV×List D->Option R}{g:FS}{n:List SV}{ks:List (Option Nat)}
theorem zoQ {b:D->Option (RV×List D)}(h:∀x,EvS k φ g (inSl ks [x]++n) (b x)):∀ds:List D,ds.length=1->EvS k φ g (inSl ks ds++n) (g1 b ds)
 | [x],_=>h x
theorem zg0 {b:D->D->Option (RV×List D)}(h:∀x y,EvS k φ g (inSl ks [x,y]++n) (b x y)):∀ds:List D,ds.length=2->EvS k φ g (inSl ks ds++n) (g2 b ds)
 | [x,y],_=>h x y
end
section
variable {X:Cx}{K:W.Frag}{k:Nat}
end
end VD
namespace GM
open PySem PySem.Spec PyProof PyProof.Rows L2 VD
structure Bx where
 x:Int
 y:Int
 wd:Int
 hg:Int
def Bx.d (b:Bx):D:=.tup [.int b.x,.int b.y,.int b.wd,.int b.hg]
structure Row where
 deep:Nat
 name:Str
 box:Bx
 word:Str
 rank:Int
 head:Option Str
def zoR:Option Str->D
 | none=>.non
 | some x=>.str x
def Row.d (r:Row):D:=.lst [.int r.deep,.str r.name,r.box.d,.str r.word,.int r.rank,zoR r.head]
def rowsD (L:List Row):D:=.lst (L.map Row.d)
def zh5 (ds:Nat->Nat)(cur:Nat):Nat->List Nat
 | 0=>[]
 | n+1=>if ds n<cur then zh5 ds (ds n) n++[n] else zh5 ds cur n
def dsOf (L:List Row)(k:Nat):Nat:=((L[k]?).map (·.deep)).getD 0
def above (L:List Row)(k:Nat):List Nat:=zh5 (dsOf L) (dsOf L k) k
theorem zg1 {α:Type}(f:Nat->α)(i:Nat):(List.range i).map f++[f i]=(List.range (i+1)).map f:=by rw[List.range_succ,waD];rfl
abbrev abcS:Str:="abcdefghijklmnopqrstuvwxyz"
theorem znu {i:Int}(h0:0<=i)(h1:i<26):atI abcS.cps.toList i=some (97+i.toNat):=by
 have k:∀n:Fin 26,abcS.cps.toList[n.val]?=some (97+n.val):=by decide +kernel
 have hn:i.toNat<26:=by omega
 have e:i=((i.toNat:Nat):Int):=by omega
 rw[e];exact zav (k ⟨i.toNat,hn⟩)
def sg (c:Nat):Str:=⟨#[c]⟩
theorem zlJ (c:Nat)(n:Int)(h:1<=n):(Txt.mul (sg c) n).cps.toList=List.replicate n.toNat c:=by
 unfold Txt.mul;rw[if_neg (by omega)];by_cases h1:n=1
 ·subst h1;rfl
 ·have:(n == 1||(sg c).length == 0)=false:=by
   have:(n == 1)=false:=by simpa using h1
   rw[this];rfl
  rw[this,if_neg (by decide)];have key:∀(k:Nat) (acc:Array Nat),((List.replicate k (sg c).cps).foldl (·++·) acc).toList=acc.toList++List.replicate k c:=by
   intro k;induction k with
   | zero=>intro acc;simp
   | succ k ih=>
     intro acc;rw[waT,List.foldl_cons,ih];show(acc++#[c]).toList++_=_
     rw[wco,wbc];rfl
  show((List.replicate n.toNat (sg c).cps).foldl (·++·) #[]).toList=_
  rw[key];rfl
theorem zdG {α:Type}{f:Nat->α}:∀(m:Nat),(∀i j,i<j->j<m->f i≠f j)->((List.range m).map f).Nodup
 | 0,_=>by simp
 | m+1,h=>by
   rw[List.range_succ,waD];refine wbs.mpr ⟨zdG m fun i j hi hj=>h i j hi (by omega),by simp,fun a ha b hb=>?_⟩;obtain⟨i,hi,rfl⟩:=waL.mp ha;have:=waq.mp hb
   subst this;exact h i m (wbo.mp hi) (by omega)
inductive Tr where
 | mk (name:Str) (box:Bx) (word:Str) (rank:Int) (head:Option Str) (parts:List Tr)
namespace Tr
def name:Tr->Str | mk n _ _ _ _ _=>n
def parts:Tr->List Tr | mk _ _ _ _ _ x=>x
end Tr
def szL:Nat->List Tr->Nat
 | _,[]=>0
 | 0,_=>0
 | n+1,t::r=>1+szL n t.parts+szL (n+1) r
termination_by n ts=>(n,ts.length)
structure Pos' where
 q:List Int
 as:List Tr
 js:List Nat
 t:Tr
def posL:Nat->List Int->Nat->List Tr->List Nat->Nat->List Tr->List Pos'
 | _,_,_,_,_,_,[]=>[]
 | 0,_,_,_,_,_,_=>[]
 | n+1,o,i,as,js,off,t::r=>⟨o++[(i:Int)],as,js,t⟩ ::(posL n (o++[(i:Int)]) 0 (as++[t]) (js++[off]) (off+1) t.parts++posL (n+1) o (i+1) as js (off+1+szL n t.parts) r)
termination_by n _ _ _ _ _ ts=>(n,ts.length)
def Fits:Nat->List Tr->Prop
 | 0,ts=>ts = []
 | n+1,ts=>∀t∈ts,Fits n t.parts
def psOf (ts:List Tr):List Pos':=posL 5 [] 0 [] [] 0 ts
section
variable {ts:List Tr}{L:List Row}
end
end GM
namespace GM
open PySem PySem.Spec PyProof PyProof.Rows L2 VD
theorem zc6 {n:Nat}{i:Nat}{d:D}(h:(zaE 0 n)[i]?=some d):i<n/\d=.int (i:Int):=by
 have hl:(zaE 0 n).length=n:=by simp[zaE]
 have hi:i<n:=by rw[<-hl];exact(wak.mp h).1
 refine⟨hi,?_⟩;unfold zaE at h;rw[wam,wcn hi] at h;simp at h;exact h.symm
theorem zg2 (n:Nat):(zaE 0 n).length=n:=by simp[zaE]
theorem zh6 {α:Type}{xs:List α}{i:Int}(h0:0<=i)(h1:i<xs.length):∃x,xs[i.toNat]?=some x/\atI xs i=some x:=by
 have hi:i.toNat<xs.length:=by omega
 refine⟨xs[i.toNat],wat hi,?_⟩;have e:i=((i.toNat:Nat):Int):=by omega
 have h:=zav (xs:=xs) (wat hi)
 rw[<-e] at h;exact h
theorem zjw:abcS.length<=lim:=by decide +kernel
theorem znv {i:Int}(h0:0<=i)(h1:i<26):dIx (.str abcS) (.int i)=some (.str (sg (97+i.toNat))):=by
 show(if abcS.length<=lim then(atI abcS.cps.toList i).map fun c=>D.str ⟨#[c]⟩ else none)=_
 rw[if_pos zjw,znu h0 h1];rfl
theorem znw (c:Nat):(sg c).length=1:=rfl
theorem znx (c:Nat){n:Int}(h0:-1000<=n)(h1:n<=1000):dMul (.str (sg c)) (.int n)=some (.str (Txt.mul (sg c) n)):=by
 show(if -1000<=n/\n<=1000/\(sg c).length<=1000 then some (D.str (Txt.mul (sg c) n)) else none)=_
 rw[if_pos ⟨h0,h1,by rw[znw];decide⟩]
theorem zd7 {S A α:Type}{f:S->D->Option (Fl S A)}(h:α->D):∀{xs:List α}{s:S},(∀x,x∈xs->f s (h x)=some (.nx s))->zbN f s (xs.map h)=some (.nx s)
 | [],s,_=>rfl
 | x::xs,s,hf=>by
   show(f s (h x)).bind _=_
   rw[hf x wal,zOB];exact zd7 h fun y hy=>hf y (waf _ hy)
theorem zbO {S A:Type}{f:S->D->Option (Fl S A)}{ds:List D}{s:S}(hf:∀x,x∈ds->f s x=some (.nx s)):zbN f s ds=some (.nx s):=by
 have:=zd7 (f:=f) (fun d:D=>d) (xs:=ds) (s:=s) hf
 rwa [List.map_id'] at this
theorem zdH {xs:List D}{d:D}(h:xs.length<lim):appL xs d=some (xs++[d]):=if_pos h
theorem zcP {α:Type}{f:D->Option (Option D)}(h:α->D)(g:α->D){xs:List α}(hl:xs.length<=10000)(hf:∀x,x∈xs->f (h x)=some (some (g x))):zbp f (xs.map h)=some (xs.map g):=by
 unfold zbp;have:zcx f (xs.map h)=some (xs.map g):=by
  clear hl
  induction xs with
  | nil=>rfl
  | cons x xs ih=>
    show(f (h x)).bind _=_
    rw[hf x wal,zOB];show(zcx f (xs.map h)).bind _=_
    rw[ih fun y hy=>hf y (waf _ hy)];rfl
 rw[this,zOB,if_pos];rw[wao];exact wai hl (by decide)
theorem zdo (x y:Str):dEqG false (.str x) (.str y)=some (.bl (decide (x=y))):=by
 show(if eqC (.str x) (.str y)=true then some (D.bl (if false=true then !decide (D.str x=D.str y) else decide (D.str x=D.str y))) else none)=_
 rw[if_pos (by rfl),if_neg (by decide),zam (show D.str x=D.str y↔x=y from⟨fun h=>by cases h;rfl,fun h=>by rw[h]⟩)]
theorem zjx (x y:Str):dEqG true (.str x) (.str y)=some (.bl (!decide (x=y))):=by
 show(if eqC (.str x) (.str y)=true then some (D.bl (if true=true then !decide (D.str x=D.str y) else decide (D.str x=D.str y))) else none)=_
 rw[if_pos (by rfl),if_pos rfl,zam (show D.str x=D.str y↔x=y from⟨fun h=>by cases h;rfl,fun h=>by rw[h]⟩)]
theorem zdp (x y:Int):dEqG false (.int x) (.int y)=some (.bl (decide (x=y))):=by
 show(if eqC (.int x) (.int y)=true then some (D.bl (if false=true then !decide (D.int x=D.int y) else decide (D.int x=D.int y))) else none)=_
 rw[if_pos (by rfl),if_neg (by decide),zam (show D.int x=D.int y↔x=y from⟨fun h=>by cases h;rfl,fun h=>by rw[h]⟩)]
theorem zh7 {d:D}(h:eqC d d=true)(neg:Bool):dEqG neg d d=some (.bl (!neg)):=by
 unfold dEqG;rw[if_pos h,wax rfl];cases neg <;> rfl
theorem zgs {xs:List D}{r:Int}(h0:0<=r)(h1:r<=xs.length):VD.cut xs none (some r)=xs.take r.toNat:=by
 unfold VD.cut HT.sIx;dsimp only[];rw[if_neg (by omega),List.drop_zero,Nat.sub_zero,wbl (by omega)]
end GM
namespace VD
open PySem PySem.Spec PyProof PyProof.Rows L2 PySem.W
section
variable {X:Cx}{a:Expr}{fa:FE}
end
structure Pers (Pc:Hp->Prop):Prop where
 st:∀{fs ex:List Addr}{H H':Hp}{h h':Heap},Un fs ex H H' h h'->Pc H->Pc H'
 sm:∀{H H':Hp},Same H H'->Pc H->Pc H'
def Prs (X:Cx)(Pc:Hp->Prop):Prop:=∀pins σ H s,Inv X pins σ H s->Pc H
theorem Prs.of {X:Cx}{Pc:Hp->Prop}(p:Pers Pc)(h:Pc X.Hz):Prs X Pc:=fun _ _ _ _ I=>p.st I.base h
def pcS (Pc:Hp->Prop)(sp:Sp):Sp:=fun vs H Q E=>Pc H/\sp vs H Q E
structure Scr where
 p:Addr
 ns:List Int
def SqF (K:W.Frag)(S:Scr)(H:Hp):Prop:=(∃o,H S.p=some (.frz o (.lst (S.ns.map V.int))))\/∀H,SqL K H S.p (S.ns.map V.int)
theorem SqF.sq {K:W.Frag}{S:Scr}{H:Hp}(h:SqF K S H):SqL K H S.p (S.ns.map V.int):=by
 rcases h with⟨o,h⟩ | h
 ·exact .inl (.inr ⟨o,h⟩)
 ·exact h H
theorem SqF.of {K:W.Frag}{S:Scr}{H:Hp}(h:SqL K H S.p (S.ns.map V.int))(hf:H S.p≠none->∃o xs,H S.p=some (.frz o (.lst xs))):SqF K S H:=by
 rcases h with(h | ⟨o,h⟩) | h
 ·obtain⟨o,xs,e⟩:=hf (by rw[h];simp);rw[h] at e;cases e
 ·exact .inl ⟨o,h⟩
 ·exact .inr fun _=>.inr h
theorem pers_F {K:W.Frag}{S:Scr}:Pers (SqF K S):=⟨fun u h=>by
 rcases h with⟨o,h⟩ | h
 ·exact .inl ⟨o,u.frzs _ _ _ h⟩
 ·exact .inr h,fun s h=>by
 rcases h with⟨o,h⟩ | h
 ·exact .inl ⟨o,s _ _ h⟩
 ·exact .inr h⟩
section
variable {X:Cx}{a b e:Expr}{es:List Expr}{fa fb:FE}{fl:FA}{p pos:Pos}{Pc:Hp->Prop}
theorem pcP {k k':Nat}{x:Str}{ps:List Str}{sp:Sp}{t:TA}(C:Cal X.prog X.w X.K X.mg X.base k x ps (pcS Pc sp))(hp:Prs X Pc)(hr:Room k' X.A)(ha:PA X (e::es) t)(hk:k<=k')(hg:Gl X x)(hdb:(x == ("__debug__" : Str))=false)
 (he:starEach (e::es) X.env=(false,eval e X.env)::starEach es X.env) (hpl:(backTo pos (starEach es X.env)).any (·.1)=false):PE X (.Call (.Name x p) (e::es) [] pos) (zgT sp [] E0 t):=by
 obtain⟨f,fd,F,hb,hkp,hm⟩:=C.ex;intro pins s σ H Q I h;refine waR (zc1 I hg hm ?_ hdb);refine callWith_K (h₀:=X.base) I.ok.mod.kin hkp (thn (ha pos pins s σ H _ I h) fun us s1 ⟨vs,H1,I1,r,q⟩ =>⟨I1.kIn,?_⟩) he hpl;exact zkf (F.mono hk) hr hb .nil zmK I1 r ⟨hp _ _ _ _ I1,q⟩
theorem zjy {k k':Nat}{x:Str}{ps:List Str}{F:List D->Option D}(C:Cal X.prog X.w X.K X.mg X.base k x ps (pcS Pc (spF X.K F)))(hp:Prs X Pc)(hr:Room k' X.A)(ha:VA X (e::es) fl)(hk:k<=k':=by decide)(hg:Gl X x:=by rfl)(hdb:(x == ("__debug__" : Str))=false:=by decide)
 (he:starEach (e::es) X.env=(false,eval e X.env)::starEach es X.env:=by rfl) (hpl:(backTo pos (starEach es X.env)).any (·.1)=false:=by rfl):VE X (.Call (.Name x p) (e::es) [] pos) (eCall F fl):=by
 obtain⟨t,pa,g⟩:=ha;refine⟨_,pcP C hp hr pa hk hg hdb he hpl,?_⟩;intro Hz Jz O ρ σ H J d Q s e w;obtain⟨ds,e1,e⟩:=bind_some e;refine g Hz Jz O ρ σ H J ds _ s e1 fun vs H1 J1 u1 r1=>?_
 refine⟨J1,ds,d,u1.ja,by rw[waC];exact r1,e,fun v H2 J2 u2 r2=>w v H2 J2 (u1.trans u2) r2⟩
theorem ze9 {fl:FAX}{k k':Nat}{x:Str}{ps:List Str}{ks:List (Option Nat)}{F:List D->Option (RV×List D)}(C:Cal X.prog X.w X.K X.mg X.base k x ps (pcS Pc (spG X.K ks F)))(hp:Prs X Pc)(hr:Room k' X.A)(ha:VAX X (e::es) fl)(hn:ks.all (·.isNone)=true:=by rfl)(hk:k<=k':=by decide)(hg:Gl X x:=by rfl)(hdb:(x == ("__debug__" : Str))=false:=by decide)
 (he:starEach (e::es) X.env=(false,eval e X.env)::starEach es X.env:=by rfl) (hpl:(backTo pos (starEach es X.env)).any (·.1)=false:=by rfl):VR X (.Call (.Name x p) (e::es) [] pos) (xCallN ks F fl):=by
 obtain⟨t,pa,g⟩:=ha;exact⟨_,pcP C hp hr pa hk hg hdb he hpl,zjj hn g _⟩
def lenS (S:Scr):D->Option D
 | .scr q=>if q=S.p then some (.int S.ns.length) else none
 | _=>none
def ixS (S:Scr):D->D->Option D
 | .scr q,.int i=>if q=S.p then(atI S.ns i).map D.int else none
 | _,_=>none
theorem zh8 {S:Scr}{d r:D}(h:lenS S d=some r):d=.scr S.p/\r=.int S.ns.length:=by
 unfold lenS at h;split at h
 ·split at h
  ·rename_i z;rw[z];cases h;exact⟨rfl,rfl⟩
  ·cases h
 ·cases h
theorem zjz {S:Scr}{x y r:D}(h:ixS S x y=some r):∃i n,x=.scr S.p/\y=.int i/\atI S.ns i=some n/\r=.int n:=by
 match x,y,h with
 | .scr q,.int i,h=>
   have h:(if q=S.p then(atI S.ns i).map D.int else none)=some r:=h
   by_cases z:q=S.p
   ·rw[if_pos z] at h;cases hi:atI S.ns i with
    | none=>rw[hi] at h;cases h
    | some n=>rw[hi] at h;cases h;exact⟨i,n,by rw[z],rfl,hi,rfl⟩
   ·rw[if_neg z] at h;cases h
theorem zlK {α β:Type}{f:α->β}{xs:List α}{i:Int}:atI (xs.map f) i=(atI xs i).map f:=by
 unfold atI;rw[wao];cases ixN xs.length i with
 | none=>rfl
 | some j=>simp
theorem zh9 {S:Scr}(hp:Prs X (SqF X.K S))(B:Blt X.mg)(ha:VE X a fa)(hg:Gl X "len":=by rfl)(h1:starEach [a] X.env=(false,eval a X.env)::starEach [] X.env:=by rfl):VE X (.Call (.Name "len" p) [a] [] pos) (e1 (lenS S) fa):=by
 obtain⟨ta,pa,ga⟩:=ha;refine⟨fun σ H Q=>∃Hz Jz O ρ J d,ST X.K Hz Jz O ρ σ H J/\e1 (lenS S) fa ρ=some d/\zfH X.K H J d Q,fun pins s σ H Q I hyp=>?_,fun Hz Jz O ρ σ H J d Q st e w=>⟨Hz,Jz,O,ρ,J,d,st,e,w⟩⟩;obtain⟨Hz,Jz,O,ρ,J,d,st,e,w⟩:=hyp;obtain⟨x,ex,e⟩:=bind_some e;obtain⟨rfl,rfl⟩:=zh8 e;refine pb zeS B PySem.boot_len (zaC pa zbA h1) (by decide +kernel) hg (by decide) (by decide) h1 rfl pins s σ H Q I ?_;refine ga Hz Jz O ρ σ H J _ _ st ex fun v H1 J1 u r=>?_
 cases r;refine⟨S.p,S.ns.map V.int,rfl,.inl (pers_F.sm u.same (hp _ _ _ _ I)).sq,?_⟩;rw[wao];exact w _ H1 J1 u (.int _)
theorem zny {S:Scr}(hp:Prs X (SqF X.K S))(ha:VE X a fa)(hb:VE X b fb)(hs:zct b:=by exact fun _ _=>rfl):VE X (.Subscript a b pos) (e2 (ixS S) fa fb):=by
 obtain⟨ta,pa,ga⟩:=ha;obtain⟨tb,pb,gb⟩:=hb;refine⟨fun σ H Q=>∃Hz Jz O ρ J d,ST X.K Hz Jz O ρ σ H J/\e2 (ixS S) fa fb ρ=some d/\zfH X.K H J d Q,fun pins s σ H Q I hyp=>?_,fun Hz Jz O ρ σ H J d Q st e w=>⟨Hz,Jz,O,ρ,J,d,st,e,w⟩⟩;obtain⟨Hz,Jz,O,ρ,J,d,st,e,w⟩:=hyp;obtain⟨x,ex,e⟩:=bind_some e;obtain⟨y,ey,e⟩:=bind_some e;obtain⟨i,n,rfl,rfl,hi,rfl⟩:=zjz e;refine zgW ix_list pa pb hs pins s σ H Q I ?_;refine ga Hz Jz O ρ σ H J _ _ st ex fun v H1 J1 u r=>?_
 refine gb Hz Jz O ρ σ H1 J1 _ _ (st.up u) ey fun v2 H2 J2 u2 r2=>?_
 cases r;cases r2;exact⟨S.p,_,i,.int n,rfl,rfl,(pers_F.sm u2.same (pers_F.sm u.same (hp _ _ _ _ I))).sq,by rw[zlK,hi];rfl,w _ H2 J2 (u.trans u2) (.int _)⟩
end
section
variable {P:Program}{w:World}{K:W.Frag}{mg:Str->Option Value}{base:Heap}{Pc:Hp->Prop}
theorem zia {x qual:Str}{st:Stmt}{f:Addr}{fd:FuncData}{N ps:List Str}{k:Nat}{c:List D->Option D}(pe:Pers Pc)(F:Fun K x qual st f fd)(S:FnScope N ps (zac st))(hlen:∀ds d,c ds=some d->ds.length=ps.length)
 (hbody:∀(cdv:Value) (A:Around) (outer:List Env) (s:Shared) (H:Hp) (E:XK),fd.code=cdv->Room k (A.deeper (envOfC qual (zac st) s.heap.objs.size f cdv))->Pc H->Prs (cxOf CX0 P w K mg base N qual (zac st) f cdv A outer s H E).nox Pc->∃g,VSs (cxOf CX0 P w K mg base N qual (zac st) f cdv A outer s H E).nox (zaT st) g/\∀ds,ds.length=ps.length->EvS kF some g (ds.map SV.val++List.replicate (N.length - ps.length) .un) (c ds)):FnOk P w K mg base CX0 (k+1) f fd ps (pcS Pc (spF K c)):=by
 refine F.okC S (fun vs H Q E h=>?_) (fun cdv A outer s H vs Q E hcv hr h=>?_)
 ·obtain⟨_,J,ds,d,ja,r,e,w⟩:=h;rw[r.length];exact hlen ds d e
 ·obtain⟨hPc,J,ds,d,ja,r,e,w⟩:=h;have hl:=hlen ds d e
  obtain⟨g,⟨t,p,q⟩,ev⟩:=hbody cdv A outer s H E hcv hr hPc (Prs.of pe hPc);refine⟨t,p,?_⟩;have e:=ev ds hl d (by rw[e];rfl)
  rw[<-hl] at e;have s0:=zev (N:=N) ja r
  cases z:g (ds.map SV.val++List.replicate (N.length - ds.length) .un) with
  | none=>rw[z] at e;cases e
  | some o=>
    rw[z] at e;refine q H J Pr.no _ _ H J o _ s0 z ?_;cases o with
    | nx ρ'=>cases e;exact fun σ' H' J' s' k'=>w .non H' J' s'.out .non
    | ret r ρ'=>
      cases r with
      | told d'=>cases e;exact fun v σ' H' J' s' r'=>w v H' J' s'.out r'
      | new n d'=>
        cases e;rintro v σ' H' J' s' ⟨B,fp,_,ru,_,hb,_⟩;have u:=s'.out
        refine w v H' (fun b=>J' b\/b∈B) ⟨u.same,fun a h=>.inl (u.jj a h),fun a h=>?_,fun a h=>?_⟩ (ru.rp (fun _ h=>.inl h) (fun b hb=>.inr hb))
        ·rcases h with h | h
         ·exact u.jn a h
         ·exact .inr (hb a h).2
        ·rcases h with h | h
         ·exact u.ja a h
         ·obtain⟨o,e,_⟩:=ru.some a h;rw[e];simp
    | bk _=>cases e
    | ct _=>cases e
theorem zlL {x qual:Str}{st:Stmt}{f:Addr}{fd:FuncData}{N ps:List Str}{k:Nat}{c:List D->Option (RV×List D)}(pe:Pers Pc)(ks:List (Option Nat))(F:Fun K x qual st f fd)(S:FnScope N ps (zac st))(hks:ks.length=ps.length)
 (hbody:∀(cdv:Value) (A:Around) (outer:List Env) (s:Shared) (H:Hp) (E:XK),fd.code=cdv->Room k (A.deeper (envOfC qual (zac st) s.heap.objs.size f cdv))->Pc H->Prs (cxOf CX0 P w K mg base N qual (zac st) f cdv A outer s H E).nox Pc->∃g,VSs (cxOf CX0 P w K mg base N qual (zac st) f cdv A outer s H E).nox (zaT st) g/\∀ds,ds.length=ks.length->EvS (kG ks) some g (inSl ks ds++List.replicate (N.length - ks.length) .un) (c ds)) :
 FnOk P w K mg base CX0 (k+1) f fd ps (pcS Pc (spG K ks c)):=by
 refine F.okC S (fun vs H Q E h=>?_) (fun cdv A outer s H vs Q E hcv hr h=>?_)
 ·obtain⟨_,J,ds,r,es,fp,ja,a,e,w⟩:=h;rw[a.l1,hks]
 ·obtain⟨hPc,J,ds,r,es,fp,ja,a,e,w⟩:=h;obtain⟨g,⟨t,p,q⟩,ev⟩:=hbody cdv A outer s H E hcv hr hPc (Prs.of pe hPc);refine⟨t,p,?_⟩;have s0:=ze4 (N:=N) ja a
  have e:=ev ds a.l2 (r,es) (by rw[e];rfl)
  cases z:g (inSl ks ds++List.replicate (N.length - ks.length) .un) with
  | none=>rw[z] at e;cases e
  | some o=>
    rw[z] at e;refine q H J _ _ _ H J o _ s0 z ?_;cases o with
    | nx ρ'=>
      obtain⟨es',e1,e⟩:=bind_some (show((outSl ks ρ').bind fun es=>some (RV.told D.non,es))=some (r,es) from e);cases e;intro σ' H' J' s' k';obtain⟨fp',pg⟩:=zjh (v:=.non) (r:=.told .non) a s' .non e1;exact w _ _ _ _ pg
    | ret r' ρ'=>
      obtain⟨es',e1,e⟩:=bind_some (show((outSl ks ρ').bind fun es=>some (r',es))=some (r,es) from e);cases e;intro v σ' H' J' s' q';obtain⟨fp',pg⟩:=zjh a s' q' e1;exact w _ _ _ _ pg
    | bk _=>cases e
    | ct _=>cases e
end
end VD
namespace L2
open PySem PySem.Spec PyProof PyProof.Rows
section
variable {X:Cx}
end
end L2
namespace VD
open PySem PySem.Spec PyProof PyProof.Rows L2 PySem.W
section
variable {X:Cx}{a b e:Expr}{fa fb:FE}
end
end VD
namespace HT
open PySem PySem.Spec PyProof PyProof.Rows
section
variable {prog:Program}{w:World}{A:Around}{E:Value->Shared->Prop}{s:Shared}
end
end HT
namespace L2
open PySem PySem.Spec PyProof PyProof.Rows
section
variable {X:Cx}
end
end L2
namespace VD
open PySem PySem.Spec PyProof PyProof.Rows L2 PySem.W
section
variable {X:Cx}{a:Expr}{fa:FE}{p2 pos:Pos}
end
end VD
namespace VD
open PySem PySem.Spec PyProof PyProof.Rows L2
def ix2C (xs:List D)(k:D):Option D:=(dInt k).bind fun k=>(atI xs k).bind fun d=>match d with | .lst es=>some (.lst es) | _=>none
def zlM (xs:List D)(es:List D)(k:D):Option (List D):=(dInt k).bind fun k=>(ixN xs.length k).bind fun j=>match xs[j]? with
 | some (.lst _)=>some (xs.set j (.lst es))
 | _=>none
def zjA (xs:List D)(k d:D):Option (List D):=(dInt k).bind fun k=>(ixN xs.length k).bind fun j=>match xs[j]? with
 | some (.lst es)=>if es.length<lim then some (xs.set j (.lst (es++[d]))) else none
 | _=>none
section
variable {ρ:En}{xs:List D}{i:Nat}{fk fv:FE}{f:FA}
theorem zlN (h:ownD (ρ[i]?)=some (2,.lst xs)):Step (zlw i fk f) ρ ((f ρ).bind fun es=>(fk ρ).bind fun k=>zlM xs es k) fun ys=>setO ρ i (.lst ys):=fun d z=>by
 obtain⟨es,e0,z⟩:=zaa z;obtain⟨k,e1,z⟩:=zaa z;obtain⟨kk,e2,z⟩:=zaa z;obtain⟨j,e3,z⟩:=zaa z;unfold zlw;rw[e0,zOB,e1,zOB,e2,zOB,h];show(ixN xs.length kk).bind _=_
 rw[e3,zOB];split at z
 ·rename_i q;cases z;first | rw[q] | rfl
 ·cases z
theorem zlO (h:ownD (ρ[i]?)=some (2,.lst xs)):Step (zlu i fk fv) ρ ((fk ρ).bind fun k=>(fv ρ).bind fun d=>zjA xs k d) fun ys=>setO ρ i (.lst ys):=fun d z=>by
 obtain⟨k,e1,z⟩:=zaa z;obtain⟨x,e0,z⟩:=zaa z;obtain⟨kk,e2,z⟩:=zaa z;obtain⟨j,e3,z⟩:=zaa z;unfold zlu;rw[e1,zOB,e2,zOB,e0,zOB,h];show(ixN xs.length kk).bind _=_
 rw[e3,zOB];split at z
 ·rename_i es q
  try rw[q]
  split at z
  ·rename_i hl;cases z;exact if_pos hl
  ·cases z
 ·cases z
end
section
variable {S:Type}{emb:S->En}{ρ:En}{s:S}{f:FX}{x:Option (D×S)}
end
def zjB (x k v:D):Option D:=match x with
 | .lst xs=>(znl xs k v).bind fun ys=>some (.lst ys)
 | _=>none
theorem zgt {i:Nat}{ρ:En}{fk f:FE}{x:D}(h:ownD (ρ[i]?)=some (1,x)):Step (gPutL i fk (xE f)) ρ ((f ρ).bind fun v=>(fk ρ).bind fun k=>zjB x k v) fun y=>setO ρ i y:=fun d z=>by
 obtain⟨v,e0,z1⟩:=zaa z;obtain⟨kk,e1,z2⟩:=zaa z1;cases x <;> try cases z2
 rename_i xs
 obtain⟨ys,e2,z3⟩:=zaa z2;cases z3;exact zlE h ys (by rw[e0,zOB,e1];exact e2)
def newD {S:Type}(q:RV×S):Option (D×S):=match q.1 with
 | .new 1 x=>some (x,q.2)
 | _=>none
theorem zib {S:Type}{emb:S->En}{ρ:En}{i:Nat}{fr:FR}{xr:Option (RV×S)}(h:EvR fr ρ xr emb)(hi:∀s,okS i (emb s)=true):Step (gOwnR i fr) ρ (xr.bind newD) fun q=>(emb q.2).set i (.own 1 q.1):=fun q z=>by
 obtain⟨⟨r,s1⟩,e0,z⟩:=zaa z;unfold newD at z;split at z
 ·rename_i x hr
  cases z;have hr:r=.new 1 x:=hr
  subst hr;unfold gOwnR;rw[h _ e0,zOB];exact if_pos (zde (hi s1))
 ·cases z
end VD
namespace VD
open PySem PySem.Spec PyProof PyProof.Rows L2 PySem.W
def un5:D->Option (D×D×D×D×D)
 | .tup [a,b,c,d,e]=>some (a,b,c,d,e)
 | _=>none
theorem zjC {d:D}{y:D×D×D×D×D}(h:un5 d=some y):d=.tup [y.1,y.2.1,y.2.2.1,y.2.2.2.1,y.2.2.2.2]:=by
 unfold un5 at h;split at h
 ·cases h;rfl
 ·cases h
theorem tg_5 {ρ:En}{d:D}{i j l m n:Nat}(h1:okS i ρ=true)(h2:∀x,okS j (ρ.set i (.val x))=true)(h3:∀x y,okS l ((ρ.set i (.val x)).set j (.val y))=true)(h4:∀x y z,okS m (((ρ.set i (.val x)).set j (.val y)).set l (.val z))=true)(h5:∀x y z w,okS n ((((ρ.set i (.val x)).set j (.val y)).set l (.val z)).set m (.val w))=true):Tg (gT 5 (gCons' (gN i) (gCons' (gN j) (gCons' (gN l) (gCons' (gN m) (gCons' (gN n) gNil')))))) d ρ (un5 d) fun y=>((((ρ.set i (.val y.1)).set j (.val y.2.1)).set l (.val y.2.2.1)).set m (.val y.2.2.2.1)).set n (.val y.2.2.2.2):=fun y e=>by
 rw[zjC e];show((gN i y.1 ρ).bind fun ρ1=>(gN j y.2.1 ρ1).bind fun ρ2=>(gN l y.2.2.1 ρ2).bind fun ρ3=>(gN m y.2.2.2.1 ρ3).bind fun ρ4=>(gN n y.2.2.2.2 ρ4).bind fun ρ5=>gNil' [] ρ5)=_
 rw[zfP h1,zOB,zfP (h2 _),zOB,zfP (h3 _ _),zOB,zfP (h4 _ _ _),zOB,zfP (h5 _ _ _ _)];rfl
theorem zlP {S:Type}{ρ:En}{fi:FA}{b:FS}{emb:S->En}{s0:S}{i j l m n:Nat}{step:S->D×D×D×D×D->Option S}(h0:emb s0=ρ)(hi:∀s,okS i (emb s)=true)(hj:∀s x,okS j ((emb s).set i (.val x))=true)(hl:∀s x y,okS l (((emb s).set i (.val x)).set j (.val y))=true)(hm:∀s x y z,okS m ((((emb s).set i (.val x)).set j (.val y)).set l (.val z))=true)(hn:∀s x y z w,okS n (((((emb s).set i (.val x)).set j (.val y)).set l (.val z)).set m (.val w))=true)
 {emb2:S->D×D×D×D×D->En}(he:∀s y,(((((emb s).set i (.val y.1)).set j (.val y.2.1)).set l (.val y.2.2.1)).set m (.val y.2.2.2.1)).set n (.val y.2.2.2.2)=emb2 s y) (hb:∀s y,EvS kL (fun s=>some (emb s)) b (emb2 s y) (step s y)) :
 Step (gFor fi (gT 5 (gCons' (gN i) (gCons' (gN j) (gCons' (gN l) (gCons' (gN m) (gCons' (gN n) gNil')))))) b) ρ ((fi ρ).bind (zaL (fun s d=>(un5 d).bind (step s)) s0)) emb:=
 zhV (x:=un5) (step:=step) h0 (fun s d=>tg_5 (hi s) (hj s) (hl s) (hm s) (hn s)) fun s y=>by rw[he];exact hb s y
def appD (x v:D):Option D:=match x with
 | .lst xs=>(appL xs v).bind fun ys=>some (.lst ys)
 | _=>none
theorem zlQ {i:Nat}{ρ:En}{f:FE}{x:D}(h:ownD (ρ[i]?)=some (1,x)):Step (gApp i f) ρ ((f ρ).bind fun v=>appD x v) fun y=>setO ρ i y:=fun d z=>by
 obtain⟨v,e0,z1⟩:=zaa z;cases x <;> try cases z1
 rename_i xs
 obtain⟨ys,e2,z3⟩:=zaa z1;cases z3;exact zgo h ys (by rw[e0,zOB];exact e2)
def zcC:RV×List D->Option (List D)
 | (.new 1 (.lst ds),_)=>some ds
 | _=>none
def zbl:RV×List D->Option D
 | (.told d,_)=>some d
 | _=>none
def znz (n:Nat)(F:List D->Option (RV×List D))(fl:FA):FA:=fun ρ=>(fl ρ).bind fun l=>if l.length=n then(F l).bind zcC else none
def znA (F:List D->Option (RV×List D))(f0:FA)(f1:FE):FE:=fun ρ=>(f0 ρ).bind fun l=>(f1 ρ).bind fun d=>(F [.lst l,d]).bind zbl
section
variable {X:Cx}{a b e e1':Expr}{es:List Expr}{fa fb:FE}{fl:FA}{p pos:Pos}{Pc:Hp->Prop}
theorem zcQ {f0:FA}{f1:FE}{k k':Nat}{x:Str}{ps:List Str}{F:List D->Option (RV×List D)}(C:Cal X.prog X.w X.K X.mg X.base k x ps (spG X.K [some 1,none] F))(hr:Room k' X.A)(h0:VN X e f0)(h1:VE X e1' f1)(hk:k<=k':=by decide)(hg:Gl X x:=by rfl)(hdb:(x == ("__debug__" : Str))=false:=by decide)
 (he:starEach [e,e1'] X.env=(false,eval e X.env)::starEach [e1'] X.env:=by rfl) (he1:starEach [e1'] X.env=(false,eval e1' X.env)::starEach [] X.env:=by rfl) (hpl:(backTo pos (starEach [e1'] X.env)).any (·.1)=false:=by rfl):VE X (.Call (.Name x p) [e,e1'] [] pos) (znA F f0 f1):=by
 obtain⟨t0,p0,g0⟩:=h0;obtain⟨t1,p1,g1⟩:=h1;refine⟨_,pc C hr (zaC p0 (zaC p1 zbA he1) he) hk hg hdb he hpl,?_⟩;intro Hz Jz O ρ σ H J d Q s e w;obtain⟨l,e1,e⟩:=bind_some e;obtain⟨d1,e2,e⟩:=bind_some e;obtain⟨⟨r,es'⟩,e3,e⟩:=bind_some e;refine g0 Hz Jz O ρ σ H J l _ s e1 fun q vs H1 J1 u1 hq nq h1q r1=>?_
 refine g1 Hz Jz O ρ σ H1 J1 d1 _ (s.up u1) e2 fun v1 H2 J2 u2 r2=>?_
 have h2q:H2 q=some (.lst vs):=u2.same q _ h1q
 have nq2:¬J2 q:=fun j=>by
  rcases u2.jn q j with j | j
  ·exact nq j
  ·rw[h1q] at j;cases j
 refine⟨J2,[.lst l,d1],r,es',fun i=>if i=0 then[q] else[],u2.ja,?_,e3,fun v H3 J3 fp' pg=>?_⟩
 ·refine⟨rfl,rfl,fun i=>?_,fun i=>by show(if i=0 then[q] else[]).Nodup;split <;> simp,fun i b hb=>?_,fun i j hij b hb hb2=>?_⟩
  ·match i with
   | 0=>exact⟨_,_,rfl,rfl,.lst h2q (RpUL.of (RpL.keep u2.keep r1))⟩
   | 1=>exact⟨_,_,rfl,rfl,r2,rfl⟩
   | i+2=>trivial
  ·have hb:b∈(if i=0 then[q] else[]):=hb
   split at hb
   ·rw[waq.mp hb];exact nq2
   ·cases hb
  ·have hb:b∈(if i=0 then[q] else[]):=hb
   have hb2:b∈(if j=0 then[q] else[]):=hb2
   split at hb
   ·split at hb2
    ·omega
    ·cases hb2
   ·cases hb
 ·have res:=pg.res
  have u:Up H J H3 J3:=by
   refine⟨fun b o h=>?_,fun b j=>pg.jj b (u2.jj b (u1.jj b j)),fun b j=>?_,pg.ja⟩
   ·refine pg.hs b o (fun i hb=>?_) (u2.same b o (u1.same b o h));have hb:b∈(if i=0 then[q] else[]):=hb
    split at hb
    ·rw[waq.mp hb,hq] at h;cases h
    ·cases hb
   ·rcases pg.jn b j with j | j
    ·exact(u1.trans u2).jn b j
    ·exact .inr ((u1.trans u2).same.free j)
  match r,e,res with
  | .told d',e,res=>cases e;exact w v H3 J3 u res
end
end VD
namespace VD
open PySem PySem.Spec PyProof PyProof.Rows L2
section
variable {X:Cx}{i b:Expr}{ty:TE}{pos p':Pos}{x:Str}
end
section
variable {X:Cx}{e:Expr}{fa:FE}{fl:FA}{pos pos':Pos}{x:Str}
theorem vsS (i:Nat)(hN:X.N.Nodup)(h:VE X e fa)(hi:X.N[i]?=some x:=by rfl)(hx:Loc X.env.scope x:=by first | exact Or.inl rfl | exact Or.inr rfl)(hs:swapsWith e (some (.Name x pos')) pos.line X.env=pure false:=by rfl)(hf:X.fn x=true\/X.env.scope.names.lookup x=some .local:=by first | exact .inl rfl | exact .inr rfl | assumption) :
 VS X (.Assign [.Name x pos'] e pos) (gSet i fa):=zna hN hi hx h hs hf
theorem vsO (i:Nat)(hN:X.N.Nodup)(h:VN X e fl)(hi:X.N[i]?=some x:=by rfl)(hx:Loc X.env.scope x:=by first | exact Or.inl rfl | exact Or.inr rfl)(hs:swapsWith e (some (.Name x pos')) pos.line X.env=pure false:=by rfl)(hf:X.fn x=true\/X.env.scope.names.lookup x=some .local:=by first | exact .inl rfl | exact .inr rfl | assumption) :
 VS X (.Assign [.Name x pos'] e pos) (gOwn i fl):=znb hN hi hx h hs hf
theorem vgN (i:Nat)(hN:X.N.Nodup)(hi:X.N[i]?=some x:=by rfl)(hx:Loc X.env.scope x:=by first | exact Or.inl rfl | exact Or.inr rfl)(hf:X.fn x=true\/X.env.scope.names.lookup x=some .local:=by first | exact .inl rfl | exact .inr rfl | assumption):VG X (.Name x pos) [i] (gN i):=zln hN hi hx hf
theorem vgc (i:Nat){X:Cx}{scope:Scope}{cl:List (Str×Addr)}{NC:List Str}{C:Addr}{s0:Shared}{H0:Hp}{ex:List Addr}{pn:List (Addr×Obj)}{x:Str}{pos:Pos}(nd:NC.Nodup:=by decide +kernel)(hi:NC[i]?=some x:=by rfl)(hx:scope.names.lookup x=some .local:=by rfl):VG (cxC X scope cl NC C s0 H0 ex pn) (.Name x pos) [i] (gN i):=vgC i nd hi hx
theorem fsc {N P:List Str}{sc:Scope}(a:sc.kind=.function:=by rfl)(b:sc.isCoroutine=false:=by rfl)(c:sc.isGenerator=false:=by rfl)(d:N.Nodup:=by decide +kernel)(e:N.take P.length=P:=by rfl)(f:∀x∈P,sc.names.lookup x=some .local\/sc.names.lookup x=some .cell:=by decide +kernel)(g:∀y∈sc.names,y.2≠.free:=by decide +kernel):FnScope N P sc:=⟨a,b,c,d,e,f,g⟩
theorem vnC (N:List Str)(st:Stmt){X:Cx}{elt iter tg:Expr}{ifs:List Expr}{scope:Scope}{pos:Pos}{NC:List Str}(fr:List (Option Nat)){fi:FA}{g:FG}{is:List Nat}{ft:FT}{fe:FE}(hi:VI X tg iter fi)
 (hg:∀{cl C s0 H0 ex pn},VG (cxC X scope cl NC C s0 H0 ex pn) tg is g) (ht:∀{cl C s0 H0 ex pn},VTs (cxC X scope cl NC C s0 H0 ex pn) ifs ft) (he:∀{cl C s0 H0 ex pn},VE (cxC X scope cl NC C s0 H0 ex pn) elt fe)
 (hcalm:X.calm=true:=by rfl) (hcells:∀x,X.env.scope.names.lookup x=some .cell->∃c,X.env.cells.lookup x=some c:=by exact fun x h=>zbM h) (hfk:X.env.scope.kind=.function:=by rfl) (hN:X.N=N:=by rfl) (hsc:X.env.scope.names=(zac st).names:=by rfl)
 (hfree':∀y∈scope.names,y.2=.free->(zac st).names.lookup y.1=some .cell:=by decide +kernel) (hcell:∀y∈scope.names,y.2≠.cell:=by decide +kernel) (hkind:scope.kind=.function:=by rfl) (hnames:∀y∈scope.names,y.2=.local->scope.names.lookup y.1=some .local:=by decide +kernel)
 (hfr':zdw N (zac st).names scope.names NC fr=true:=by decide +kernel) (hlen:fr.length=NC.length:=by rfl) (hap:apart is fr=true:=by decide)
 (hs:∀x,foldedSetIterable iter X.env x=pure x:=by intro _;rfl):VN X (.ListComp elt [⟨tg,iter,ifs,0⟩] scope pos) (ze3 fr fi g ft fe):=
 zlo N st fr hcalm hi hcells hfk hN hsc hfree' hcell hkind hnames hfr' hlen hap (fun _ _ _ _ _ _=>hg) (fun _ _ _ _ _ _=>ht) (fun _ _ _ _ _ _=>he) hs
end
end VD
namespace EX
open PySem PySem.Spec PySem.W PyProof.Rows
section
variable {prog:Program}{w:World}{A:Around}{E:Value->Shared->Prop}{h:Heap}{g:Array GenState}{d:Drawn}{t:Nat}{os:OsState}
variable {nm q:Str}{C N:Addr}{bs bm bmB:List Value}{hdct:Bool}{sn:List Str}{sub:List Value}{ab:Bool}{col:Option Bool}{dd:Option Addr}{k0 k1 k2 k3 k5:Option Value}{B newId initId:String}
theorem zdZ (F:ExcBaseFacts B newId initId bmB)(T:OwnTail h bmB bm){mN:Str->Option Value}{rest:List Value}{fI:Addr}{oI:Obj}{Q:Fin->Shared->Prop}
 (hC:h.get? C=some (excClassObj nm q C N bs bm hdct sn sub ab col dd k0 k1 k2 k3 k5 newId)) (hn:h.Ns N mN) (hi:mN "__init__"=some (.ref fI))
 (hfI:h.get? fI=some oI) (hfc:oI.cls=.type "function")
 (hq:∀h' e,Heap.MadeExcOf h h' e (.ref C) rest->h.objs.size<=e->
  wpAny (model prog w) A (call (.ref fI) (.ref e::rest)) (fun r s'=>r=.none/\Q (.done (.ret (.ref e))) s') E ⟨h',g,d,t,os⟩) (hrest:rest.length<=sizeLine:=by size_fits) :
 wpAny (model prog w) A (Builtin.«type.__call__» ⟨.ref C::rest,[]⟩) Q E ⟨h,g,d,t,os⟩:=by
 repeat (first | with_reducible refine wbt hC ?_ | with_reducible refine wpAny_madeBy_exc hC ?_ | wp_step)
 refine codeAny_call_builtin_code (wbT _ F.quiet) (wpAny_check_new_subT F T hC ?_);refine codeAny_exc_new_subT F T hC ?_ hrest;show wpAny _ _ _ _ _ _
 have up:∀b o,h.get? b=some o->((h.push {cls:=.type "tuple",data:=.seq rest.toArray}).push {cls:=.ref C,data:=.fields #[.ref h.objs.size,.none,.none,.none,.bool false,.none]}).get? b=some o:=fun b o e=>wac _ (wac _ e)
 have hC₁:=up _ _ hC
 have hfI₁:=up _ _ hfI
 have hn₁:=hn.keeps up
 have T₁:=T.keeps up
 have hget:((h.push {cls:=.type "tuple",data:=.seq rest.toArray}).push
  {cls:=.ref C,data:=.fields #[.ref h.objs.size,.none,.none,.none,.bool false,.none]}).get? (h.objs.size+1)=some
  {cls:=.ref C,data:=.fields #[.ref h.objs.size,.none,.none,.none,.bool false,.none]}:=by heap_get
 have hcC:(Value.ref C::bm).contains (.ref C)=true:=by simp
 unfold isInstance;repeat (first | with_reducible refine wbt hget ?_ | (with_reducible refine wcp hC₁ ?_;rw[hcC]) | wp_step)
 show wpAny _ _ (typeLookup (.ref C) _) _ _ _
 refine wpAny_typeLookup_tail hC₁ hn₁ T₁ F.mroIs F.init.lookup ?_;rw[hi];refine wbw (waa ?_);unfold bindSpecial;refine waa (wpAny_typeOf (T:="function") ⟨_,hfI₁,hfc⟩ ?_);rw[if_pos (by decide)];refine wah (waa (waG (hq _ (h.objs.size+1) ⟨up,wbI (wcv _),h.objs.size,hget,wbI (wan _),?_⟩ (wcv _)) (fun r s' hr=>?_) fun _ _ x=>x))
 ·exact wac _ (wbZ rfl rfl)
 ·obtain⟨rfl,hQ⟩:=hr;wp_walk
  exact hQ
theorem zic (F:ExcBaseFacts B newId initId bmB)(T:OwnTail h bmB bm){mN:Str->Option Value}{rest:List Value}{fI:Addr}{oI:Obj}{Q:Value->Shared->Prop}
 (hC:h.get? C=some (excClassObj nm q C N bs bm hdct sn sub ab col dd k0 k1 k2 k3 k5 newId)) (hn:h.Ns N mN) (hi:mN "__init__"=some (.ref fI))
 (hfI:h.get? fI=some oI) (hfc:oI.cls=.type "function")
 (hq:∀h' e,Heap.MadeExcOf h h' e (.ref C) rest->h.objs.size<=e->
  wpAny (model prog w) (A.under (.builtin "type.__call__" ⟨.ref C::rest,[]⟩)) (call (.ref fI) (.ref e::rest)) (fun r s'=>r=.none/\Q (.ref e) s') E ⟨h',g,d,t,os⟩) (hrest:rest.length<=sizeLine:=by size_fits) :
 wpAny (model prog w) A (call (.ref C) rest) Q E ⟨h,g,d,t,os⟩:=by
 have f1:=tc_lookup
 have f2:=tc_bind (.ref C)
 have hT:(⟨h,g,d,t,os⟩:Shared).TypeIs (.ref C) "type":=⟨_,hC,rfl⟩
 refine wci (codeAny_of_tree ?_);show wpAny _ _ (callAny (.ref C) _) _ _ _
 repeat (any_goals (first | assumption | with_reducible refine wbt hC ?_ | wp_step))
 refine⟨rfl,?_⟩;refine codeAny_call_builtin_at (wbT _ (by decide +kernel)) entry_typeCall (wpAny_check_type_call_sub hC (zdZ (hrest:=hrest) F T hC hn hi hfI hfc fun h' e hm=>?_));exact hq h' e hm
end
theorem zoS:".".intercalate ("ValueError.__init__".cutAt '.').dropLast = "ValueError":=by decide +kernel
theorem ty_b (s:Shared):s.TypeIs (.builtin "ValueError.__init__") "wrapper_descriptor":=by
 show _=_
 kernel_rfl
theorem zlR:typeOf (.builtin "ValueError.__init__")=pure (.type "wrapper_descriptor"):=by kernel_rfl
theorem znB:typeLookup (.type "wrapper_descriptor") "__get__"=pure (some (.builtin "wrapper_descriptor.__get__")):=by rw[typeLookup_type,builtinLookup_eq_fast];kernel_rfl
theorem zjD:Slot "wrapper_descriptor" "__get__" "wrapper_descriptor.__get__":=.of (owner:="wrapper_descriptor") (n:="__get__") (by rw[typeLookup_type,builtinLookup_eq_fast];kernel_rfl) (by decide +kernel) (by decide +kernel) (by decide +kernel)
 (by first | exact .inl (by decide +kernel) | exact .inr (by decide +kernel)) (by rw[isSubtype_type];kernel_rfl)
theorem zid:entryFor table "wrapper_descriptor.__get__"=some Builtin.«wrapper_descriptor.__get__»:=entryFor_of_tree (by kernel_rfl)
theorem zjE (a b c:Value):argsOk "wrapper_descriptor.__get__" ⟨[a,b,c],[]⟩:=by unfold argsOk;kernel_rfl
section
variable {prog:Program}{w:World}{A:Around}{E:Value->Shared->Prop}{h:Heap}{g:Array GenState}{d:Drawn}{t:Nat}{os:OsState}
variable {nm q:Str}{C N:Addr}{bs bm bmB:List Value}{hdct:Bool}{sn:List Str}{sub:List Value}{ab:Bool}{col:Option Bool}{dd:Option Addr}{k0 k1 k2 k3 k5:Option Value}{B newId:String}
theorem zie {so D x:Addr}{l₀ l:List Value}{K:Frag}{ox:Obj}{tk:Tok}{Q:Fin->Shared->Prop}
 (hso:h.get? so=some {cls:=.type "super",dict:=none,data:=.fields #[.ref D,.ref x,.ref C],slots:=#[]}) (hno:Looks (model prog w) h (opaqueClassAbove (.ref C)) none)
 (hC:Looks (model prog w) h (mroOf (.ref C)) l₀) (hl:(l₀.dropWhile (· != .ref D)).drop 1=l) (X:K.In h)
 (hf:alongIn K "__init__" l=some (some (.builtin "ValueError.__init__"))) (hxC:x≠C) (hx:h.get? x=some ox) (hxc:ox.cls=.ref C)
 (hO:h.get? C=some (excClassObj nm q C N bs bm hdct sn sub ab col dd k0 k1 k2 k3 k5 newId)) (hB:bm.contains (.type "ValueError")=true)
 (hq:Q (.done (.ret (.ref h.objs.size))) ⟨h.push {cls:=.type "method-wrapper",data:=.fields #[.builtin "ValueError.__init__",.ref x]},g,d,t,os⟩) :
 wpAny (model prog w) A (Builtin.«super.__getattribute__» ⟨[.ref so,.str "__init__" tk],[]⟩) Q E ⟨h,g,d,t,os⟩:=by
 have hne:(Value.ref x == Value.ref C)=false:=by simp[hxC]
 have hcB:(Value.ref C::bm).contains (.type "ValueError")=true:=by rw[List.contains_cons,hB,Bool.or_true]
 have hdt:({cls:=.type "super",dict:=none,data:=.fields #[.ref D,.ref x,.ref C],slots:=#[]}:Obj).data=.fields #[.ref D,.ref x,.ref C]:=rfl
 have f0:(#[.ref D,.ref x,.ref C]:Array Value)[0]?=some (.ref D):=rfl
 have f1:(#[.ref D,.ref x,.ref C]:Array Value)[1]?=some (.ref x):=rfl
 have f2:(#[.ref D,.ref x,.ref C]:Array Value)[2]?=some (.ref C):=rfl
 have hn:(("__init__" : Str) == ("__class__" : Str))=false:=by decide
 have hlk:=znB
 have hTb:∀s:Shared,s.TypeIs (.builtin "ValueError.__init__") "wrapper_descriptor":=fun s=>ty_b s
 have hty:=zlR
 unfold Builtin.«super.__getattribute__»;repeat (first
  | (with_reducible refine waS hso hdt f0 ?_) | (with_reducible refine waS hso hdt f1 ?_) | (with_reducible refine waS hso hdt f2 ?_)
  | (with_reducible refine ks_wpAny_notOpaque hno ?_)
  | (with_reducible refine Looks.at hC ?_;rw[hl])
  | (refine ks_forIn_along X (fun _ _=>rfl) rfl ?_ hf)
  | (with_reducible refine wbY hty ?_)
  | (with_reducible refine wbY hlk ?_)
  | (with_reducible refine wbL zjD (hTb _) zid ?_ (zjE _ _ _))
  | (with_reducible refine wbt hx ?_;rw[hxc])
  | (rw[zoS];with_reducible refine wcp hO ?_;rw[hcB])
  | (with_reducible refine⟨_,rfl,?_⟩)
  | (simp only[hn,hne,Bool.or_false,Bool.false_eq_true,if_false])
  | wp_step
  | dsimp only)
 all_goals exact hq
theorem zdh {so D x:Addr}{l₀ l:List Value}{K:Frag}{ox:Obj}{pl:Sem Bool}{Q:Value×List Value->Shared->Prop}
 (hso:h.get? so=some {cls:=.type "super",dict:=none,data:=.fields #[.ref D,.ref x,.ref C],slots:=#[]}) (hno:Looks (model prog w) h (opaqueClassAbove (.ref C)) none)
 (hC:Looks (model prog w) h (mroOf (.ref C)) l₀) (hl:(l₀.dropWhile (· != .ref D)).drop 1=l) (X:K.In h)
 (hf:alongIn K "__init__" l=some (some (.builtin "ValueError.__init__"))) (hxC:x≠C) (hx:h.get? x=some ox) (hxc:ox.cls=.ref C)
 (hO:h.get? C=some (excClassObj nm q C N bs bm hdct sn sub ab col dd k0 k1 k2 k3 k5 newId)) (hB:bm.contains (.type "ValueError")=true)
 (hq:Q (.ref h.objs.size,[]) ⟨h.push {cls:=.type "method-wrapper",data:=.fields #[.builtin "ValueError.__init__",.ref x]},g,d,t+1,os⟩) :
 wpAny (model prog w) A (getMethod (.ref so) "__init__" pl) Q E ⟨h,g,d,t,os⟩:=by
 have hlk:=F.ks_slot_super_ga.lookup
 have hcan:=F.ks_canon_super_ga
 have hT:∀t',(⟨h,g,d,t',os⟩:Shared).TypeIs (.ref so) "super":=fun _=>⟨_,hso,rfl⟩
 unfold getMethod;refine waa (wpAny_specialOf (hT _) hlk ?_);show wpAny _ _ (if(Manifest.canonical "super.__getattribute__" != "object.__getattribute__")=true then _ else _) _ _ _
 rw[if_pos hcan];unfold getAttr getAttrBy;refine waa (waa (wpAny_mkText (wbw (waa (wpAny_typeOf (hT _) (waa (wbY hlk ?_)))))));show wpAny _ _ (getAttrByItsOwn (.ref so) (.str "__init__" t) (.type "super") (.builtin "super.__getattribute__") true false) _ _ _
 unfold getAttrByItsOwn hookBefore callGetattribute boundAndCalled;refine waa (wbY (show(if onTheHeap (.type "super") then typeLookup (.type "super") "__getattr__" else pure none)=pure none from rfl) ?_);refine waa (wpAny_attempt (wbw ?_));show wpAny _ _ (bindSpecial (.builtin "super.__getattribute__") (.ref so) >>= _) _ _ _
 refine waa (wbY (F.ks_slot_super_ga.bind _) ?_);refine waG (Q:=fun v s'=>v=.ref h.objs.size/\s'=⟨h.push {cls:=.type "method-wrapper",data:=.fields #[.builtin "ValueError.__init__",.ref x]},g,d,t+1,os⟩) (E:=fun _ _=>False)
  (wbL F.ks_slot_super_ga (hT _) F.ks_entry_super_ga (zie hso hno hC hl X hf hxC hx hxc hO hB ⟨_,rfl,rfl,rfl⟩) (F.ks_gaArgs_super _ _)) (fun v s' hv=>?_) fun _ _ z=>z.elim
 obtain⟨rfl,rfl⟩:=hv;exact wah (wah hq)
theorem zjF (F:ExcBaseFacts B newId "ValueError.__init__" bmB)(T:OwnTail h bmB bm){b e:Addr}{t0:Addr}{msg:Value}{dx:Option Addr}{R:Result->Shared->Prop}
 (hb:h.get? b=some {cls:=.type "method-wrapper",dict:=none,data:=.fields #[.builtin "ValueError.__init__",.ref e],slots:=#[]})
 (hC:h.get? C=some (excClassObj nm q C N bs bm hdct sn sub ab col dd k0 k1 k2 k3 k5 newId)) (he:h.get? e=some {cls:=.ref C,dict:=dx,data:=.fields #[.ref t0,.none,.none,.none,.bool false,.none]})
 (hq:∀h' tt,(∀b o,b≠e->h.get? b=some o->h'.get? b=some o)->h.get? tt=none->h'.get? e=some {cls:=.ref C,dict:=dx,data:=.fields #[.ref tt,.none,.none,.none,.bool false,.none]}->R (.ok (.ret .none)) ⟨h',g,d,t,os⟩) :
 codeAny (model prog w) A (.call (.ref b) ⟨[msg],[]⟩) R ⟨h,g,d,t,os⟩:=by
 refine codeAny_of_tree ?_;show wpAny _ A.in1 (callAny (.ref b) _) _ _ _
 unfold callAny;refine waa (wpAny_load hb ?_);dsimp only;rw[if_pos (by decide)];show wpAny _ _ (checkBoundCall "ValueError.__init__" ⟨[.ref e,msg],[]⟩ >>= fun _=>again (.builtin "ValueError.__init__" ⟨[.ref e,msg],[]⟩)) _ _ _
 refine waa ?_;have hshort:=F.noStar
 simp only[checkBoundCall,F.initKind,F.initRow];rw[if_pos (by decide)];unfold Bind.checkArgs;repeat (first | wp_step)
 refine⟨wbT _ (by decide +kernel),codeAny_builtin F.initEntry ?_⟩;rw[Around.under_plainId F.init.plain _];wp_walk
 have hlt:h.objs.size≠e:=Nat.ne_of_gt (wae he)
 refine hq _ h.objs.size (fun b o hb hh=>?_) (wbI (wan _)) ?_
 ·rw[waH _ _ (Ne.symm hb)];exact wac _ hh
 ·rw[waU _ (wac _ he) rfl];rfl
end
structure XC (K:Frag)(C N:Addr)(bm:List Value):Prop where
 obj:∃nm q bs hdct sn sub ab col dd k0 k1 k2 k3 k5,K.lookup C=some (excClassObj nm q C N bs bm hdct sn sub ab col dd k0 k1 k2 k3 k5 "ValueError.__new__")
 tail:∀h:Heap,K.In h->OwnTail h [.type "ValueError",.type "Exception",.type "BaseException",.type "object"] bm
 opq:nsIn K cStatics "thirdparty.any"=some none
 self:mroIn K C (.ref C)=some true
section
variable {prog:Program}{w:World}{A:Around}{E:Value->Shared->Prop}{h:Heap}{g:Array GenState}{d:Drawn}{t:Nat}{os:OsState}
variable {C N:Addr}{bm:List Value}{K:Frag}{env:Env}{body:List Stmt}{p0 p1 ap cp:Pos}{J:Expr}{f cda cc e t0:Addr}{of ocd:Obj}{fd:FuncData}{ar:Arg}{vs:Array Value}{file:Str}{tf:Tok}{mg mb m:Str->Option Value}{dx:Option Addr}
theorem zif {b e:Addr}{h:Heap}(hb:h.get? b=some {cls:=.type "method-wrapper",dict:=none,data:=.fields #[.builtin "ValueError.__init__",.ref e],slots:=#[]}){M:Model}:∃k,(k=Keeper.frame\/k=Keeper.machine\/k=Keeper.boundFrame)/\Looks M h (keeperOf (.ref b)) k:=
 ⟨.machine,.inr (.inl rfl),(Looks.ld (part:=none) hb).andThen .now⟩
theorem zg3 (X:K.In h)(c:XC K C N bm)(hin:ks_superIn K C C "__init__"=some (some (.builtin "ValueError.__init__")))
 (hk:env.scope.kind=.function) (hks:env.kindOf "super"=some .globalImplicit) (hkc:env.kindOf "__class__"=some .free) (hka:env.kindOf ar.arg=some .local) (hfu:env.func=some f) (hf:h.get? f=some of) (hfd:of.data=.func fd)
 (hp:(fd.params.posonlyargs++fd.params.args).head?=some ar) (hco:env.code=.ref cda) (hcc:h.get? cda=some ocd) (hoc:ocd.data=.fields vs) (hvs:vs[2]?=some (.str file tf)) (hfile:((prog.main.file:Str) == file)=true)
 (htop:(prog.main.scope.names.lookup ("super" : Str)).isSome=false) (hG:h.Ns env.globals mg) (hmg:mg "super"=none) (hB:h.Ns env.builtins mb) (hmb:mb "super"=some (.type "super"))
 (hcl:env.cells.lookup ("__class__" : Str)=some cc) (hcell:h.IsCell cc (some (.ref C))) (hloc:h.Ns env.locals m) (hself:m ar.arg=some (.ref e))
 (he:h.get? e=some {cls:=.ref C,dict:=dx,data:=.fields #[.ref t0,.none,.none,.none,.bool false,.none]}) (heC:e≠C)
 (hJ:∀(h1:Heap) (tk:Nat) (Q:Value->Shared->Prop),(∀b o,h.get? b=some o->h1.get? b=some o)->(∀h2 x t' tk',(∀b o,h1.get? b=some o->h2.get? b=some o)->Q (.str x t') ⟨h2,g,d,tk',os⟩)->wpAny (model prog w) A (eval J env) Q E ⟨h1,g,d,tk,os⟩)
 (hst:starEach [J] env = [(false,eval J env)]) {pl:Sem Bool}(hE:eval (.Call (.Attribute (.Call (.Name "super" p0) [] [] p1) "__init__" ap) [J] [] cp) env=(do
  let ov <-attributeBase (.Call (.Name "super" p0) [] [] p1) "__init__" env (eval (.Call (.Name "super" p0) [] [] p1) env)
  standAt ap.atName
  let (f,first) <-holding [ov] (getMethod ov "__init__" pl)
  callWith cp f first (backTo cp (starEach [J] env)) []))
 {Q:Value->Shared->Prop}
 (hq:∀h' tt tk,(∀b o,b≠e->h.get? b=some o->h'.get? b=some o)->h'.get? e=some {cls:=.ref C,dict:=dx,data:=.fields #[.ref tt,.none,.none,.none,.bool false,.none]}->Q .none ⟨h',g,d,tk,os⟩) :
 PySem.wpAt (model prog w) A (.func body env) (eval (.Call (.Attribute (.Call (.Name "super" p0) [] [] p1) "__init__" ap) [J] [] cp) env) Q E ⟨h,g,d,t,os⟩:=by
 obtain⟨nm,q,bs,hdct,sn,sub,ab,col,dd,k0,k1,k2,k3,k5,ho⟩:=c.obj;have hC:=X _ _ ho
 refine ks_wpAt_MethodCall (pl:=pl) ?_ hE;refine ks_wpAt_super_base hks hkc (by decide) hfu hf hfd hp hco hcc hoc hvs hfile htop ?_;refine ks_loadName_global hk hks (Calls.loadGlobal_builtin hG hmg hB hmb ⟨rfl,?_⟩);refine wpAny_loadName_free hk hkc hcl hcell ?_;refine wbq hk hka hloc hself ?_;refine ks_wpAny_isType_cls hC rfl ⟨rfl,?_⟩;refine ks_wpAny_call_super hC rfl he rfl (fun c z=>by cases z) (looks_mroIn X c.self) fun h1 e1 k1'=>?_
 have hx1:=k1' _ _ he
 have hC1:=k1' _ _ hC
 have X1:K.In h1:=X.keeps k1'
 obtain⟨cd,hcd⟩:∃cd,clsIn K C=some cd:=⟨_,by unfold clsIn;rw[ho]⟩
 unfold ks_superIn at hin;rw[hcd] at hin;refine zdh e1 (looks_opaque X1 c.opq) (l₀:=cd.mro) (fun A Q E s k q=>waa ((looks_clsIn X1 hcd) A _ E s k (wah q))) rfl X1 hin heC hx1 rfl hC1 ((c.tail h1 X1).hasType (by decide)) ?_;have up2:∀b o,h1.get? b=some o->(h1.push {cls:=.type "method-wrapper",data:=.fields #[.builtin "ValueError.__init__",.ref e]}).get? b=some o:=fun b o z=>wac _ z
 rw[hst];refine callWith_of (P:=fun h2=>h2.get? h1.objs.size=some {cls:=.type "method-wrapper",dict:=none,data:=.fields #[.builtin "ValueError.__init__",.ref e],slots:=#[]}) rfl (fun h2 z=>zif z) ?_;refine Calls.evalArgs_plain ?_;refine Calls.spliced_cons (hJ _ _ _ (fun b o z=>up2 b o (k1' b o z)) fun h2 x t' tk' k9=>Calls.spliced_nil ⟨k9 _ _ (wbZ rfl rfl),?_⟩);refine wci (zjF PySem.F.excBase_ValueError (c.tail _ ((X1.keeps up2).keeps k9)) (k9 _ _ (wbZ rfl rfl)) (k9 _ _ (up2 _ _ hC1)) (k9 _ _ (up2 _ _ hx1)) fun h' tt k2 _ he'=>?_);exact hq h' tt _ (fun b o hb z=>k2 b o hb (k9 b o (up2 b o (k1' b o z)))) he'
end
open Builtin.ObjectAttr
def zb7:List Value->Bool
 | .ref _::r=>zb7 r
 | l=>l == [.type "ValueError",.type "Exception",.type "BaseException",.type "object"]
theorem zkF {P:List Value->Prop}(h0:P [.type "ValueError",.type "Exception",.type "BaseException",.type "object"])(h1:∀c r,P r->P (.ref c::r)):∀{l:List Value},zb7 l=true->P l:=by
 intro l;induction l with
 | nil=>intro e;cases e
 | cons v r ih=>
   intro e;by_cases hv:∃c,v=.ref c
   ·obtain⟨c,rfl⟩:=hv;exact h1 c r (ih e)
   ·have:v::r = [.type "ValueError",.type "Exception",.type "BaseException",.type "object"]:=by
     cases v <;> first | exact beq_iff_eq.mp e | exact absurd ⟨_,rfl⟩ hv
    rw[this];exact h0
theorem zig (self:Value){l:List Value}:zb7 l=true->refuseLoop self "__setattr__" l=pure ():=
 zkF (P:=fun l=>refuseLoop self "__setattr__" l=pure ()) (PySem.F.store_ValueError.passes self) fun c r e=>(refuseLoop_ref _ _ _ _).trans e
theorem znC {l:List Value}:zb7 l=true->l.contains (.type "object")=true:=
 zkF (P:=fun l=>l.contains (.type "object")=true) (by decide) fun c r e=>by rw[List.contains_cons,e,Bool.or_true]
section
variable {prog:Program}{w:World}{A:Around}{E:Value->Shared->Prop}{h:Heap}{g:Array GenState}{d:Drawn}{t:Nat}{os:OsState}
variable {C N x:Addr}{K:Frag}{o:Obj}{name:Str}{v:Value}{Q:Unit->Shared->Prop}{R:Result->Shared->Prop}{s:Shared}
theorem zlS {ox:Obj}{od:Option Obj}{tk:Tok}{r:Option Value}(X:K.In s.heap)(I:InstAt s.heap x ox C od)(hp:(clsIn K C).any (fun cd=>zb7 cd.mro)=true)(ht:takerIn K C name=some r)
 (h:∀b,wpAny (model prog w) A.in1 (match r with | some a=>setByDescriptor a (.ref x) v | none=>storeInOwnDict (.ref x) (.ref C) (.str name tk) name v b)
  (fun fin s'=>match fin with | .done f=>R (.ok f) s' | .again c'=>c'.quiet=true/\codeAny (model prog w) A c' R s') (fun e s'=>R (.error e) s') s) :
 codeAny (model prog w) A (.call (.builtin "object.__setattr__") ⟨[.ref x,.str name tk,v],[]⟩) R s:=by
 have SF:=PySem.F.store_object
 obtain⟨cd,hc,ho⟩:=any_some hp;have ne:cd.mro.isEmpty=false:=by cases q:cd.mro with | nil=>rw[q] at ho;cases ho | cons _ _=>rfl
 have sub:Looks (model prog w) s.heap (isInstance (.ref x) (.type "object")) true:=I.type.andThen (looks_mroIn X (by unfold mroIn;rw[hc,zOB,if_neg (by rw[ne];decide),znC ho]))
 refine wbJ SF.slot.plain SF.entry (@check_slot (model prog w) _ _ s "object.__setattr__" "object" "__setattr__" (.ref x) [.str name tk,v] [] _ SF.kind SF.split sub (SF.args (.ref x) (.str name tk) v) ?_);obtain⟨attr,ha,hr⟩:=Option.bind_eq_some_iff.mp ht;have hm:Looks (model prog w) s.heap (mroOf (.ref C)) cd.mro:=(looks_clsIn X hc).andThen .now
 have L3:Looks (model prog w) s.heap (storeTaker? attr) r:=by
  cases attr with
  | none=>cases hr;exact .now
  | some a=>
    obtain⟨b,hb,rfl⟩:=wbA.mp hr;refine(looks_takesIn X hb).andThen ?_;cases b <;> exact .now
 rw[osa_eq,refuse_eq];refine waa (waa (I.type.here (waa (hm.here ?_))));rw[zig _ ho];refine wah (waa (I.type.here (waa ((looks_findIn X ha).here (waa (L3.here ?_))))));exact h _
theorem zlT (X:K.In h)(hx:h.get? x=some o)(hc:o.cls=.ref C)(hno:notCls o=true)(hd:o.dict=none)
 (hs:findIn K (.ref C) "__setattr__"=some (some (.builtin "object.__setattr__"))) (hp:(clsIn K C).any (fun cd=>zb7 cd.mro)=true) (ht:takerIn K C name=some none) (hh:(clsIn K C).any (·.hasDict)=true)
 (hq:∀h' dx tk',h.objs.size<=dx->dx≠x->h'.get? x=some {o with dict:=some dx}->h'.Ns1 dx (fun y=>if y=name then some v else none)->(∀b ob,b≠x->h.get? b=some ob->h'.get? b=some ob)->Q () ⟨h',g,d,tk',os⟩) :
 wpAny (model prog w) A (setAttr (.ref x) name v) Q E ⟨h,g,d,t,os⟩:=by
 have J:InstAt h x o C none:=⟨hx,hc,hno,by rw[hd];trivial⟩
 refine set_plain X J hs (zlS (s:=⟨h,g,d,t+1,os⟩) (r:=none) X J hp ht fun b=>?_);obtain⟨cd,hcd,hd'⟩:=any_some hh;have hx₁:(h.push {cls:=.type "dict",data:=.dict #[]}).get? x=some o:=wac _ hx
 have hxs:x≠h.objs.size:=waz (wae hx)
 refine waa (wah (waa (waa (wpAny_loadPart hx ?_))));rw[hc];refine waa ((looks_clsIn X hcd).here ?_);rw[hd'];dsimp only[Bool.not_true];rw[hd];dsimp only;rw[if_neg (by simp[typeHasDict])];split
 ·rename_i q
  cases q
 split
 ·rename_i c hcd'
  unfold notCls at hno;rw[hcd'] at hno;cases hno
 refine waa (wpAny_alloc' ?_);refine waa (wpAny_update' hx₁ ?_);have hgd:((h.push {cls:=.type "dict",data:=.dict #[]}).update x fun o=>{cls:=o.cls,dict:=some h.objs.size,data:=o.data,slots:=o.slots}).get? h.objs.size
  = some {cls:=.type "dict",data:=.dict #[]}:=
  (Heap.get?_update_ne _ _ _ _ hxs.symm).trans (wbZ rfl rfl)
 have hnd:((h.push {cls:=.type "dict",data:=.dict #[]}).update x fun o=>{cls:=o.cls,dict:=some h.objs.size,data:=o.data,slots:=o.slots}).Ns h.objs.size (fun _=>none):=
  ⟨_,#[],_,hgd,rfl,fun e he=>absurd he (by simp),fun _=>rfl⟩
 refine wah ?_;show wpAny _ _ (storeInDict h.objs.size (.str name _) name v) _ _ _
 unfold storeInDict newKeyGuard;refine waa (wah (waa (wpAny_nsSet1 (Heap.Ns1.of_empty hnd) fun h' hn' hs=>?_)));obtain⟨oD,esD,epD,hoD,hdD,hcD⟩:=hn'.count (Within.cons name v Within.nil);refine waa (wpAny_lookBehind hoD (by rw[hdD];exact pastItsLine_dict (wai hcD (by rw[waX,wcq,sizeLine_eq];omega))) ?_);refine wah (hq h' h.objs.size _ (wan _) hxs.symm ?_ hn' fun b ob hbx hb=>?_)
 ·refine(hs.2 x hxs).trans (waU _ hx₁ ?_);have hfr:=(Heap.get?_some_iff.mp hx).2
  obtain⟨oc,od,odt,osl⟩:=o;cases odt <;> first | rfl | exact hfr
 ·exact(hs.2 b (waz (wae hb))).trans ((Heap.get?_update_ne _ _ _ _ hbx).trans (wac _ hb))
end
structure XI (prog:Program)(w:World)(K:Frag)(C N fI:Addr)(bm:List Value)(slf x nm:Str)(J:Expr)(fd:FuncData):Prop where
 cls:XC K C N bm
 inC:ks_superIn K C C "__init__"=some (some (.builtin "ValueError.__init__"))
 set:findIn K (.ref C) "__setattr__"=some (some (.builtin "object.__setattr__"))
 und:(clsIn K C).any (fun cd=>zb7 cd.mro)=true
 tak:takerIn K C nm=some none
 hasD:(clsIn K C).any (·.hasDict)=true
 fn:∃o,K.lookup fI=some o/\o.cls=.type "function"/\o.data=.func fd
 names:∃mN,(∀h:Heap,K.In h->h.Ns N mN)/\mN "__init__"=some (.ref fI)
 code:∀h:Heap,K.In h->h.CodeRec fd.code fd.qualname
 body:∃p0 p1 ap cp q1 q2 q3 q4 q5,fd.body=.stmts [.Expr (.Call (.Attribute (.Call (.Name "super" p0) [] [] p1) "__init__" ap) [J] [] cp) q1,.Assign [.Attribute (.Name slf q2) nm q3] (.Name x q4) q5]/\
  (∀L,interactive (callEnv fd L fI)=false)/\(∀L,swapsWith (.Call (.Attribute (.Call (.Name "super" p0) [] [] p1) "__init__" ap) [J] [] cp) none q1.line (callEnv fd L fI)=pure false)/\
  (∀L,swapsWith (.Name x q4) (some (.Attribute (.Name slf q2) nm q3)) q5.line (callEnv fd L fI)=pure false)/\
  (∀L,starEach [J] (callEnv fd L fI) = [(false,eval J (callEnv fd L fI))])/\
  ∃pl:Addr->Sem Bool,∀L,eval (.Call (.Attribute (.Call (.Name "super" p0) [] [] p1) "__init__" ap) [J] [] cp) (callEnv fd L fI)=(do
   let ov <-attributeBase (.Call (.Name "super" p0) [] [] p1) "__init__" (callEnv fd L fI) (eval (.Call (.Name "super" p0) [] [] p1) (callEnv fd L fI))
   standAt ap.atName
   let (f,first) <-holding [ov] (getMethod ov "__init__" (pl L))
   callWith cp f first (backTo cp (starEach [J] (callEnv fd L fI))) [])
 ne:slf≠x
 dbg:(x == ("__debug__" : Str))=false/\(slf == ("__debug__" : Str))=false
 par:∃ar:Arg,(fd.params.posonlyargs++fd.params.args).head?=some ar/\ar.arg=slf
 bind:∀(s:Shared) (a b:Value),BindsTo s fd ⟨[a,b],[]⟩ [(slf,a),(x,b)]
 cell:∀z∈fd.scope.names,z.2≠.cell
 loc1:fd.scope.names.lookup slf=some .local
 loc2:fd.scope.names.lookup x=some .local
 flags:fd.scope.isCoroutine=false/\fd.scope.isGenerator=false/\fd.scope.kind=.function
 kinds:∀L,(callEnv fd L fI).kindOf "super"=some .globalImplicit/\(callEnv fd L fI).kindOf "__class__"=some .free/\(callEnv fd L fI).kindOf slf=some .local/\(callEnv fd L fI).kindOf x=some .local
 file:∃cda ocd vs fl tf,fd.code=.ref cda/\K.lookup cda=some ocd/\ocd.data=.fields vs/\vs[2]?=some (.str fl tf)/\((prog.main.file:Str) == fl)=true
 top:(prog.main.scope.names.lookup ("super" : Str)).isSome=false
 glob:∀L,(callEnv fd L fI).globals=mainGlobals
 blt:∀L,(callEnv fd L fI).builtins=builtinsNs
 cc:∃cc,(∀L,(callEnv fd L fI).cells.lookup ("__class__" : Str)=some cc)/\∀h:Heap,K.In h->h.IsCell cc (some (.ref C))
structure Gx (h:Heap):Prop where
 lim:h.NoLimit
 g:∃mg,h.Ns mainGlobals mg/\mg "super"=none
 b:∃mb,h.Ns builtinsNs mb/\mb "super"=some (.type "super")
theorem Gx.keeps {h h':Heap}(G:Gx h)(k:∀b o,h.get? b=some o->h'.get? b=some o):Gx h':=
 ⟨G.lim.keeps k,let ⟨m,a,b⟩:=G.g;⟨m,a.keeps k,b⟩,let ⟨m,a,b⟩:=G.b;⟨m,a.keeps k,b⟩⟩
section
variable {prog:Program}{w:World}{A:Around}{E:Value->Shared->Prop}{h:Heap}{g:Array GenState}{d:Drawn}{t:Nat}{os:OsState}
variable {C N fI:Addr}{bm:List Value}{slf x nm:Str}{J:Expr}{fd:FuncData}{K:Frag}
def Says (prog:Program)(w:World)(K:Frag)(fd:FuncData)(fI:Addr)(x:Str)(J:Expr)(v:Value)(h0:Heap):Prop:=
 ∀(A:Around) (E:Value->Shared->Prop) (h1:Heap) (g:Array GenState) (d:Drawn) (os:OsState) (tk:Nat) (L:Addr) (m:Str->Option Value) (Q:Value->Shared->Prop),A.guards=some []->A.units+20<cLine->K.In h1->(∀b o,h0.get? b=some o->h1.get? b=some o)->h1.Ns L m->m x=some v->
  (∀h2 y t' tk',(∀b o,h1.get? b=some o->h2.get? b=some o)->Q (.str y t') ⟨h2,g,d,tk',os⟩)->wpAny (model prog w) A (eval J (callEnv fd L fI)) Q E ⟨h1,g,d,tk,os⟩
theorem Says.later {h':Heap}{v:Value}(a:Says prog w K fd fI x J v h)(k:∀b o,h.get? b=some o->h'.get? b=some o):Says prog w K fd fI x J v h':=
 fun A E h1 g d os tk L m Q hg hu z k1=>a A E h1 g d os tk L m Q hg hu z fun b o e=>k1 b o (k b o e)
theorem zih (hgd:A.guards=some [])(hun:A.units+20<cLine)(X:K.In h)(G:Gx h)(c:XI prog w K C N fI bm slf x nm J fd){v:Value}(hJ:Says prog w K fd fI x J v h){L e t0:Addr}{m:Str->Option Value}(hloc:h.Ns L m)(m1:m slf=some (.ref e))(m2:m x=some v)
 (he:h.get? e=some {cls:=.ref C,dict:=none,data:=.fields #[.ref t0,.none,.none,.none,.bool false,.none]}) (heL:e≠L) (heK:K.lookup e=none) {body:List Stmt}(hb:fd.body=.stmts body)
 {Q:Flow->Shared->Prop}
 (hq:∀h' dx tt tk,h'.get? e=some {cls:=.ref C,dict:=some dx,data:=.fields #[.ref tt,.none,.none,.none,.bool false,.none]}->L<dx->h'.Ns1 dx (fun y=>if y=nm then some v else none)->
  (∀b o,b≠e->h.get? b=some o->h'.get? b=some o)->Q .next ⟨h',g,d,tk,os⟩) :
 PySem.wpAt (model prog w) A (.func body (callEnv fd L fI)) (execs body (callEnv fd L fI)) Q E ⟨h,g,d,t,os⟩:=by
 obtain⟨p0,p1,ap,cp,q1,q2,q3,q4,q5,hbd,hint,hs1,hs2,hst,pl,hE⟩:=c.body;rw[hbd] at hb;cases hb;obtain⟨of,hf,hfc,hfd⟩:=c.fn;obtain⟨ar,hp,rfl⟩:=c.par;obtain⟨cda,ocd,vs,fl,tf,hco,hcc,hoc,hvs,hfile⟩:=c.file;obtain⟨mg,hG,hmg⟩:=G.g;obtain⟨mb,hB,hmb⟩:=G.b;obtain⟨cc,hcl,hcell⟩:=c.cc;obtain⟨k1,k2,k3,k4⟩:=c.kinds L;have hk:(callEnv fd L fI).scope.kind=.function:=c.flags.2.2
 have heC:e≠C:=by
  rintro rfl;obtain⟨nm,q,bs,hdct,sn,sub,ab,col,dd,k0,k1,k2,k3,k5,ho⟩:=c.cls.obj;rw[heK] at ho;cases ho
 refine ks_wpAt_execs_cons (ks_wpAt_Expr_any ?_ (hint L) (hs1 L));refine zg3 X c.cls c.inC hk k1 k2 k3 rfl (X _ _ hf) hfd hp hco (X _ _ hcc) hoc hvs hfile c.top (by rw[c.glob L];exact hG) hmg (by rw[c.blt L];exact hB) hmb (hcl L) (hcell _ X) hloc m1 he heC ?_ (hst L) (hE L) ?_
 ·intro h1 tk Q1 hk1 hq1;exact hJ A E h1 g d os tk L m Q1 hgd hun (X.keeps hk1) hk1 (hloc.keeps hk1) m2 hq1
 intro h' tt tk hk' he';have X':K.In h':=fun b o ho=>hk' b o (fun z=>by rw[z,heK] at ho;cases ho) (X b o ho)
 have hloc':h'.Ns L m:=by obtain⟨o,es,ep,a1,a2⟩:=hloc;exact⟨o,es,ep,hk' _ _ heL.symm a1,a2⟩
 dsimp only;refine ks_wpAt_execs_cons (ks_wpAt_Assign_Attr ?_ (hs2 L));refine wpAt_of_wpAny (wcu (wbq hk k4 hloc' m2 ?_) c.dbg.1);refine wcu (wbq hk k3 hloc' m1 ?_) c.dbg.2;refine zlT X' he' rfl rfl rfl c.set c.und c.tak c.hasD fun h2 dx tk2 hdx hne he2 hns2 hk2=>?_
 dsimp only;refine wpAt_of_wpAny (wah (hq h2 dx tt tk2 he2 ?_ hns2 fun b o hb z=>hk2 b o hb (hk' b o hb z)));obtain⟨o,es,ep,a1,a2⟩:=hloc';exact waj (wae a1) hdx
theorem zjG (hgd:A.guards=some [])(hun:A.units+40<cLine)(X:K.In h)(G:Gx h)(c:XI prog w K C N fI bm slf x nm J fd){v:Value}(hJ:Says prog w K fd fI x J v h)(hroom:A.depth+1<recursionLimit)
 {Q:Value->Shared->Prop}
 (hq:∀h' e dx tt tk,h.objs.size<=e->h'.get? e=some {cls:=.ref C,dict:=some dx,data:=.fields #[.ref tt,.none,.none,.none,.bool false,.none]}->h.objs.size<=dx->h'.Ns1 dx (fun y=>if y=nm then some v else none)->
  (∀b o,h.get? b=some o->h'.get? b=some o)->Q (.ref e) ⟨h',g,d,tk,os⟩) :
 wpAny (model prog w) A (call (.ref C) [v]) Q E ⟨h,g,d,t,os⟩:=by
 obtain⟨of,hf,hfc,hfd⟩:=c.fn;obtain⟨mN,hN,hmN⟩:=c.names;obtain⟨nm',q,bs,hdct,sn,sub,ab,col,dd,k0,k1,k2,k3,k5,ho⟩:=c.cls.obj;refine zic PySem.F.excBase_ValueError (c.cls.tail h X) (X _ _ ho) (hN h X) hmN (X _ _ hf) hfc fun h1 e M hse=>?_
 obtain⟨up,hne,t0,he,ht0,htt⟩:=M;have X1:K.In h1:=X.keeps up
 obtain⟨p0,p1,ap,cp,q1,q2,q3,q4,q5,hbd,-⟩:=c.body;refine wci (ks_codeAny_call_defAt ?_ (X1 _ _ hf) hfd (G.keeps up).lim (c.code _ X1) hbd (c.bind _ _ _) c.cell ?_ ?_ c.flags.1 c.flags.2.1 c.flags.2.2)
 ·first | exact Nat.lt_of_succ_lt hroom | exact hroom
 ·intro z hz;simp only[wag,wcf,or_false] at hz;rcases hz with rfl | rfl
  ·exact c.loc1
  ·exact c.loc2
 intro h2 hns hk2;have X2:K.In h2:=X1.keeps hk2
 have heK:K.lookup e=none:=by
  cases hz:K.lookup e with
  | none=>rfl
  | some o=>rw[X _ _ hz] at hne;cases hne
 refine zih (by first | exact hgd | (show(A.under _).guards=_;first | exact hgd | simp[hgd])) (by show(A.under _).units+3+20<cLine;rw[L2.make_units];omega) X2 ((G.keeps up).keeps hk2) c (hJ.later fun b o z=>hk2 b o (up b o z)) hns ?_ ?_ (hk2 _ _ he) (waz (wae he)) heK hbd ?_
 ·have:(slf == x)=false:=by simpa using c.ne
  simp[List.lookup,this]
 ·simp[List.lookup]
 intro h' dx tt tk he' hdx hns' hk';refine⟨rfl,hq h' e dx tt tk hse he' ?_ hns' fun b o z=>?_⟩
 ·exact waW (waV (wai hse (waW (wae he))) hdx)
 ·refine hk' b o (fun z'=>?_) (hk2 _ _ (up _ _ z));rw[z',hne] at z;cases z
end
end EX
namespace EX
open PySem PySem.Spec PyProof.Rows L2
def XAt (h0:Heap)(H:Hp)(h:Heap)(e:Addr)(cls:Value)(dx:Option Addr):Prop:=
 h0.objs.size<=e/\H e=none/\(∀d,dx=some d->h0.objs.size<=d)/\∃vs sl,h.get? e=some ⟨cls,dx,.fields vs,sl⟩ /\(vs[1]?=some .none\/∃T oT ts,vs[1]?=some (.ref T)/\T≠e/\h0.objs.size<=T/\H T=none/\h.get? T=some oT/\oT.data=.fields ts/\ts[3]?=some .none)
structure LeftX (h0:Heap)(H:Hp)(l:List Env)(base h h':Heap)(e:Addr)(cls:Value)(dx:Option Addr):Prop where
 funs:h'.FunFrames base l
 size:h.objs.size<=h'.objs.size
 keep:∀b o,h.get? b=some o->(b<h0.objs.size\/H b≠none)->b∉frs l->h'.get? b=some o
 slot:∀b o,h.get? b=some o->(b<h0.objs.size\/H b≠none)->∃sl,h'.get? b=some {o with slots:=sl}
 at_:XAt h0 H h' e cls dx
section
variable {M:Model}{A:Around}{E:Value->Shared->Prop}{s:Shared}{h0 base:Heap}{H:Hp}{env:Env}{outer:List Env}{L e:Addr}{cls:Value}{dx:Option Addr}{vs:Array Value}{sl:Array (Option Value)}
theorem zfa {head:Value}{hadNext:Bool}{Q:Unit->Shared->Prop}(hfr:A.frames=some (env::outer))(hl:s.heap.FunFrames base (env::outer))(hf:env.frame=some L)
 (e0:h0.objs.size<=e) (eH:H e=none) (eD:∀d,dx=some d->h0.objs.size<=d) (he:s.heap.get? e=some ⟨cls,dx,.fields vs,sl⟩) (hsz:1<vs.size) (hz:h0.objs.size<=s.heap.objs.size) (hH:∀b,s.heap.objs.size<=b->H b=none)
 (h:∀h',LeftX h0 H (env::outer) base s.heap h' e cls dx->Q () {s with heap:=h'}) :
 wpAny M A (do let a <-frameOf env;let pl <-entryPlaceOf L hadNext;let b <-EntryCells.newEntry head a .none (rawInt L) .none pl;setField (.ref e) 1 b) (fun _ s'=>wpAny M A (setFlight (.ref e) none) Q E s') E s:=by
 have hene:e∉(env::outer).filterMap (·.frame):=fun hm=>by
  obtain⟨_,o,ho,hnf⟩:=hl.mem hm;rw[he] at ho;injection ho with ho;subst ho;exact hnf vs rfl
 refine waa (wpAny_frameOf_fun hfr hl hf fun h₁ hs₁=>?_);refine waa (wpAny_entryPlaceOf fun pl hpl=>?_);unfold EntryCells.newEntry newFields;refine waa (wbb ?_ (hpl.sizeOk5 _ _ _ _ _));have he₁:h₁.get? e=some ⟨cls,dx,.fields vs,sl⟩:=(hs₁.2.1 e hene).trans he
 have he₂:=wac (h:=h₁) {cls:=.type "traceback",dict:=none,data:=.fields ([head,.ref L,.none,rawInt L,.none]++(if pl.isEmpty then List.replicate 6 Value.none else pl)).toArray} he₁
 refine wbK he₂ rfl hsz ?_;have hTe:h₁.objs.size≠e:=Nat.ne_of_gt (wae he₁)
 have hd₃:=wbi (o:=⟨cls,dx,.fields vs,sl⟩) rfl (·.setIfInBounds 1 (Value.ref h₁.objs.size))
 have he₃:=waU (Obj.mapFields (·.setIfInBounds 1 (Value.ref h₁.objs.size))) he₂ (wbD hd₃)
 have hT₃:=(waH (h₁.push {cls:=.type "traceback",dict:=none,data:=.fields ([head,.ref L,.none,rawInt L,.none]++(if pl.isEmpty then List.replicate 6 Value.none else pl)).toArray})
  (Obj.mapFields (·.setIfInBounds 1 (Value.ref h₁.objs.size))) (Ne.symm hTe)).trans (wav h₁ rfl)
 unfold setFlight;refine waa (waS he₃ hd₃ (x:=.ref h₁.objs.size) (by simp[hsz]) ?_);rw[if_pos (show(Value.ref h₁.objs.size != Value.none)=true from by simp)];refine wbK hT₃ rfl (by simp only[wab,was,waX,wcq] <;> omega) (h _ ?_);have keep:∀b o,b≠e->h₁.get? b=some o->
  (((h₁.push {cls:=.type "traceback",dict:=none,data:=.fields ([head,.ref L,.none,rawInt L,.none]++(if pl.isEmpty then List.replicate 6 Value.none else pl)).toArray}).update e (Obj.mapFields (·.setIfInBounds 1 (Value.ref h₁.objs.size)))).update h₁.objs.size
    (Obj.mapFields (·.setIfInBounds 3 ((none:Option Addr).elim Value.none fun f=>rawInt f)))).get? b=some o:=fun b o hbe hb=>by
  have hbT:h₁.objs.size≠b:=Nat.ne_of_gt (wae hb)
  rw[waH _ _ hbT,waH _ _ (Ne.symm hbe)];exact wac _ hb
 have noRecord:∀b o,s.heap.get? b=some o->(∀vs,o.data≠.fields vs)->b≠e:=fun b o hb hnf q=>by
  rw[q,he] at hb;injection hb with hb;subst hb;exact hnf vs rfl
 have ne:∀b,(b<h0.objs.size\/H b≠none)->b≠e:=fun b z q=>by rw[q] at z;exact z.elim (fun z=>absurd z (Nat.not_lt.mpr e0)) fun z=>z eH
 have hn0:h0.objs.size<=h₁.objs.size:=by rw[hs₁.1];exact hz
 refine⟨hl.of_keeps fun b o hb hnf=>?_,?_,fun b o hb z hbf=>keep b o (ne b z) ((hs₁.2.1 b hbf).trans hb),fun b o hb z=>?_,e0,eH,eD,?_⟩
 ·obtain⟨sl,hs⟩:=hs₁.2.2 b o hb;exact⟨_,keep b _ (noRecord b o hb hnf) hs,rfl⟩
 ·rw[wbm,wbm,wct,hs₁.1];exact wcv _
 ·obtain⟨sl,hs⟩:=hs₁.2.2 b o hb;exact⟨sl,keep b _ (ne b z) hs⟩
 ·refine⟨vs.setIfInBounds 1 (.ref h₁.objs.size),sl,?_,.inr ⟨h₁.objs.size,_,_,by simp[hsz],hTe,hn0,hH _ (by rw[hs₁.1];exact wan _),waU _ hT₃ (wbD (wbi rfl _)),wbi rfl _,by first | (simp;done) | (rcases hpl with rfl | ⟨_,_,_,_,_,_,_,rfl⟩ <;> simp)⟩⟩;rw[waH _ _ hTe];exact he₃
theorem znD {Q:Unit->Shared->Prop}(hfr:A.frames=some (env::outer))(hl:s.heap.FunFrames base (env::outer))(hf:env.frame=some L)(X:XAt h0 H s.heap e cls dx)
 (hz:h0.objs.size<=s.heap.objs.size) (hH:∀b,s.heap.objs.size<=b->H b=none)
 (h:∀h',LeftX h0 H (env::outer) base s.heap h' e cls dx->Q () {s with heap:=h'}):wpAny M A (noteFrame (.ref e) env) (fun _ s'=>wpAny M A (setFlight (.ref e) none) Q E s') E s:=by
 obtain⟨e0,eH,eD,vs,sl,he,h1 | ⟨T,oT,ts,h1,hTe,hnT,HT,hT,hdT,h3⟩⟩:=X
 ·unfold noteFrame;simp only[hf];refine waa (waS he rfl h1 ?_);rw[if_neg (by decide)];exact zfa hfr hl hf e0 eH eD he (waZ.mp h1).1 hz hH h
 ·unfold noteFrame;simp only[hf];refine waa (waS he rfl h1 ?_);rw[if_pos (show(Value.ref T != Value.none)=true from by simp)];refine waa (waS hT hdT h3 ?_);rw[if_neg (show ¬((Value.none == rawInt L)=true) from by simp[rawInt])];refine waa (wbK hT hdT (waZ.mp h3).1 ?_);have other:∀b,b≠T->(s.heap.update T (Obj.mapFields (·.setIfInBounds 3 Value.none))).get? b=s.heap.get? b:=fun b hb=>waH _ _ (Ne.symm hb)
  have noRecord:∀b o,s.heap.get? b=some o->(∀vs,o.data≠.fields vs)->b≠T:=fun b o hb hnf q=>by
   rw[q,hT] at hb;injection hb with hb;subst hb;exact hnf ts hdT
  have ne:∀b,(b<h0.objs.size\/H b≠none)->b≠T:=fun b z q=>by rw[q] at z;exact z.elim (fun z=>absurd z (Nat.not_lt.mpr hnT)) fun z=>z HT
  refine zfa hfr (hl.of_keeps fun b o hb hnf=>⟨o,(other b (noRecord b o hb hnf)).trans hb,rfl⟩) hf e0 eH eD ((other e (Ne.symm hTe)).trans he) (waZ.mp h1).1
   (by show _<=(s.heap.update T _).objs.size;rw[wbm];exact hz) (fun b hb=>hH b (by rw[<-wbm s.heap T];exact hb))
   fun h' ⟨x1,x2,x3,x4,x5⟩ =>h h' ⟨x1,by rw[<-wbm s.heap T];exact x2,fun b o hb z hbf=>x3 b o ((other b (ne b z)).trans hb) z hbf,fun b o hb z=>x4 b o ((other b (ne b z)).trans hb) z,x5⟩
theorem znE {Q:Unit->Shared->Prop}(hfr:A.frames=some (env::outer))(hl:s.heap.FunFrames base (env::outer))(hf:env.frame=some L)(X:XAt h0 H s.heap e cls dx)
 (hz:h0.objs.size<=s.heap.objs.size) (hH:∀b,s.heap.objs.size<=b->H b=none)
 (h:∀h',LeftX h0 H (env::outer) base s.heap h' e cls dx->Q () {s with heap:=h'}):wpAny M A (leaving env (.ref e)) Q E s:=waa (znD hfr hl hf X hz hH h)
end
def CXE (P:Program)(w:World):CXT:=fun outer H s E e s'=>∃a cls dx H',e=.ref a/\XAt s.heap H' s'.heap a cls dx/\s'.os=s.os/\AllBare s'.gens/\Un (frs outer) [] H H' s.heap s'.heap/\HOk P w H' s'.heap/\E cls dx H'
def Leaves (X:Cx)(E:XK):Prop:=∀(pins:List (Addr×Obj)) (σ:L2.St) (H:Hp) (s:Shared) (a:Addr) (cls:Value) (dx:Option Addr),Inv X pins σ H s->XAt X.s₀.heap H s.heap a cls dx->E cls dx H->X.xe (.ref a) s
theorem XAt.older {h0 h1:Heap}{H:Hp}{h:Heap}{e:Addr}{cls:Value}{dx:Option Addr}(x:XAt h1 H h e cls dx)(hz:h0.objs.size<=h1.objs.size):XAt h0 H h e cls dx:=by
 obtain⟨e0,eH,eD,vs,sl,he,h1 | ⟨T,oT,ts,h1,hTe,hnT,HT,hT,hdT,h3⟩⟩:=x
 ·exact⟨wai hz e0,eH,fun d z=>wai hz (eD d z),vs,sl,he,.inl h1⟩
 ·exact⟨wai hz e0,eH,fun d z=>wai hz (eD d z),vs,sl,he,.inr ⟨T,oT,ts,h1,hTe,wai hz hnT,HT,hT,hdT,h3⟩⟩
theorem zii {X:Cx}{pins:List (Addr×Obj)}{σ:L2.St}{H:Hp}{s s':Shared}{E:XK}{e:Value}(I:Inv X pins σ H s)(h:CXE X.prog X.w X.stack H s E e s') :
 ∃a cls dx H',e=.ref a/\Inv X pins σ H' s'/\XAt s.heap H' s'.heap a cls dx/\E cls dx H':=by
 obtain⟨a,cls,dx,H',rfl,x,os,bare,un,hok,q⟩:=h;exact⟨a,cls,dx,H',rfl,I.call' (ch:=[]) os un hok bare (fun b z=>absurd z (by simp)),x,q⟩
theorem Leaves.passes {X:Cx}{E:XK}(h:Leaves X E):zga (CXE X.prog X.w) X E:=by
 intro pins σ H s e s' I hc;obtain⟨a,cls,dx,H',rfl,J,x,q⟩:=zii I hc;exact h pins σ H' s' a cls dx J (x.older I.sz) q
theorem zij {P:Program}{w:World}{K:W.Frag}{mg:Str->Option Value}{base:Heap}{N:List Str}{qual:Str}{scope:Scope}{f:Addr}{cd:Value}{A:Around}{outer:List Env}{s:Shared}{H:Hp}{E:XK} :
 Leaves (cxOf (CXE P w) P w K mg base N qual scope f cd A outer s H E) E:=by
 intro pins σ H1 s1 a cls dx I x q;have nl:∀b,b<s.heap.objs.size->b∉frs outer->b∉frs (envOfC qual scope s.heap.objs.size f cd::outer):=fun b hb hn hm=>by
  rcases wag.mp (I.stkSub b hm) with z | z
  ·exact absurd hb (Nat.not_lt.mpr (by rw[z];exact I.ok.above))
  ·exact hn z
 refine znE (M:=model P w) (h0:=s.heap) (H:=H1) I.ok.frames I.stack rfl x I.sz (fun b hb=>I.hok.fresh hb) fun h' L=>?_
 refine⟨a,cls,dx,H1,rfl,L.at_,I.os,I.bare,⟨fun b o e n hf hx=>?_,fun b o e n hf hx=>?_,I.base.free,fun b o e hx=>?_,I.base.tups,I.base.frzs,I.base.tbls⟩,fun b u e=>?_,q⟩
 ·exact L.keep b o (I.base.keep b o e n hf hx) (.inl (wae e)) (nl b (wae e) hf)
 ·obtain⟨sl,z⟩:=I.base.slot b o e n hf hx;obtain⟨sl',z'⟩:=L.slot b _ z (.inl (wae e));exact⟨sl',z'⟩
 ·obtain⟨o',z⟩:=I.base.there b o e hx;obtain⟨sl',z'⟩:=L.slot b _ z (.inl (wae e));exact⟨_,z'⟩
 ·refine(I.hok b u e).stay (fun c v hc q=>L.keep c v q ?_ ?_) (fun _ q=>q) fun _ _ _ q=>q
  ·rcases hc with z | z
   ·rw[z,e];exact .inr (by simp)
   ·rw[z];exact .inr (by simp)
  ·intro hm;have:=I.stkFree c hm
   rcases hc with z | z
   ·rw[z,e] at this;cases this
   ·rw[z] at this;cases this
section
variable {M:Model}{A:Around}{E:Value->Shared->Prop}{env:Env}
variable {nm q:Str}{C N:Addr}{bs bm:List Value}{hdct:Bool}{sn:List Str}{sub:List Value}{ab:Bool}{col:Option Bool}{dd:Option Addr}{k0 k1 k2 k3 k5:Option Value}{newId:String}
theorem zg4 {s:Shared}{x:Sem Value}{Q:Flow->Shared->Prop}(hbase:bm.contains (.type "BaseException")=true)(hh:A.handled=none)
 (h:wpAny M A x (fun v s₁=>∃e t dx,v=.ref e/\s₁.heap.get? C=some (excClassObj nm q C N bs bm hdct sn sub ab col dd k0 k1 k2 k3 k5 newId)/\
  s₁.heap.get? e=some {cls:=.ref C,dict:=dx,data:=.fields #[.ref t,.none,.none,.none,.bool false,.none]}/\E (.ref e) s₁) E s) :
 wpAny M A (raiseStmt env (some x) none) Q E s:=by
 have hcB:(Value.ref C::bm).contains (.type "BaseException")=true:=by rw[List.contains_cons,hbase,Bool.or_true]
 unfold raiseStmt;refine waa (waG h (fun v s₁ h₁=>?_) fun _ _ x=>x);obtain⟨e,t,dx,rfl,hC,he,hE⟩:=h₁;obtain⟨hp,g,d,tk,os⟩:=s₁;repeat (first | with_reducible refine wbt he ?_ | with_reducible refine wbt hC ?_ | (with_reducible refine wcp hC ?_;rw[hcB]) | wp_step)
 exact wpAny_raiseNew_none hh hE
end
section
variable {X:Cx}{C N fI:Addr}{bm:List Value}{slf x nm cn:Str}{J e:Expr}{fd:FuncData}{te:TA}{E:XK}{np cp pos:Pos}{k:Nat}
def znF (C:Addr)(nm:Str)(E:XK)(SJ:V->Hp->Prop)(te:TA):TS:=fun D σ H=>te σ H fun vs H1=>∃v,vs = [v]/\SJ v H1/\∀dx,H1 dx=none->E (.ref C) (some dx) (upd H1 dx (.xd [(nm,v)]))
theorem zjH {SJ:V->Hp->Prop}(c:XI X.prog X.w X.K C N fI bm slf x nm J fd)(hsup:X.mg "super"=none)(hg:Gl X cn)(hm:X.mg cn=some (.ref C))(hk:W.keepIn X.K (.ref C)=true)(hB:bm.contains (.type "BaseException")=true)
 (hr:Room (k+1) X.A) (hL:Leaves X E) (ha:PA X [e] te) (hJ:∀(pins:List (Addr×Obj)) (σ:L2.St) (H:Hp) (s:Shared) (v:V) (u:Value),Inv X pins σ H s->RelV v u->SJ v H->Says X.prog X.w X.K fd fI x J u s.heap)
 (hdb:(cn == ("__debug__" : Str))=false:=by decide) (he:starEach [e] X.env=(false,eval e X.env)::starEach [] X.env:=by rfl) :
 PS X (.Raise (some (.Call (.Name cn np) [e] [] cp)) none pos) (znF C nm E SJ te):=by
 intro pins s σ H D I h;obtain⟨nm',q,bs,hdct,sn,sub,ab,col,dd,k0,k1,k2,k3,k5,ho⟩:=c.cls.obj;show wpAny (model X.prog X.w) X.A (do standAt pos;raiseStmt X.env (some (do let v <-eval (.Call (.Name cn np) [e] [] cp) X.env;standAt pos;pure v)) none) _ X.xe s
 refine waa (wch (zg4 (C:=C) (nm:=nm') (q:=q) (N:=N) (bs:=bs) (bm:=bm) (hdct:=hdct) (sn:=sn) (sub:=sub) (ab:=ab) (col:=col) (dd:=dd) (k0:=k0) (k1:=k1) (k2:=k2) (k3:=k3) (k5:=k5) (newId:="ValueError.__new__") hB hr.hd (waa ?_)));refine waR (zc1 I hg hm ?_ hdb);refine wbQ (h₀:=X.base) I.ok.mod.kin hk (thn (ha cp pins s σ H _ I h) fun us s1 ⟨vs,H1,I1,r,v,ev,sj,q⟩ =>⟨I1.kIn,?_⟩) he rfl;subst ev;rcases r with _ | ⟨r1,r2⟩
 rcases r2 with _ | _
 obtain⟨h1,g,d,t,os⟩:=s1;have G:Gx h1:=⟨I1.nolimit,⟨X.mg,I1.mod.glob.keeps I1.bk,hsup⟩,let ⟨mb,a,b⟩:=I1.mod.blt;⟨mb,a.keeps I1.bk,(b "super" (by decide)).trans (by decide +kernel)⟩⟩
 refine zjG hr.gd (by have:=hr.un;omega) I1.kIn G c (hJ _ _ _ _ _ _ I1 r1 sj) (by have:=hr.dp;omega) fun h' e' dx tt tk he he' hd hns hkp=>?_
 refine waa (wch (wah ⟨e',tt,some dx,rfl,hkp _ _ (I1.kIn _ _ ho),he',?_⟩));have hne:e'≠dx:=by
  rintro rfl;obtain⟨o,es,ep,a1,a2,-⟩:=hns;rw[he'] at a1;cases a1;cases a2
 refine hL pins σ (upd H1 dx (.xd [(nm,v)])) _ e' (.ref C) (some dx) (I1.laid hkp hd ⟨_,hns,fun f=>?_⟩) ⟨wai I1.sz he,?_,fun d z=>by cases z;exact wai I1.sz hd,_,_,he',.inl rfl⟩ (q dx (I1.hok.fresh hd))
 ·by_cases hf:f=nm
  ·subst hf;simp[List.lookup,RelO,r1]
  ·have:(f == nm)=false:=by simpa using hf
   simp[List.lookup,RelO,this,hf]
 ·unfold upd;rw[if_neg hne];exact I1.hok.fresh he
end
def XP (X:Cx)(pins:List (Addr×Obj))(σ:L2.St)(E:XK)(e:Value)(s':Shared):Prop:=∃H1 s1,Inv X pins σ H1 s1/\CXE X.prog X.w X.stack H1 s1 E e s'
section
variable {X:Cx}{pins:List (Addr×Obj)}{σ:L2.St}{E:XK}{e:Value}{s':Shared}{Ex:Value->Shared->Prop}
theorem zjI {Q:Unit->Shared->Prop}(hst:X.stack=X.env::X.outer)(hf:X.env.frame=some X.env.locals)(h:XP X pins σ E e s')(hq:∀h',XP X pins σ E e {s' with heap:=h'}->Q () {s' with heap:=h'}) :
 wpAny (model X.prog X.w) X.A (noteFrame e X.env) (fun _ s2=>wpAny (model X.prog X.w) X.A (setFlight e none) Q Ex s2) Ex s':=by
 obtain⟨H1,s1,I1,hc⟩:=h;obtain⟨_,_,_,_,_,J,_,_⟩:=zii I1 hc;obtain⟨a,cls,dx,H',rfl,x,os,bare,un,hok,q⟩:=hc;have hz:s1.heap.objs.size<=s'.heap.objs.size:=by
  obtain⟨e0,_,_,vs,sl,he,_⟩:=x;exact wai e0 (waW (wae he))
 refine znD (M:=model X.prog X.w) (h0:=s1.heap) (H:=H') (base:=X.base) (outer:=X.outer) (by rw[<-hst];exact I1.ok.frames) (by rw[<-hst];exact J.stack) hf x hz (fun b hb=>hok.fresh hb) fun h' L=>hq h' ?_
 rw[<-hst] at L;refine⟨H1,s1,I1,a,cls,dx,H',rfl,L.at_,os,bare,⟨fun b o e n hf hx=>L.keep b o (un.keep b o e n hf hx) (.inl (wae e)) hf,fun b o e n hf hx=>?_,un.free,fun b o e hx=>?_,un.tups,un.frzs,un.tbls⟩,fun b u e=>?_,q⟩
 ·obtain⟨sl,z⟩:=un.slot b o e n hf hx;obtain⟨sl',z'⟩:=L.slot b _ z (.inl (wae e));exact⟨sl',z'⟩
 ·obtain⟨o',z⟩:=un.there b o e hx;obtain⟨sl',z'⟩:=L.slot b _ z (.inl (wae e));exact⟨_,z'⟩
 ·refine(hok b u e).stay (fun c v hc q=>L.keep c v q ?_ ?_) (fun _ q=>q) fun _ _ _ q=>q
  ·rcases hc with z | z
   ·rw[z,e];exact .inr (by simp)
   ·rw[z];exact .inr (by simp)
  ·intro hm;have:=un.free c
   have fr:=I1.stkFree c hm
   obtain⟨_,o,ho,_⟩:=I1.stack.mem hm;have h0:=un.free c o ho fr (by simp)
   rcases hc with z | z
   ·rw[z,e] at h0;cases h0
   ·rw[z] at h0;cases h0
end
theorem zfb {M:Model}{A:Around}{Ex:Value->Shared->Prop}{K:W.Frag}{s:Shared}{a C CT:Addr}{oe:Obj}{b:Bool}{Q:Bool->Shared->Prop}(X:K.In s.heap)(he:s.heap.get? a=some oe)(hc:oe.cls=.ref C)
 (hb:PySem.W.mroIn K CT (.type "BaseException")=some true) (ht:PySem.W.typeIn K (.ref CT)=some (.type "type")) (hm:PySem.W.mroIn K C (.ref CT)=some b) (hq:Q b s):wpAny M A (excMatches (.ref a) (.ref CT)) Q Ex s:=by
 obtain⟨hp,g,d,t,os⟩:=s;have L1:=PySem.W.looks_mroIn (M:=M) X hb
 have L2:=PySem.W.looks_mroIn (M:=M) X hm
 have L3:=PySem.W.looks_typeIn (M:=M) X ht
 obtain⟨cd,hcd,-⟩:=Option.bind_eq_some_iff.mp hb;obtain⟨oC,hoC,hdC⟩:∃oC,hp.get? CT=some oC/\oC.data=.cls cd:=by
  unfold PySem.W.clsIn at hcd;split at hcd
  ·rename_i ho;cases hcd;exact⟨_,X _ _ ho,rfl⟩
  ·cases hcd
 have f:=tc_notTuple
 have f':PySem.W.Looks M hp (isSubtype (.type "type") (.type "tuple")) false:=.of_pure f
 have T:PySem.W.Looks M hp (isInstance (.ref CT) (.type "tuple")) false:=L3.andThen f'
 have B:PySem.W.Looks M hp (isExcClass (.ref CT)) true:=by
  refine PySem.W.Looks.andThen (a:=true) ?_ L1;exact(PySem.W.Looks.ld (part:=some PySem.headPart) hoC).andThen (by rw[hdC];exact .now)
 have Y:PySem.W.Looks M hp (typeOf (.ref a)) (.ref C):=(PySem.W.Looks.ld he).andThen (by rw[hc];exact .now)
 unfold excMatches;refine waa (T.here ?_);simp only[Bool.false_eq_true,if_false];refine waa (wah ?_);simp only[List.forIn_cons,List.forIn_nil];refine waa (waa (waa (B.here ?_)));simp only[Bool.not_true,Bool.false_eq_true,if_false];refine wah (wah (waa (Y.here (waa (waa (waa (L2.here ?_)))))));cases b with
 | true=>exact wah (wah (wah hq))
 | false=>exact wah (wah (wah hq))
section
variable {X:Cx}{pins:List (Addr×Obj)}{σ:L2.St}{H:Hp}{s:Shared}
theorem zcR {M:Model}{A:Around}{E:Value->Shared->Prop}{i:Nat}{x:Str}{pos:Pos}{Q:Unit->Shared->Prop}(I:Inv X pins σ H s)(hN:X.N.Nodup)(hi:X.N[i]?=some x)(hk:X.env.kindOf x=some .local)
 (h:∀s',Inv X pins (σ.set i none) H s'->Q () s'):wpAny M A (do bindName X.env x .none;unbindBehindTheSuite X.env x pos) Q E s:=by
 obtain⟨m,hn,hl⟩:=id I.loc;have hcls:(X.env.scope.kind == .class||(X.env.scope.kind == .module&&X.env.locals != X.env.globals))=false:=by rw[I.ok.kind];rfl
 have hiσ:i<σ.length:=by rw[I.len];exact(wak.mp hi).1
 have cne:=I.cne
 have tracked:∀{a:Addr}{h':Heap},(∃o,s.heap.get? a=some o/\H a=none)->Heap.SameBut a s.heap h'->HOk X.prog X.w H h':=fun {a h'} ha hs b ob e=>by
  obtain⟨_,_,hfree⟩:=ha;refine(I.hok b ob e).stay (fun c w' hc q=>(hs.2 c ?_).trans q) (fun _ q=>q) fun _ _ _ q=>q
  rintro rfl;rcases hc with rfl | hc
  ·rw[hfree] at e;cases e
  ·rw[hfree] at hc;cases hc
 refine wpAny_nameGoes_keeps hk hn hcls fun h' v hn' hs=>?_
 obtain⟨oL,_,_,hoL,_⟩:=id hn;refine h _ ⟨I.ok,I.os,I.bare,⟨fun b o e n hb hx=>?_,fun b o e n hb hx=>?_,I.base.free,fun b o e hx=>?_,I.base.tups,I.base.frzs,I.base.tbls⟩,⟨_,hn',fun j y v' e1 e2 e3=>?_⟩,fun y c e=>?_,I.free,I.freeC,fun p hp=>?_,tracked ⟨oL,hoL,I.free⟩ hs,by simpa using I.len⟩
 ·exact(hs.2 b (waz (waj (wae e) I.ok.above))).trans (I.base.keep b o e n hb hx)
 ·obtain⟨sl,e1⟩:=I.base.slot b o e n hb hx;exact⟨sl,(hs.2 b (waz (waj (wae e) I.ok.above))).trans e1⟩
 ·obtain⟨o',e1⟩:=I.base.there b o e hx;exact⟨o',(hs.2 b (waz (waj (wae e) I.ok.above))).trans e1⟩
 ·by_cases hj:j=i
  ·subst hj;rw[wap hiσ] at e2;cases e2
  ·rw[wad (Ne.symm hj)] at e2;obtain⟨u',r',q⟩:=hl j y v' e1 e2 e3;refine⟨u',r',?_⟩;rcases q with⟨k,e⟩ | ⟨k,c,e,z⟩
   ·refine .inl ⟨k,?_⟩;have:y≠x:=fun e=>hj (zef hN e1 (e▸hi))
    simp[this,e]
   ·exact .inr ⟨k,c,e,z.sameBut hs (cne y c e)⟩
 ·obtain⟨w',z⟩:=I.cell y c e;exact⟨w',z.sameBut hs (cne y c e)⟩
 ·obtain⟨e,n,ne,nf,d⟩:=I.pin p hp;exact⟨(hs.2 p.1 ne).trans e,n,ne,nf,d⟩
theorem zg5 {M:Model}{A:Around}{E:XK}{e:Value}{s':Shared}{Ex:Value->Shared->Prop}{Q:Unit->Shared->Prop}(h:XP X pins σ E e s')(hq:∀h',XP X pins σ E e {s' with heap:=h'}->Q () {s' with heap:=h'}) :
 wpAny M A (setFlight e none) Q Ex s':=by
 obtain⟨H1,s1,I1,hc⟩:=h;obtain⟨a,cls,dx,H',rfl,x,os,bare,un,hok,q⟩:=id hc;obtain⟨e0,eH,eD,vs,sl,he,h1 | ⟨T,oT,ts,h1,hTe,hnT,HT,hT,hdT,h3⟩⟩:=id x
 ·unfold setFlight;refine waa (waS he rfl h1 ?_);rw[if_neg (by decide)];exact wah (hq s'.heap ⟨H1,s1,I1,hc⟩)
 ·unfold setFlight;refine waa (waS he rfl h1 ?_);rw[if_pos (show(Value.ref T != Value.none)=true from by simp)];refine wbK hT hdT (waZ.mp h3).1 ?_;have other:∀b,b≠T->(s'.heap.update T (Obj.mapFields (·.setIfInBounds 3 Value.none))).get? b=s'.heap.get? b:=fun b hb=>waH _ _ (Ne.symm hb)
  have ne1:∀b o,s1.heap.get? b=some o->b≠T:=fun b o e z=>absurd (wae e) (Nat.not_lt.mpr (by rw[z];exact hnT))
  have self:(s'.heap.update T (Obj.mapFields (·.setIfInBounds 3 Value.none))).get? T=some _:=waU _ hT (wbD (wbi hdT _))
  refine hq _ ⟨H1,s1,I1,a,cls,dx,H',rfl,⟨e0,eH,eD,vs,sl,(other a (Ne.symm hTe)).trans he,.inr ⟨T,_,_,h1,hTe,hnT,HT,self,wbi hdT _,by simp[(waZ.mp h3).1]⟩⟩,os,bare,⟨fun b o e n hf hx=>(other b (ne1 b o e)).trans (un.keep b o e n hf hx),fun b o e n hf hx=>?_,un.free,fun b o e hx=>?_,un.tups,un.frzs,un.tbls⟩,fun b u e=>?_,q⟩
  ·obtain⟨sl,z⟩:=un.slot b o e n hf hx;exact⟨sl,(other b (ne1 b o e)).trans z⟩
  ·obtain⟨o',z⟩:=un.there b o e hx;exact⟨o',(other b (ne1 b o e)).trans z⟩
  ·refine(hok b u e).stay (fun c v hc q=>(other c ?_).trans q) (fun _ q=>q) fun _ _ _ q=>q
   rintro rfl;rcases hc with z | z
   ·rw[<-z,HT] at e;cases e
   ·rw[HT] at z;cases z
end
def X0:HO:=.ext fun _=>True
def Held (H:Hp)(a:Addr)(oa:Obj)(H2:Hp):Prop:=
 (oa.dict=none/\H2=upd H a (.frz oa X0))\/∃d od fs,oa.dict=some d/\H d=some (.xd fs)/\H2=upd (upd H a (.frz oa X0)) d (.frz od (.xd fs))
theorem Held.same {H H2:Hp}{a:Addr}{oa:Obj}(h:Held H a oa H2)(ha:H a=none){c:Addr}{z:HO}(e:H c=some z)(n:∀fs,z≠.xd fs):H2 c=some z:=by
 have hca:c≠a:=by rintro rfl;rw[ha] at e;cases e
 rcases h with⟨_,rfl⟩ | ⟨d,od,fs,_,hd,rfl⟩
 ·rw[zag hca];exact e
 ·have hcd:c≠d:=by rintro rfl;rw[hd] at e;cases e;exact n _ rfl
  rw[zag hcd,zag hca];exact e
section
variable {X:Cx}{pins:List (Addr×Obj)}{σ:L2.St}{H:Hp}{s:Shared}
theorem zjJ {E:XK}{e:Value}{s':Shared}(h:XP X pins σ E e s')(hxd:∀cls dx H',E cls dx H'->∀d,dx=some d->∃fs,H' d=some (.xd fs)) :
 ∃a cls dx H' oa H2,e=.ref a/\E cls dx H'/\H' a=none/\s'.heap.get? a=some oa/\oa.cls=cls/\oa.dict=dx/\PySem.W.notCls oa=true/\Held H' a oa H2/\Inv X pins σ H2 s':=by
 obtain⟨H1,s1,I1,a,cls,dx,H',rfl,x,os,bare,un,hok,q⟩:=h;obtain⟨e0,eH,eD,vs,sl,he,_⟩:=id x;have hold:∃H2,Held H' a ⟨cls,dx,.fields vs,sl⟩ H2/\HOk X.prog X.w H2 s'.heap/\∀b,b<s1.heap.objs.size->H' b=none->H2 b=none:=by
  have ex0:∀H2,ObjOk X.prog X.w H2 s'.heap a (.frz ⟨cls,dx,.fields vs,sl⟩ X0):=fun H2=>⟨he,trivial,⟨_,he⟩,fun _ _ _ _=>trivial⟩
  cases hdx:dx with
  | none=>
    subst hdx;have hh:Held H' a ⟨cls,none,.fields vs,sl⟩ (upd H' a (.frz ⟨cls,none,.fields vs,sl⟩ X0)):=.inl ⟨rfl,rfl⟩
    refine⟨_,hh,fun b u e=>?_,fun b hb n=>?_⟩
    ·by_cases hba:b=a
     ·subst hba;rw[zaf] at e;cases e;exact ex0 _
     ·rw[zag hba] at e;exact(hok b u e).stay (fun _ _ _ q=>q) (fun c q=>hh.same eH q (fun _ z=>by cases z)) fun c z hz q=>hh.same eH q (fun fs y=>by rw[y] at hz;exact hz)
    ·rw[zag (waz (waj hb e0))];exact n
  | some d=>
    subst hdx;obtain⟨fs,hd⟩:=hxd _ _ _ q d rfl;obtain⟨mA,⟨od,es,ep,hod,r1⟩,r2⟩:=hok d _ hd;have hh:Held H' a ⟨cls,some d,.fields vs,sl⟩ (upd (upd H' a (.frz ⟨cls,some d,.fields vs,sl⟩ X0)) d (.frz od (.xd fs))):=.inr ⟨d,od,fs,rfl,hd,rfl⟩
    have hda:d≠a:=by rintro rfl;rw[eH] at hd;cases hd
    refine⟨_,hh,fun b u e=>?_,fun b hb n=>?_⟩
    ·by_cases hbd:b=d
     ·subst hbd;rw[zaf] at e;cases e;exact⟨hod,mA,⟨od,es,ep,hod,r1⟩,r2⟩
     rw[zag hbd] at e;by_cases hba:b=a
     ·subst hba;rw[zaf] at e;cases e;exact ex0 _
     ·rw[zag hba] at e;exact(hok b u e).stay (fun _ _ _ q=>q) (fun c q=>hh.same eH q (fun _ z=>by cases z)) fun c z hz q=>hh.same eH q (fun fs y=>by rw[y] at hz;exact hz)
    ·rw[zag (waz (waj hb (eD d rfl))),zag (waz (waj hb e0))];exact n
 obtain⟨H2,hh,hok2,hn2⟩:=hold;refine⟨a,cls,dx,H',_,H2,rfl,q,eH,he,rfl,rfl,rfl,hh,I1.call' (ch:=[]) os ⟨un.keep,un.slot,fun b o e n hx=>hn2 b (wae e) (un.free b o e n hx),un.there,fun b xs e=>hh.same eH (un.tups b xs e) (fun _ z=>by cases z),fun b o u e=>hh.same eH (un.frzs b o u e) (fun _ z=>by cases z),fun b ps e=>?_⟩ hok2 bare (fun b z=>absurd z (by simp))⟩;obtain⟨more,z⟩:=un.tbls b ps e;exact⟨more,hh.same eH z (fun _ z=>by cases z)⟩
end
def inH (X:Cx)(e:Value):Cx:={X with A:=X.A.mark (some e),calm:=false,xe:=fun _ _=>False}
section
variable {X:Cx}{pins:List (Addr×Obj)}{σ:L2.St}{H:Hp}{s:Shared}{e:Value}
theorem toH (I:Inv X pins σ H s):Inv (inH X e) pins σ H s:=by
 obtain⟨⟨a1,a2,a3,a4,a5,a6,a7,a8,a9,a10,a11,a12,a13,a14,a15,a16,a17,a18⟩,b2,b3,b4,b5,b6,b7,b8,b9,b10,b11⟩:=I;exact⟨⟨a1,a2,a3,a4,a5,a6,a7,a8,(fun z=>by cases z),a10,a11,a12,a13,a14,a15,a16,a17,a18⟩,b2,b3,b4,b5,b6,b7,b8,b9,b10,b11⟩
theorem ofH (I:Inv (inH X e) pins σ H s)(ok:X.Ok):Inv X pins σ H s:=by
 obtain⟨_,b2,b3,b4,b5,b6,b7,b8,b9,b10,b11⟩:=I;exact⟨ok,b2,b3,b4,b5,b6,b7,b8,b9,b10,b11⟩
end
abbrev TX:=Ends->XK->L2.St->Hp->Prop
def PSX (X:Cx)(ss:List Stmt)(t:TX):Prop:=∀(pins:List (Addr×Obj)) (s:Shared) (σ:L2.St) (H:Hp) (D:Ends) (E:XK),Inv X pins σ H s->t D E σ H->wpAny (model X.prog X.w) X.A (execs ss X.env) (SP X pins D) (XP X pins σ E) s
def unset (i:Nat)(D:Ends):Ends:={nx:=fun σ H=>D.nx (σ.set i none) H,bk:=fun σ H=>D.bk (σ.set i none) H,ct:=fun σ H=>D.ct (σ.set i none) H,rt:=D.rt}
def tTry (K:W.Frag)(CT:Addr)(i:Nat)(tb:TX)(th:TS):TS:=fun D σ H=>tb D (fun cls dx H'=>(∃C,cls=.ref C/\PySem.W.mroIn K C (.ref CT)=some true)/\(∀d,dx=some d->∃fs,H' d=some (.xd fs))/\
 ∀a oa H2,H' a=none->oa.cls=cls->oa.dict=dx->PySem.W.notCls oa=true->Held H' a oa H2->th (unset i D) (σ.set i (some (.ref a))) H2) σ H
section
variable {X:Cx}{T n:Str}{tp hp pos:Pos}{body suite:List Stmt}{b₀:Stmt}{CT:Addr}{i:Nat}{tb:TX}{th:TS}
theorem znG (hst:X.stack=X.env::X.outer)(hf:X.env.frame=some X.env.locals)(hg:Gl X T)(hm:X.mg T=some (.ref CT))(hN:X.N.Nodup)(hi:X.N[i]?=some n)(hk:X.env.kindOf n=some .local)
 (hB:PySem.W.mroIn X.K CT (.type "BaseException")=some true) (hT:PySem.W.typeIn X.K (.ref CT)=some (.type "type")) (hb:PSX X body tb) (hh:∀e,PSs (inH X e) (b₀::suite) th)
 (hdb:(T == ("__debug__" : Str))=false:=by decide) :
 PS X (.Try body [.ExceptHandler (some (.Name T tp)) (some n) (b₀::suite) hp] [] [] pos) (tTry X.K CT i tb th):=by
 intro pins s σ H D I h;refine wpAny_Try_except (waG (hb pins s σ H D _ I h) (fun f s1 h1=>?_) (fun e s1 h1=>?_))
 ·cases f <;> first | exact h1 | exact wah h1
 refine zjI hst hf h1 fun h2 x2=>?_
 obtain⟨H1,s0,I0,hc⟩:=id x2;obtain⟨a,cls,dx,H',rfl,J,x,⟨C,rfl,hmm⟩,_,_⟩:=zii I0 hc;obtain⟨e0,eH,eD,vs,sl,he,_⟩:=x;refine wpAny_handleBy_cons (codeAny_handlers_test ?_) (by intro q;cases q);refine zc1 (X:=inH X (.ref a)) (toH J) hg hm ?_ hdb;refine zfb J.kIn he rfl hB hT hmm ?_;refine codeAny_handlers_suite_as (zg5 x2 fun h3 x3=>?_);obtain⟨a',cls,dx',H3,oa,H2,ea,q,ha,hoa,hcl,hdx,hnc,hh2,J2⟩:=zjJ x3 (fun cls dx H' q=>q.2.1);cases ea;refine zeg (X:=inH X (.ref a)) (toH J2) hN hi (.inl hk) (v:=.ref a) rfl (fun s4 J4=>?_) (.inr hk);refine waG (hh (.ref a) pins s4 _ _ (unset i D) J4 (q.2.2 a oa H2 ha hcl hdx hnc hh2)) (fun f s5 h5=>?_) (fun _ _ z=>z.elim);cases f with
 | next=>obtain⟨σ',H',J5,q5⟩:=h5;exact zcR (ofH J5 I.ok) hN hi hk fun s6 J6=>⟨_,_,J6,q5⟩
 | brk=>obtain⟨σ',H',J5,q5⟩:=h5;exact zcR (ofH J5 I.ok) hN hi hk fun s6 J6=>⟨_,_,J6,q5⟩
 | cont=>obtain⟨σ',H',J5,q5⟩:=h5;exact zcR (ofH J5 I.ok) hN hi hk fun s6 J6=>⟨_,_,J6,q5⟩
 | ret u=>obtain⟨v,σ',H',J5,r5,q5⟩:=h5;exact zcR (ofH J5 I.ok) hN hi hk fun s6 J6=>⟨v,_,_,J6,r5,q5⟩
end
abbrev TEX:=L2.St->Hp->VK->XK->Prop
def PEX (X:Cx)(e:Expr)(t:TEX):Prop:=∀(pins:List (Addr×Obj)) (s:Shared) (σ:L2.St) (H:Hp) (Q:VK) (E:XK),Inv X pins σ H s->t σ H Q E->wpAny (model X.prog X.w) X.A (eval e X.env) (EP X pins σ Q) (XP X pins σ E) s
section
variable {X:Cx}{k:Nat}{f:Addr}{fd:FuncData}{ps:List Str}{sp:Sp}{dvs:List V}{ds:List Value}{x:Str}{p pos:Pos}{e:Expr}{es:List Expr}{t:TA}{te:TEX}
theorem zgu {pins:List (Addr×Obj)}{σ:L2.St}{H:Hp}{s:Shared}(I:Inv X pins σ H s):Inv X.nox pins σ H s:=by
 obtain⟨⟨a1,a2,a3,a4,a5,a6,a7,a8,a9,a10,a11,a12,a13,a14,a15,a16,a17,a18⟩,b2,b3,b4,b5,b6,b7,b8,b9,b10,b11⟩:=I;exact⟨⟨a1,a2,a3,a4,a5,a6,a7,a8,a9,a10,a11,a12,a13,a14,a15,a16,a17,a18⟩,b2,b3,b4,b5,b6,b7,b8,b9,b10,b11⟩
theorem zdI {pins:List (Addr×Obj)}{σ:L2.St}{H:Hp}{s:Shared}(I:Inv X.nox pins σ H s):Inv X pins σ H s:=by
 obtain⟨⟨a1,a2,a3,a4,a5,a6,a7,a8,a9,a10,a11,a12,a13,a14,a15,a16,a17,a18⟩,b2,b3,b4,b5,b6,b7,b8,b9,b10,b11⟩:=I;exact⟨⟨a1,a2,a3,a4,a5,a6,a7,a8,a9,a10,a11,a12,a13,a14,a15,a16,a17,a18⟩,b2,b3,b4,b5,b6,b7,b8,b9,b10,b11⟩
theorem zjK (F:FnOk X.prog X.w X.K X.mg X.base (CXE X.prog X.w) k f fd ps sp)(hr:Room k X.A)(hg:Gl X x)(hm:X.mg x=some (.ref f))(hk:W.keepIn X.K (.ref f)=true)(hb:Binds X.K fd ps ds)(hd:Vals dvs ds)
 (ha:PA X.nox (e::es) t) (hdb:(x == ("__debug__" : Str))=false:=by decide) (he:starEach (e::es) X.env=(false,eval e X.env)::starEach es X.env:=by rfl) (hpl:(backTo pos (starEach es X.env)).any (·.1)=false:=by rfl) :
 PEX X (.Call (.Name x p) (e::es) [] pos) (fun σ H Q E=>zgT sp dvs E t σ H Q):=by
 intro pins s σ H Q E I h;refine waR (zc1 I hg hm ?_ hdb);refine wbQ (h₀:=X.base) I.ok.mod.kin hk (waG (ha pos pins s σ H _ (zgu I) h) (fun us s1 ⟨vs,H1,I1,r,q⟩ =>⟨I1.kIn,?_⟩) fun _ _ z=>z.elim) he hpl;have J1:=zdI I1
 have r2:Vals (vs++dvs) (us++ds):=r.append hd
 have hl:(us++ds).length=ps.length:=by rw[<-r2.length];exact F.len _ _ _ _ q
 refine wci (wca (F.run X.A X.stack s1 H1 ⟨us,[]⟩ (us++ds) (vs++dvs) Q E hr J1.env0 (hb s1 us J1.kIn hl) r2 q) fun r s' hq=>?_);cases r with
 | error e=>exact⟨H1,s1,J1,hq⟩
 | ok fl=>
   cases fl with
   | ret u=>exact J1.after hq
   | next=>exact False.elim hq
   | brk=>exact False.elim hq
   | cont=>exact False.elim hq
theorem zjL (he:PEX X e te)(hs:swapsWith e none pos.line X.env=pure false:=by rfl):PSX X [.Expr e pos] (fun D E σ H=>te σ H (fun _ H1=>D.nx σ H1) E):=by
 intro pins s σ H D E I h;refine wpAny_execs_cons (wpAny_Expr_any (thn (he pins s σ H _ E I h) fun v s1 ⟨x,H1,I1,r1,q1⟩ =>?_) I.quiet hs);exact wcl ⟨σ,H1,I1,q1⟩
end
end EX
namespace EX
open PySem PySem.Spec PySem.W PyProof.Rows
def zgv (K:Frag)(a:Addr):Bool:=match K.lookup a with
 | some ⟨_,_,.dict es _,_⟩ =>es.toList.all fun e=>match e.key with | .str _ _=>true | _=>false
 | _=>false
theorem ns_K {K:Frag}{a:Addr}(e:zgv K a=true):∃m:Str->Option Value,(∀h:Heap,K.In h->h.Ns a m)/\∀x r,nsIn K a x=some r->m x=r:=by
 unfold zgv at e;split at e
 ·rename_i c d es ep sl ho
  refine⟨nsFind es,fun h X=>⟨_,es,ep,X _ _ ho,rfl,fun en hen=>?_,fun _=>rfl⟩,fun x r hr=>?_⟩
  ·have:=waQ.mp e en (by simpa using hen)
   split at this
   ·rename_i n t hk;exact⟨n,t,hk⟩
   ·cases this
  ·unfold nsIn at hr;rw[ho] at hr;dsimp only at hr;unfold nsFind findBy;obtain⟨es⟩:=es;rw[List.find?_toArray];dsimp only at hr;split at hr
   ·rename_i en hen
    cases hr;rw[show List.find? (fun e:DictEntry=>(fun n (v:Value)=>v.isStr n) x e.key) es=some en from hen];rfl
   ·rename_i hen
    rw[show List.find? (fun e:DictEntry=>(fun n (v:Value)=>v.isStr n) x e.key) es=none from hen];split at hr
    ·cases hr
    ·cases hr;rfl
 ·cases e
def zgw (K:Frag)(bmB:List Value):List Value->Bool
 | .ref A::tl=>((clsIn K A).any fun cd=>zgv K cd.ns&&(nsIn K cd.ns "__init__" == some none))&&zgw K bmB tl
 | l=>l == bmB
theorem znH {K:Frag}{h:Heap}(X:K.In h){bmB:List Value}(hb:∀A tl,bmB≠.ref A::tl):∀{bm:List Value},zgw K bmB bm=true->OwnTail h bmB bm:=by
 intro bm;induction bm with
 | nil=>intro e;rw[show([]:List Value)=bmB from beq_iff_eq.mp e];exact .base
 | cons v tl ih=>
   intro e;by_cases hv:∃c,v=.ref c
   ·obtain⟨c,rfl⟩:=hv;unfold zgw at e;rw[waB] at e;obtain⟨cd,hcd,hr⟩:=any_some e.1;rw[waB] at hr;obtain⟨m,hm,hm2⟩:=ns_K hr.1;unfold clsIn at hcd;split at hcd
    ·rename_i c0 d0 cd0 sl0 ho
     cases hcd;exact OwnTail.own (X _ _ ho) (hm h X) (hm2 _ _ (beq_iff_eq.mp hr.2)) (ih e.2)
    ·cases hcd
   ·have:v::tl=bmB:=by
     cases v <;> first | exact beq_iff_eq.mp e | exact absurd ⟨_,rfl⟩ hv
    rw[this];exact .base
section
variable {prog:Program}{w:World}{A:Around}{E:Value->Shared->Prop}{h:Heap}{g:Array GenState}{d:Drawn}{t:Nat}{os:OsState}
variable {C x:Addr}{K:Frag}{ox:Obj}{od:Option Obj}{name:Str}{v:Value}{expr:Bool}{Q:Value->Shared->Prop}
theorem ga_ve:Slot "ValueError" "__getattribute__" "BaseException.__getattribute__":=.of (owner:="BaseException") (n:="__getattribute__") (by rw[typeLookup_type,builtinLookup_eq_fast];kernel_rfl) (by decide +kernel) (by decide +kernel) (by decide +kernel)
 (by first | exact .inl (by decide +kernel) | exact .inr (by decide +kernel)) (by rw[isSubtype_type];kernel_rfl)
theorem zik:builtinKind "BaseException.__getattribute__"=some .slot:=by decide +kernel
theorem zgx:splitId "BaseException.__getattribute__"=some ("BaseException","__getattribute__"):=by decide +kernel
theorem znI {tk:Tok}{R:Result->Shared->Prop}(X:K.In h)(I:InstAt h x ox C od)(hm:mroIn K C (.type "BaseException")=some true)(hf:findObj K C od name=some (.value v))(hq:R (.ok (.ret v)) ⟨h,g,d,t,os⟩) :
 codeAny (model prog w) A (.call (.builtin "BaseException.__getattribute__") ⟨[.ref x,.str name tk],[]⟩) R ⟨h,g,d,t,os⟩:=by
 have L0:=I.type (M:=model prog w)
 have L1:=looks_find (M:=model prog w) X I hf
 have sub:Looks (model prog w) h (isInstance (.ref x) (.type "BaseException")) true:=L0.andThen (looks_mroIn X hm)
 refine wbJ ga_ve.plain F.entry_bexc_ga (@check_slot (model prog w) _ _ ⟨h,g,d,t,os⟩ "BaseException.__getattribute__" "BaseException" "__getattribute__" (.ref x) [.str name tk] [] _ zik zgx sub (F.args_bexc_ga (.ref x) (.str name tk)) ?_);unfold Builtin.«object.__getattribute__»;repeat (any_goals (first | assumption | with_reducible refine Looks.at L0 ?_ | with_reducible refine Looks.at L1 ?_ | wp_step))
theorem zlU (X:K.In h)(I:InstAt h x ox C od)(hga:findIn K (.ref C) "__getattribute__"=some (some (.builtin "BaseException.__getattribute__")))(hgt:findIn K (.ref C) "__getattr__"=some none)
 (hm:mroIn K C (.type "BaseException")=some true) (hf:findObj K C od name=some (.value v)) (hh:handedIn v=true) (hq:Q v ⟨h,g,d,t+1,os⟩):wpAny (model prog w) A (getAttr (.ref x) name expr) Q E ⟨h,g,d,t,os⟩:=by
 have L0:=I.type (M:=model prog w)
 have L1:=looks_findIn (M:=model prog w) X hga
 have L2:=looks_findIn (M:=model prog w) X hgt
 have f3:=ga_ve.bind (.ref x)
 have hx0:(expr&&onTheHeap (Value.builtin "BaseException.__getattribute__"))=false:=by cases expr <;> rfl
 have hx2:(Value.builtin "BaseException.__getattribute__" == Value.builtin "object.__getattribute__")=false:=by decide +kernel
 have hx1:(onTheHeap (Value.ref C)&&Value.builtin "BaseException.__getattribute__" == Value.builtin "object.__getattribute__")=false:=by rw[hx2];rfl
 unfold getAttr getAttrBy;refine waa (wpAny_mkText (wbw (waa (L0.at (waa (L1.at ?_))))));repeat (any_goals (first | assumption | with_reducible refine Looks.at L0 ?_ | with_reducible refine Looks.at L1 ?_ | with_reducible refine Looks.at L2 ?_ | wp_step))
 refine znI X I hm hf ?_;show wpAny _ _ (handedOut v) _ _ _
 rw[handedOut_of hh];exact wah hq
end
section
variable {prog:Program}{w:World}{A:Around}{E:Value->Shared->Prop}{h:Heap}{g:Array GenState}{d:Drawn}{t:Nat}{os:OsState}
variable {C x:Addr}{K:Frag}{ox:Obj}{od:Option Obj}
theorem zfc {tk:Tok}{R:Result->Shared->Prop}(X:K.In h)(I:InstAt h x ox C od)(hm:mroIn K C (.type "BaseException")=some true)(hmo:mroIn K C (.type "object")=some true)
 (hf:findObj K C od "__class__"=some (.bind (.builtin "getset_descriptor.__get__") (.builtin "object.__class__"))) (hq:R (.ok (.ret (.ref C))) ⟨h,g,d,t,os⟩) :
 codeAny (model prog w) A (.call (.builtin "BaseException.__getattribute__") ⟨[.ref x,.str "__class__" tk],[]⟩) R ⟨h,g,d,t,os⟩:=by
 have L0:=I.type (M:=model prog w)
 have L1:=looks_find (M:=model prog w) X I hf
 have sub:Looks (model prog w) h (isInstance (.ref x) (.type "BaseException")) true:=L0.andThen (looks_mroIn X hm)
 refine wbJ ga_ve.plain F.entry_bexc_ga (@check_slot (model prog w) _ _ ⟨h,g,d,t,os⟩ "BaseException.__getattribute__" "BaseException" "__getattribute__" (.ref x) [.str "__class__" tk] [] _ zik zgx sub (F.args_bexc_ga (.ref x) (.str "__class__" tk)) ?_);unfold Builtin.«object.__getattribute__»;repeat (any_goals (first | assumption | with_reducible refine Looks.at L0 ?_ | with_reducible refine Looks.at L1 ?_ | wp_step))
 exact class_get (s:=⟨h,g,d,t,os⟩) X I hmo (wah hq)
theorem zil {Q:Option Value->Shared->Prop}(X:K.In h)(I:InstAt h x ox C od)(hga:findIn K (.ref C) "__getattribute__"=some (some (.builtin "BaseException.__getattribute__")))(hgt:findIn K (.ref C) "__getattr__"=some none)
 (hm:mroIn K C (.type "BaseException")=some true) (hmo:mroIn K C (.type "object")=some true)
 (hf:findObj K C od "__class__"=some (.bind (.builtin "getset_descriptor.__get__") (.builtin "object.__class__"))) (hq:Q (some (.ref C)) ⟨h,g,d,t+1,os⟩) :
 wpAny (model prog w) A (getAttr? (.ref x) "__class__") Q E ⟨h,g,d,t,os⟩:=by
 have L0:=I.type (M:=model prog w)
 have L1:=looks_findIn (M:=model prog w) X hga
 have L2:=looks_findIn (M:=model prog w) X hgt
 have f3:=ga_ve.bind (.ref x)
 have hx2:(Value.builtin "BaseException.__getattribute__" == Value.builtin "object.__getattribute__")=false:=by decide +kernel
 have hx1:(onTheHeap (Value.ref C)&&Value.builtin "BaseException.__getattribute__" == Value.builtin "object.__getattribute__")=false:=by rw[hx2];rfl
 unfold getAttr? getAttrBy? getAttrBy;repeat (any_goals (first | assumption | with_reducible refine Looks.at L0 ?_ | with_reducible refine Looks.at L1 ?_ | with_reducible refine Looks.at L2 ?_ | wp_step))
 refine zfc X I hm hmo hf ?_;repeat (any_goals (first | assumption | wp_step))
theorem zgy (hga:findIn K (.ref C) "__getattribute__"=some (some (.builtin "BaseException.__getattribute__")))(hgt:findIn K (.ref C) "__getattr__"=some none)
 (hm:mroIn K C (.type "BaseException")=some true) (hmo:mroIn K C (.type "object")=some true) (hdct:hasDictIn K C=true)
 (hf:findObj K C od "__class__"=some (.bind (.builtin "getset_descriptor.__get__") (.builtin "object.__class__"))):KitX K (.ref x) (.ref C) (fun h=>InstAt h x ox C od) where
 ty:=fun _ _ _ I=>I.type
 it:=fun _ _ X _=>by
  obtain⟨cdD,hcD,_⟩:=any_some hdct;unfold clsIn at hcD;split at hcD
  ·rename_i c' d' cd' sl' ho
   intro A' Q' E' s' k q;unfold isType loadHead;exact waa (wpAny_loadPart (k _ _ (X _ _ ho)) (wah q))
  ·cases hcD
 ne:=fun h tp dd its n sl X htp=>by
  obtain⟨cdD,hcD,_⟩:=any_some hdct;refine Bool.eq_false_iff.mpr fun q=>?_
  have e:C=tp:=Value.ref.inj (beq_iff_eq.mp q)
  subst e;unfold clsIn at hcD;split at hcD
  ·rename_i c' d' cd' sl' ho
   have z:=(X _ _ ho).symm.trans htp
   cases z
  ·cases hcD
 ca:=fun {_ _ _ _ _ s} X I k=>by
  obtain⟨h,g,d,t,os⟩:=s;exact zil X I hga hgt hm hmo hf k
end
section
variable {prog:Program}{w:World}{K:Frag}{fd:FuncData}{fI:Addr}{x p y:Str}{tk0:Tok}{h0:Heap}{cp np fp jp:Pos}{k:Nat}
theorem zim (hk:∀L,(callEnv fd L fI).kindOf x=some .local)(hf:fd.scope.kind=.function)(hd:(x == ("__debug__" : Str))=false)(hl:p.length+(reprText y).length<=sizeLine) :
 Says prog w K fd fI x (.JoinedStr [.Constant (.str p) k cp,.FormattedValue (.Name x np) 114 none fp] jp) (.str y tk0) h0:=by
 intro A E h1 g d os tk L m Q hgd hun X kp hns hm hq';have hq:∀y t' tk',Q (.str y t') ⟨h1,g,d,tk',os⟩:=fun y t' tk'=>hq' h1 y t' tk' fun _ _ z=>z
 have e0:(Str.empty++p)=p:=by first | rfl | simp | exact Str.empty_append _
 refine wpAny_JoinedStr ?_;show wpAny _ _ (eval (.Constant (.str p) k cp) _) _ _ _
 refine wpAny_Constant_str ?_;refine⟨p,_,rfl,?_,?_⟩
 ·rw[e0];omega
 rw[e0];show wpAny _ _ (eval (.FormattedValue (.Name x np) 114 none fp) _) _ _ _
 have hlen:(p++reprText y).length<=sizeLine:=by rw[strLen_append];exact hl
 refine wpAny_FormattedValue_repr (wcu (wbq hf (hk L) hns hm ?_) hd);refine pyReprObj_str (wpAny_formatField_str ⟨_,_,rfl,hlen,hlen,hq _ _ _⟩ ⟨_,_,rfl,hlen,hlen,hq _ _ _⟩ (by omega)) (by omega)
end
theorem xi_mk {prog:Program}{w:World}{K:Frag}{C N fI cda cc:Addr}{nm0 q:Str}{bs bm:List Value}{hdct:Bool}{sn:List Str}{sub:List Value}{ab:Bool}{col:Option Bool}{dd:Option Addr}{k0 k1 k2 k3 k5:Option Value}
 {slf x nm:Str}{J:Expr}{fd:FuncData}{od:Option Addr}{sl:Array (Option Value)}{ocd occ:Obj}
 (lk:K.lookup C=some (excClassObj nm0 q C N bs bm hdct sn sub ab col dd k0 k1 k2 k3 k5 "ValueError.__new__"))
 (i:nsIn K N "__init__"=some (some (.ref fI)))
 (lf:K.lookup fI=some ⟨.type "function",od,.func fd,sl⟩)
 (opq:nsIn K cStatics "thirdparty.any"=some none)
 (self:mroIn K C (.ref C)=some true)
 (st:findIn K (.ref C) "__setattr__"=some (some (.builtin "object.__setattr__")))
 (tak:takerIn K C nm=some none)
 (cdi:codeIn K fd.code fd.qualname=true)
 (hc:fd.code=.ref cda) (lc:K.lookup cda=some ocd) (lcc:K.lookup cc=some occ) (occd:occ.data=.cell (some (.ref C)))
 (inC:ks_superIn K C C "__init__"=some (some (.builtin "ValueError.__init__")))
 (t1:zgw K [.type "ValueError",.type "Exception",.type "BaseException",.type "object"] bm=true)
 (sN:zgv K N=true)
 (und:(clsIn K C).any (fun cd=>zb7 cd.mro)=true)
 (hasD:(clsIn K C).any (·.hasDict)=true)
 (body:∃p0 p1 ap cp q1 q2 q3 q4 q5,fd.body=.stmts [.Expr (.Call (.Attribute (.Call (.Name "super" p0) [] [] p1) "__init__" ap) [J] [] cp) q1,.Assign [.Attribute (.Name slf q2) nm q3] (.Name x q4) q5]/\
  (∀L,interactive (callEnv fd L fI)=false)/\(∀L,swapsWith (.Call (.Attribute (.Call (.Name "super" p0) [] [] p1) "__init__" ap) [J] [] cp) none q1.line (callEnv fd L fI)=pure false)/\
  (∀L,swapsWith (.Name x q4) (some (.Attribute (.Name slf q2) nm q3)) q5.line (callEnv fd L fI)=pure false)/\
  (∀L,starEach [J] (callEnv fd L fI) = [(false,eval J (callEnv fd L fI))])/\
  ∃pl:Addr->Sem Bool,∀L,eval (.Call (.Attribute (.Call (.Name "super" p0) [] [] p1) "__init__" ap) [J] [] cp) (callEnv fd L fI)=(do
   let ov <-attributeBase (.Call (.Name "super" p0) [] [] p1) "__init__" (callEnv fd L fI) (eval (.Call (.Name "super" p0) [] [] p1) (callEnv fd L fI))
   standAt ap.atName
   let (f,first) <-holding [ov] (getMethod ov "__init__" (pl L))
   callWith cp f first (backTo cp (starEach [J] (callEnv fd L fI))) []))
 (ne:slf≠x) (dbg:(x == ("__debug__" : Str))=false/\(slf == ("__debug__" : Str))=false)
 (par:∃ar:Arg,(fd.params.posonlyargs++fd.params.args).head?=some ar/\ar.arg=slf)
 (bind:∀(a b:Value),bindArgs fd ⟨[a,b],[]⟩=pure [(slf,a),(x,b)])
 (cell:∀z∈fd.scope.names,z.2≠.cell) (loc1:fd.scope.names.lookup slf=some .local) (loc2:fd.scope.names.lookup x=some .local)
 (flags:fd.scope.isCoroutine=false/\fd.scope.isGenerator=false/\fd.scope.kind=.function)
 (kinds:∀L,(callEnv fd L fI).kindOf "super"=some .globalImplicit/\(callEnv fd L fI).kindOf "__class__"=some .free/\(callEnv fd L fI).kindOf slf=some .local/\(callEnv fd L fI).kindOf x=some .local)
 (file:∃vs fl tf,ocd.data=.fields vs/\vs[2]?=some (.str fl tf)/\((prog.main.file:Str) == fl)=true)
 (top:(prog.main.scope.names.lookup ("super" : Str)).isSome=false) (glob:∀L,(callEnv fd L fI).globals=mainGlobals) (blt:∀L,(callEnv fd L fI).builtins=builtinsNs)
 (ccl:∀L,(callEnv fd L fI).cells.lookup ("__class__" : Str)=some cc):XI prog w K C N fI bm slf x nm J fd where
 cls:=⟨⟨nm0,q,bs,hdct,sn,sub,ab,col,dd,k0,k1,k2,k3,k5,lk⟩,fun h X=>znH X (fun A tl=>by simp) t1,opq,self⟩
 inC:=inC
 set:=st
 und:=und
 tak:=tak
 hasD:=hasD
 fn:=⟨_,lf,rfl,rfl⟩
 names:=let ⟨m,a,b⟩:=ns_K sN;⟨m,a,b _ _ i⟩
 code:=fun h X=>codeRec_of X cdi
 body:=body
 ne:=ne
 dbg:=dbg
 par:=par
 bind:=fun s a b=>.of_eq (bind a b)
 cell:=cell
 loc1:=loc1
 loc2:=loc2
 flags:=flags
 kinds:=kinds
 file:=let ⟨vs,fl,tf,a,b,c⟩:=file;⟨cda,ocd,vs,fl,tf,hc,lc,a,b,c⟩
 top:=top
 glob:=glob
 blt:=blt
 cc:=⟨cc,ccl,fun h X=>⟨_,X _ _ lcc,occd⟩⟩
end EX
namespace EX
open PySem PySem.Spec PyProof.Rows L2
structure XG (K:W.Frag)(C:Addr)(f:Str):Prop where
 ga:PySem.W.findIn K (.ref C) "__getattribute__"=some (some (.builtin "BaseException.__getattribute__"))
 gt:PySem.W.findIn K (.ref C) "__getattr__"=some none
 bm:PySem.W.mroIn K C (.type "BaseException")=some true
 no:PySem.W.findIn K (.ref C) f=some none
 hd:PySem.W.hasDictIn K C=true
theorem znJ {v:V}{u:Value}(r:RelV v u):PySem.W.handedIn u=true:=by
 cases v <;> (first | (obtain rfl:=r;rfl) | (obtain⟨_,rfl⟩:=r;rfl))
section
variable {X:Cx}{pins:List (Addr×Obj)}{σ:L2.St}{H:Hp}{s:Shared}{A:Around}{E:Value->Shared->Prop}{C a d:Addr}{oa od:Obj}{f:Str}{fs:List (Str×V)}{v:V}{expr:Bool}{Q:Value->Shared->Prop}
theorem zjM (I:Inv X pins σ H s)(c:XG X.K C f)(ha:H a=some (.frz oa X0))(hc:oa.cls=.ref C)(hn:PySem.W.notCls oa=true)(hdd:oa.dict=some d)(hd:H d=some (.frz od (.xd fs)))(hv:fs.lookup f=some v)
 (hq:∀u tk,RelV v u->Q u {s with toks:=tk}):wpAny (model X.prog X.w) A (getAttr (.ref a) f expr) Q E s:=by
 obtain⟨e1,_⟩:=I.hok a _ ha;obtain⟨e2,mA,⟨o',es,ep,e3,e4,e5,e6,e7⟩,r⟩:=I.hok d _ hd;obtain rfl:o'=od:=wau (e3.symm.trans e2);have rv:=r f
 rw[hv] at rv;cases hm:mA f with
 | none=>rw[hm] at rv;exact rv.elim
 | some u=>
   rw[hm] at rv;have rv:RelV v u:=rv
   have lk:PySem.W.lookIn f o'=some (some u):=by
    have e8:=(e7 f).trans hm
    unfold PySem.W.lookIn;rw[e4];dsimp only;unfold nsFind findBy at e8;obtain⟨es⟩:=es;rw[List.find?_toArray] at e8;obtain⟨en,z1,z2⟩:=wbA.mp e8;have z1:List.find? (fun e:DictEntry=>e.key.isStr f) es=some en:=z1
    rw[z1];dsimp only;rw[z2]
   have J:PySem.W.InstAt s.heap a oa C (some o'):=⟨e1,hc,hn,by rw[hdd];exact e2⟩
   obtain⟨cd,hcd,hh⟩:=PySem.W.any_some c.hd;have hf:PySem.W.findObj X.K C (some o') f=some (.value u):=by
    unfold PySem.W.findObj;rw[hcd,zOB,c.no,zOB];simp[PySem.W.ownOf,hh,lk]
   obtain⟨h,g,dd,t,os⟩:=s;exact zlU I.kIn J c.ga c.gt c.bm hf (znJ rv) (hq u _ rv)
def zd8 (H:Hp)(a C:Addr)(fs:List (Str×V)):Prop:=∃oa d od,H a=some (.frz oa X0)/\oa.cls=.ref C/\PySem.W.notCls oa=true/\oa.dict=some d/\H d=some (.frz od (.xd fs))
def zoT (K:W.Frag)(ta:TE)(f:Str):TE:=fun σ H Q=>ta σ H fun x H1=>∃a C fs v,x=.ref a/\zd8 H1 a C fs/\XG K C f/\fs.lookup f=some v/\Q v H1
theorem zlV {e:Expr}{pos:Pos}{ta:TE}(he:PE X e ta)(hb:attributeBase e f X.env (eval e X.env)=eval e X.env):PE X (.Attribute e f pos) (zoT X.K ta f):=by
 intro pins s σ H Q I h;refine zkW hb (thn (he pins s σ H _ I h) fun u s1 ⟨x,H1,I1,rx,a,C,fs,v,ex,⟨oa,d,od,h1,h2,h3,h4,h5⟩,c,l,q⟩ =>?_);subst ex;obtain rfl:u=Value.ref a:=rx;exact zjM I1 c h1 h2 h3 h4 h5 l fun u' tk ru=>⟨v,H1,I1.tok tk,ru,q⟩
structure XK1 (K:W.Frag)(C:Addr):Prop where
 ga:PySem.W.findIn K (.ref C) "__getattribute__"=some (some (.builtin "BaseException.__getattribute__"))
 gt:PySem.W.findIn K (.ref C) "__getattr__"=some none
 bm:PySem.W.mroIn K C (.type "BaseException")=some true
 om:PySem.W.mroIn K C (.type "object")=some true
 hd:PySem.W.hasDictIn K C=true
 cl:PySem.W.findIn K (.ref C) "__class__"=some (some (.builtin "object.__class__"))
 sg:PySem.W.specialIn K (.builtin "object.__class__") "__get__"=some (some (.builtin "getset_descriptor.__get__"))
 tk:PySem.W.takesIn K (.builtin "object.__class__")=some true
theorem zin (I:Inv X pins σ H s)(c:XK1 X.K C)(hc:zd8 H a C fs){cv:Value}{b:Bool}(e:PySem.W.kitOne X.K (.ref C) cv=some b)(hq:∀tk,Q (.bool b) {s with toks:=tk}) :
 wpAny (model X.prog X.w) A (call (.builtin "isinstance") [.ref a,cv]) Q E s:=by
 obtain⟨oa,d,od,h1,h2,h3,h4,h5⟩:=hc;obtain⟨e1,_⟩:=I.hok a _ h1;obtain⟨e2,_⟩:=I.hok d _ h5;have J:PySem.W.InstAt s.heap a oa C (some od):=⟨e1,h2,h3,by rw[h4];exact e2⟩
 have hf:PySem.W.findObj X.K C (some od) "__class__"=some (.bind (.builtin "getset_descriptor.__get__") (.builtin "object.__class__")):=
  PySem.W.findObj_data (by obtain⟨cd,hc,_⟩:=PySem.W.any_some c.hd;rw[hc];rfl) c.cl c.sg c.tk
 exact waJ (zgy c.ga c.gt c.bm c.om c.hd hf) I.kIn J e (fun z=>nomatch z) hq
theorem zg6 (I:Inv X pins σ H s)(c:XK1 X.K C)(hc:zd8 H a C fs){tp:Addr}{dd:Option Addr}{its:List Value}{n:Nat}{sl:Array (Option Value)}{b:Bool}(htp:s.heap.get? tp=some ⟨.type "tuple",dd,.seq its.toArray n,sl⟩)
 (e:PySem.W.kitAny X.K (.ref C) its=some b) (hq:∀tk,Q (.bool b) {s with toks:=tk}):wpAny (model X.prog X.w) A (call (.builtin "isinstance") [.ref a,.ref tp]) Q E s:=by
 obtain⟨oa,d,od,h1,h2,h3,h4,h5⟩:=hc;obtain⟨e1,_⟩:=I.hok a _ h1;obtain⟨e2,_⟩:=I.hok d _ h5;have J:PySem.W.InstAt s.heap a oa C (some od):=⟨e1,h2,h3,by rw[h4];exact e2⟩
 have hf:PySem.W.findObj X.K C (some od) "__class__"=some (.bind (.builtin "getset_descriptor.__get__") (.builtin "object.__class__")):=
  PySem.W.findObj_data (by obtain⟨cd,hc,_⟩:=PySem.W.any_some c.hd;rw[hc];rfl) c.cl c.sg c.tk
 exact PySem.W.kia_tup (zgy c.ga c.gt c.bm c.om c.hd hf) I.kIn J htp e (fun z=>nomatch z) hq
end
end EX
namespace VD
open PySem PySem.Spec PyProof PyProof.Rows L2 EX
def XAtD (K:W.Frag)(H:Hp)(J:Addr->Prop)(x:D)(cls:Value)(dx:Option Addr):Prop:=
 ∃c ns ds C,x=.exc c ns ds/\W.nsIn K mainGlobals c=some (some (.ref C))/\cls=.ref C/\
  ((dx=none/\ns = []/\ds = [])\/∃d vs,dx=some d/\¬J d/\H d=some (.xd (ns.zip vs))/\ns.length=vs.length/\RpL K H J vs ds)
def WantsX (K:W.Frag)(H:Hp)(J:Addr->Prop)(x:D)(E:XK):Prop:=
 ∀H' J' cls dx,Up H J H' J'->XAtD K H' J' x cls dx->(∀d,dx=some d->H d=none)->E cls dx H'
def FitsX (K:W.Frag)(Hz:Hp)(Jz:Addr->Prop)(O:Pr)(x:D)(E:XK):Prop:=
 ∀ρ' σ' H' J' cls dx,ST K Hz Jz O ρ' σ' H' J'->XAtD K H' J' x cls dx->(∀d,dx=some d->Hz d=none)->E cls dx H'
section
variable {K:W.Frag}{H H' H1 Hz:Hp}{J J' J1 Jz:Addr->Prop}{O:Pr}{ρ:En}{σ:L2.St}{x:D}{E:XK}
theorem ST.h0 (s:ST K Hz Jz O ρ σ H J){b:Addr}(h:H b=none):Hz b=none:=by
 cases e:Hz b with
 | none=>rfl
 | some o=>exact absurd h (s.al b (by rw[e];simp))
theorem FitsX.wants (f:FitsX K Hz Jz O x E)(s:ST K Hz Jz O ρ σ H J):WantsX K H J x E:=fun H' J' cls dx u a n=>
 f ρ σ H' J' cls dx (s.up u) a fun d e=>s.h0 (n d e)
theorem WantsX.up (w:WantsX K H J x E)(u:Up H J H1 J1):WantsX K H1 J1 x E:=fun H' J' cls dx u' a n=>
 w H' J' cls dx (u.trans u') a fun d e=>u.same.free (n d e)
theorem ST.unset {i:Nat}(s:ST K Hz Jz O ρ σ H J)(hp:∀n d,ρ[i]?≠some (.par n d)):ST K Hz Jz O (ρ.set i .un) (σ.set i none) H J where
 same:=s.same
 j0:=s.j0
 jn:=s.jn
 ja:=s.ja
 len:=by simp[s.len]
 vl:=fun j e h=>by
  rcases zcw h with⟨rfl,he⟩ | ⟨ne,h⟩
  ·cases he
  ·rw[wad (Ne.symm ne)];exact s.vl j e h
 ow:=by
  obtain⟨fp,w⟩:=s.ow;refine⟨_,w.put (i:=i) (A:=[]) Keep.refl (fun _ _ _ _ _ h=>h) (fun j _=>w.nj j) (fun j e=>wad (Ne.symm e)) (fun j e=>wad (Ne.symm e)) ?_ wbf (by simp) (by simp)⟩;by_cases hi:i<ρ.length
  ·rw[wap hi];rfl
  ·have z:(List.set ρ i SV.un)[i]?=none:=waI (by simp;omega)
   rw[z];rfl
 ps:=fun q hq=>by
  have e:=s.psNe hp q hq
  rw[wad (Ne.symm e),wad (Ne.symm e)];exact s.ps q hq
 al:=s.al
end
def GoQ (K:W.Frag)(t:TEX)(f:FE):Prop:=∀Hz Jz O ρ σ H J x Q E,ST K Hz Jz O ρ σ H J->f ρ=some x->WantsX K H J x E->t σ H Q E
def VQ (X:Cx)(e:Expr)(f:FE):Prop:=∃t,PEX X e t/\GoQ X.K t f
def spX (K:W.Frag)(F:List D->Option D):Sp:=fun vs H _ E=>∃J ds x,(∀a,J a->H a≠none)/\RpL K H J vs ds/\F ds=some x/\WantsX K H J x E
structure CalX (P:Program)(w:World)(K:W.Frag)(mg:Str->Option Value)(base:Heap)(k:Nat)(x:Str)(ps:List Str)(sp:Sp):Prop where
 ex:∃(f:Addr) (fd:FuncData),FnOk P w K mg base (CXE P w) k f fd ps sp/\Binds K fd ps []/\W.keepIn K (.ref f)=true/\mg x=some (.ref f)
theorem zcD {P:Program}{w:World}{K:W.Frag}{mg:Str->Option Value}{base:Heap}{k:Nat}{x:Str}{ps:List Str}{sp:Sp}{f:Addr}{fd:FuncData}(h:FnOk P w K mg base (CXE P w) k f fd ps sp)(b:Binds K fd ps [])(c:W.keepIn K (.ref f)=true)(d:mg x=some (.ref f)) :
 CalX P w K mg base k x ps sp:=⟨f,fd,h,b,c,d⟩
section
variable {X:Cx}{k k':Nat}{x:Str}{ps:List Str}{F:List D->Option D}{e:Expr}{es:List Expr}{fl:FA}{f:FE}{p pos:Pos}
theorem zdJ (C:CalX X.prog X.w X.K X.mg X.base k x ps (spX X.K F))(hr:Room k' X.A)(ha:VA X.nox (e::es) fl)(hk:k<=k':=by decide)(hg:Gl X x:=by rfl)(hdb:(x == ("__debug__" : Str))=false:=by decide)
 (he:starEach (e::es) X.env=(false,eval e X.env)::starEach es X.env:=by rfl) (hpl:(backTo pos (starEach es X.env)).any (·.1)=false:=by rfl):VQ X (.Call (.Name x p) (e::es) [] pos) (eCall F fl):=by
 obtain⟨f,fd,a,b,c,d⟩:=C.ex;obtain⟨t,p,g⟩:=ha;refine⟨_,zjK (a.mono hk) hr hg d c b .nil p hdb he hpl,?_⟩;intro Hz Jz O ρ σ H J x Q E s e w;obtain⟨ds,e1,e⟩:=bind_some e;refine g Hz Jz O ρ σ H J ds _ s e1 fun vs H1 J1 u1 r1=>?_
 exact⟨J1,ds,x,u1.ja,by rw[waC];exact r1,e,w.up u1⟩
theorem zfd {t:TEX}{E:XK}(h:PEX X e t)(L:Leaves X E):PE X e (fun σ H Q=>t σ H Q E):=fun pins s σ H Q I hw=>
 waG (h pins s σ H Q E I hw) (fun _ _ q=>q) fun e s' ⟨H1,s1,I1,hc⟩ =>L.passes pins σ H1 s1 e s' I1 hc
end
def FitsR (K:W.Frag)(Hz:Hp)(Jz:Addr->Prop)(O:Pr)(H:Hp)(J:Addr->Prop)(D:Ends)(E:XK):Out->Prop
 | .nx ρ'=>∀σ' H' J',ST K Hz Jz O ρ' σ' H' J'->Keep K H J H' J'->D.nx σ' H'
 | .bk ρ'=>∀σ' H' J',ST K Hz Jz O ρ' σ' H' J'->Keep K H J H' J'->D.bk σ' H'
 | .ct ρ'=>∀σ' H' J',ST K Hz Jz O ρ' σ' H' J'->Keep K H J H' J'->D.ct σ' H'
 | .ret (.told x) _=>FitsX K Hz Jz O x E
 | .ret (.new _ _) _=>False
theorem FitsR.keep {K:W.Frag}{Hz:Hp}{Jz:Addr->Prop}{O:Pr}{H H1:Hp}{J J1:Addr->Prop}{D:Ends}{E:XK}(k:Keep K H J H1 J1):∀{o:Out},FitsR K Hz Jz O H J D E o->FitsR K Hz Jz O H1 J1 D E o
 | .nx _,h=>fun σ' H' J' s q=>h σ' H' J' s (k.trans q)
 | .bk _,h=>fun σ' H' J' s q=>h σ' H' J' s (k.trans q)
 | .ct _,h=>fun σ' H' J' s q=>h σ' H' J' s (k.trans q)
 | .ret (.told _) _,h=>h
 | .ret (.new _ _) _,h=>h
def GoRz (K:W.Frag)(E:XK)(t:TS)(g:FS):Prop:=∀Hz Jz O ρ σ H J o D,ST K Hz Jz O ρ σ H J->g ρ=some o->FitsR K Hz Jz O H J D E o->t D σ H
def VRS (X:Cx)(E:XK)(st:Stmt)(g:FS):Prop:=∃t,PS X st t/\GoRz X.K E t g
def VRs (X:Cx)(E:XK)(sts:List Stmt)(g:FS):Prop:=∃t,PSs X sts t/\GoRz X.K E t g
def zg7 (g:FS):Prop:=∀ρ r ρ',g ρ≠some (.ret r ρ')
section
variable {X:Cx}{E:XK}{st:Stmt}{sts:List Stmt}{g g2:FS}{pos:Pos}{e a:Expr}{fa:FE}{fl:FA}{ft:FT}
theorem znK {i:Nat}:zg7 (gSet i fa):=fun ρ r ρ' e=>by
 obtain⟨a,_,e⟩:=bind_some e;split at e <;> cases e
theorem znL {i:Nat}:zg7 (gOwn i fl):=fun ρ r ρ' e=>by
 obtain⟨a,_,e⟩:=bind_some e;split at e <;> cases e
theorem znM {i:Nat}:zg7 (gApp i fa):=fun ρ r ρ' e=>by
 obtain⟨a,_,e⟩:=bind_some e;split at e
 ·split at e <;> cases e
 ·cases e
theorem zoU:zg7 (gEx fa):=fun ρ r ρ' e=>by
 obtain⟨a,_,e⟩:=bind_some e;cases e
theorem znN {fg:FG}:zg7 (gAsg fa fg):=fun ρ r ρ' e=>by
 obtain⟨a,_,e⟩:=bind_some e;obtain⟨b,_,e⟩:=bind_some e;cases e
theorem znO (h:VS X st g)(n:zg7 g:=by first | exact znK | exact znL | exact znM | exact zoU | exact znN):VRS X E st g:=by
 obtain⟨t,p,q⟩:=h;refine⟨t,p,fun Hz Jz O ρ σ H J o D s e w=>q Hz Jz O ρ σ H J o D s e ?_⟩;cases o with
 | ret r ρ'=>exact absurd e (n ρ r ρ')
 | _=>exact w
theorem zgz:VRS X E st gNo:=⟨_,zf8,fun Hz Jz O ρ σ H J o D s e w=>by cases e⟩
theorem zeB:VRs X E [] gNx:=⟨_,zhg,fun Hz Jz O ρ σ H J o D s e w=>by cases e;exact w σ H J s Keep.refl⟩
theorem zio {K:W.Frag}{t u:TS}(h1:GoRz K E t g)(h2:GoRz K E u g2):GoRz K E (tSeq t u) (gSeq g g2):=by
 intro Hz Jz O ρ σ H J o D s e w;obtain⟨o1,e1,e⟩:=bind_some e;refine h1 Hz Jz O ρ σ H J o1 _ s e1 ?_;cases o1 with
 | nx ρ'=>exact fun σ' H' J' s' k=>h2 Hz Jz O ρ' σ' H' J' o D s' e (w.keep k)
 | bk ρ'=>cases e;exact w
 | ct ρ'=>cases e;exact w
 | ret d ρ'=>cases e;cases d <;> exact w
theorem zcb (h1:VRS X E st g)(h2:VRs X E sts g2):VRs X E (st::sts) (gSeq g g2):=by
 obtain⟨t,p,q⟩:=h1;obtain⟨u,p2,q2⟩:=h2;exact⟨_,zeh p p2,zio q q2⟩
theorem zeC (h:VRS X E st g):VRs X E [st] g:=let ⟨t,p,q⟩:=h;⟨t,zhh p,q⟩
theorem zfe (h:VRS X E st g):VRs X E (st::sts) (gSeq g gNo):=by
 obtain⟨t,p,q⟩:=h;have nv:∀sts:List Stmt,PSs X sts zj9:=fun sts _ _ _ _ _ _ h=>h.elim
 exact⟨_,zeh p (nv sts),zio q fun Hz Jz O ρ σ H J o D s e w=>by cases e⟩
theorem zgA (is:List Nat)(h:VRs X E sts g):VRs X E sts (zlC is g):=by
 obtain⟨t,p,q⟩:=h;exact⟨t,p,fun Hz Jz O ρ σ H J o D s e w=>q Hz Jz O _ σ H J o D (s.dropE is) e w⟩
theorem znP {c:Expr}{bs os:List Stmt}(hc:VT X c ft)(ha:VRs X E bs g)(hb:VRs X E os g2):VRS X E (.If c bs os pos) (gIf ft g g2):=by
 obtain⟨tc,pc,qc⟩:=hc;obtain⟨t,p,q⟩:=ha;obtain⟨u,p2,q2⟩:=hb;refine⟨_,zmv pc p p2,fun Hz Jz O ρ σ H J o D s e w=>?_⟩;obtain⟨k,e1,e⟩:=bind_some e;refine qc Hz Jz O ρ σ H J k _ s e1 fun H1 J1 u1=>?_
 cases k with
 | true=>exact iteT (q Hz Jz O ρ σ H1 J1 o D (s.up u1) e (w.keep u1.keep))
 | false=>exact iteF (q2 Hz Jz O ρ σ H1 J1 o D (s.up u1) e (w.keep u1.keep))
theorem zkG {tg iter:Expr}{body:List Stmt}{is:List Nat}{fg:FG}{fi:FA}(hi:VI X tg iter fi)(hg:VG X tg is fg)(hb:VRs X E body g)(hp:PassesOwn (model X.prog X.w) X.A X.env X.xe:=by exact PassesOwn.leaving)(hc:X.calm=true:=by rfl)
 (hs:∀x,foldedSetIterable iter X.env x=pure x:=by intro _;rfl):VRS X E (.For tg iter body [] pos) (gFor fi fg g):=by
 obtain⟨wi,p1,q1⟩:=hi;obtain⟨t,p2,q2⟩:=hg;obtain⟨tb,p3,q3⟩:=hb;refine⟨_,zkc hp hc p1 p2 p3 hs,?_⟩;intro Hz Jz O ρ σ H J o D s e w;obtain⟨ds,e1,e⟩:=bind_some e;refine q1 Hz Jz O ρ σ H J ds _ s e1 fun I H1 J1 u1 src=>?_
 refine⟨fun i m σ' H'=>m=ds.length - i/\i<=ds.length/\∃ρ' J',ST X.K Hz Jz O ρ' σ' H' J'/\Keep X.K H1 J1 H' J'/\forL fg g (ds.drop i) ρ'=some o,⟨ds.length,by simp,wcm _,ρ,J1,s.up u1,Keep.refl,by simpa using e⟩,?_⟩;rintro i m σ2 H2 ⟨rfl,hil,ρ2,J2,s2,k2,e2⟩;obtain⟨stop,turn⟩:=src H2 J2 k2 s2.ja;by_cases hlt:i<ds.length
 ·right
  have hd:ds[i]?=some ds[i]:=wat hlt
  generalize hdd:ds[i]=d at hd;obtain⟨go,yl⟩:=turn i d hd;have edrop:ds.drop i=d::ds.drop (i+1):=by rw[<-hdd];exact(wbz hlt).symm
  rw[edrop] at e2;unfold forL at e2;obtain⟨ρ3,eg,e2⟩:=bind_some e2;obtain⟨ob,eb,e2⟩:=bind_some e2;refine⟨go,fun σ' H'=>∃ρ' J',ST X.K Hz Jz O ρ' σ' H' J'/\Keep X.K H1 J1 H' J'/\forL fg g (ds.drop (i+1)) ρ'=some o,fun σ' H' h=>⟨ds.length - (i+1),by omega,rfl,hlt,h⟩,fun x H3 y=>?_⟩;obtain⟨J3,u3,r3⟩:=yl x H3 y;refine q2.2 Hz Jz O ρ2 σ2 H3 J3 x d ρ3 _ (s2.up u3) r3 eg fun σ4 s4=>?_
  refine q3 Hz Jz O ρ3 σ4 H3 J3 ob _ s4 eb ?_;have k3:=k2.trans u3.keep
  cases ob with
  | nx ρ5=>exact fun σ5 H5 J5 s5 k5=>⟨ρ5,J5,s5,k3.trans k5,e2⟩
  | ct ρ5=>exact fun σ5 H5 J5 s5 k5=>⟨ρ5,J5,s5,k3.trans k5,e2⟩
  | bk ρ5=>cases e2;exact fun σ5 H5 J5 s5 k5=>w σ5 H5 J5 s5 ((u1.keep.trans k3).trans k5)
  | ret d ρ5=>cases e2;cases d <;> exact w
 ·left
  have hi':i=ds.length:=by omega
  subst hi';rw[wce] at e2;cases e2;exact⟨stop,w σ2 H2 J2 s2 (u1.keep.trans k2)⟩
theorem ziq (h:VQ X e fa)(L:Leaves X E):VRS X E (.Return (some e) pos) (gRet fa):=by
 obtain⟨t,p,q⟩:=h;refine⟨_,zhi (zfd p L),?_⟩;intro Hz Jz O ρ σ H J o D s e w;obtain⟨x,e1,e⟩:=bind_some e;cases e;exact q Hz Jz O ρ σ H J x _ E s e1 (FitsX.wants w s)
theorem zir (i:Nat){x:Str}{pos':Pos}(hN:X.N.Nodup)(h:VQ X e fa)(L:Leaves X E)(hi:X.N[i]?=some x:=by rfl)(hx:Loc X.env.scope x:=by first | exact Or.inl rfl | exact Or.inr rfl)(hs:swapsWith e (some (.Name x pos')) pos.line X.env=pure false:=by rfl)
 (hf:X.fn x=true\/X.env.scope.names.lookup x=some .local:=by first | exact .inl rfl | exact .inr rfl | assumption):VRS X E (.Assign [.Name x pos'] e pos) (gRet fa):=by
 obtain⟨t,p,q⟩:=h;refine⟨_,zeL hN hi hx (zfd p L) hs hf,?_⟩;intro Hz Jz O ρ σ H J o D s e w;obtain⟨x,e1,e⟩:=bind_some e;cases e;exact q Hz Jz O ρ σ H J x _ E s e1 (FitsX.wants w s)
end
structure XCl (P:Program)(w:World)(K:W.Frag)(mg:Str->Option Value)(c nm:Str)(ok:D->Bool):Prop where
 sup:mg "super"=none
 ex:∃C N fI bm slf x J fd,XI P w K C N fI bm slf x nm J fd/\mg c=some (.ref C)/\W.nsIn K mainGlobals c=some (some (.ref C))/\W.keepIn K (.ref C)=true/\bm.contains (.type "BaseException")=true/\
  ∀(h:Heap) (u:Value) (d:D),ok d=true->ndD d=true/\(Rh h u d->Says P w K fd fI x J u h)
def rz (c nm:Str)(ok:D->Bool)(d:D):Option D:=if ok d then some (.exc c [nm] [d]) else none
def eRz (c nm:Str)(ok:D->Bool)(f:FE):FE:=fun ρ=>(f ρ).bind (rz c nm ok)
section
variable {X:Cx}{E:XK}{c nm:Str}{ok:D->Bool}{e:Expr}{fa:FE}{k:Nat}{np cp pos:Pos}
theorem zgB (cl:XCl X.prog X.w X.K X.mg c nm ok)(hr:Room (k+1) X.A)(hL:Leaves X E)(ha:VE X e fa)(hg:Gl X c:=by rfl)
 (hdb:(c == ("__debug__" : Str))=false:=by decide) (he:starEach [e] X.env=(false,eval e X.env)::starEach [] X.env:=by rfl):VRS X E (.Raise (some (.Call (.Name c np) [e] [] cp)) none pos) (gRet (eRz c nm ok fa)):=by
 obtain⟨C,N,fI,bm,slf,x,J,fd,xi,hm,hn,hk,hB,says⟩:=cl.ex;obtain⟨t,p,g⟩:=zab ha zah he;refine⟨_,zjH (SJ:=fun v H=>∃J d,Rp X.K H J v d/\ok d=true) xi cl.sup hg hm hk hB hr hL p ?_ hdb he,?_⟩
 ·rintro pins σ H s v u I r ⟨J,d,rv,hok⟩;exact(says s.heap u d hok).2 (Rp.rh I rv (says s.heap u d hok).1 r)
 intro Hz Jz O ρ σ H J o D s e w;obtain⟨y,e1,e⟩:=bind_some e;cases e;obtain⟨d,e0,e2⟩:=bind_some e1;unfold rz at e2;by_cases hok:ok d=true
 ·rw[if_pos hok] at e2;cases e2;have e3:aCons fa aNil ρ=some [d]:=by unfold aCons;rw[e0];rfl
  refine g Hz Jz O ρ σ H J [d] _ s e3 fun vs H1 J1 u1 r1=>?_
  obtain⟨v,rfl,rv⟩:=r1.one;refine⟨v,rfl,⟨J1,d,rv,hok⟩,fun dx hdx=>?_⟩;have un:=Up.new u1.ja hdx (.xd [(nm,v)])
  have s1:=s.up u1
  exact w ρ σ _ J1 _ _ (s1.up un) ⟨c,[nm],[d],C,rfl,hn,rfl,.inr ⟨dx,[v],rfl,fun j=>u1.ja dx j hdx,zaf,rfl,.cons (rv.keep un.keep) .nil⟩⟩ fun b z=>by cases z;exact s1.h0 hdx
 ·rw[if_neg hok] at e2;cases e2
end
def kX:Out->Option D
 | .ret (.told d) _=>some d
 | _=>none
theorem zdK {P:Program}{w:World}{K:W.Frag}{mg:Str->Option Value}{base:Heap}{x qual:Str}{st:Stmt}{f:Addr}{fd:FuncData}{N ps:List Str}{k:Nat}{c:List D->Option D}(F:Fun K x qual st f fd)(S:FnScope N ps (zac st))(hlen:∀ds d,c ds=some d->ds.length=ps.length)
 (hbody:∀(cdv:Value) (A:Around) (outer:List Env) (s:Shared) (H:Hp) (E:XK),Room k (A.deeper (envOfC qual (zac st) s.heap.objs.size f cdv))->Leaves (cxOf (CXE P w) P w K mg base N qual (zac st) f cdv A outer s H E) E->
  ∃g,VRs (cxOf (CXE P w) P w K mg base N qual (zac st) f cdv A outer s H E) E (zaT st) g/\∀ds,ds.length=ps.length->EvS kX some g (ds.map SV.val++List.replicate (N.length - ps.length) .un) (c ds)):FnOk P w K mg base (CXE P w) (k+1) f fd ps (spX K c):=by
 obtain⟨oc,od,kV,doc,pm,an,cdv,ct,osl,rfl,lk,hcd⟩:=F.ex;refine zkY lk hcd S (fun vs H Q E h=>?_) fun A outer s H vs Q E hr h=>?_
 ·obtain⟨J,ds,d,ja,r,e,w⟩:=h;rw[r.length];exact hlen ds d e
 ·obtain⟨J,ds,d,ja,r,e,w⟩:=h;have hl:=hlen ds d e
  obtain⟨g,⟨t,p,q⟩,ev⟩:=hbody cdv A outer s H E hr zij;refine⟨t,p,?_⟩;have e:=ev ds hl d (by rw[e];rfl)
  rw[<-hl] at e;have s0:=zev (N:=N) ja r
  cases z:g (ds.map SV.val++List.replicate (N.length - ds.length) .un) with
  | none=>rw[z] at e;cases e
  | some o=>
    rw[z] at e;refine q H J Pr.no _ _ H J o _ s0 z ?_;cases o with
    | ret r ρ'=>
      cases r with
      | told d'=>cases e;exact fun ρ' σ' H' J' cls dx s' x' n'=>w H' J' cls dx s'.out x' n'
      | new n d'=>cases e
    | _=>cases e
section
variable {X:Cx}{body ss:List Stmt}{e:Expr}{pos:Pos}{f fx:FE}{ft:FT}
theorem znQ {t:TS}(h:PSs X.nox ss t):PSX X ss (fun D _ σ H=>t D σ H):=fun pins s σ H D E I hw=>
 waG (h pins s σ H D (zgu I) hw) (fun fl s' q=>by
  cases fl with
  | next=>obtain⟨σ',H',J,q⟩:=q;exact⟨σ',H',zdI J,q⟩
  | brk=>obtain⟨σ',H',J,q⟩:=q;exact⟨σ',H',zdI J,q⟩
  | cont=>obtain⟨σ',H',J,q⟩:=q;exact⟨σ',H',zdI J,q⟩
  | ret u=>obtain⟨v,σ',H',J,r,q⟩:=q;exact⟨v,σ',H',zdI J,r,q⟩) fun _ _ z=>z.elim
def VXB (X:Cx)(ss:List Stmt)(gx:FE):Prop:=∃t,PSX X ss t/\∀Hz Jz O ρ σ H J x D E,ST X.K Hz Jz O ρ σ H J->gx ρ=some x->WantsX X.K H J x E->t D E σ H
theorem zjN (h:VQ X e f)(hs:swapsWith e none pos.line X.env=pure false:=by rfl):VXB X [.Expr e pos] f:=by
 obtain⟨t,p,q⟩:=h;exact⟨_,zjL p hs,fun Hz Jz O ρ σ H J x D E s e w=>q Hz Jz O ρ σ H J x _ E s e w⟩
def zdL (cs:List Str):D->Bool
 | .exc c _ _=>cs.contains c
 | _=>false
structure XTy (K:W.Frag)(mg:Str->Option Value)(T:Str)(cs:List Str):Prop where
 ex:∃CT,mg T=some (.ref CT)/\PySem.W.mroIn K CT (.type "BaseException")=some true/\PySem.W.typeIn K (.ref CT)=some (.type "type")/\∀c C,c∈cs->W.nsIn K mainGlobals c=some (some (.ref C))->PySem.W.mroIn K C (.ref CT)=some true
def unO (i:Nat):Out->Option Out
 | .nx ρ=>if isPar (ρ[i]?)=false then some (.nx (ρ.set i .un)) else none
 | .bk ρ=>if isPar (ρ[i]?)=false then some (.bk (ρ.set i .un)) else none
 | .ct ρ=>if isPar (ρ[i]?)=false then some (.ct (ρ.set i .un)) else none
 | .ret r ρ=>some (.ret r ρ)
def gTry (cs:List Str)(i:Nat)(gx:FE)(gb gh:FS):FS:=fun ρ=>match gx ρ with
 | some x=>if zdL cs x&&okS i ρ then(gh (ρ.set i (.val x))).bind (unO i) else none
 | none=>gb ρ
theorem zlW {K:W.Frag}{H H' H2:Hp}{J J':Addr->Prop}{x:D}{cls:Value}{dx:Option Addr}{a:Addr}{oa:Obj}(ja:∀a,J a->H a≠none)(u:Up H J H' J')(at':XAtD K H' J' x cls dx)(fr:∀d,dx=some d->H d=none)(ha:H' a=none)(hc:oa.cls=cls)(hd:oa.dict=dx)(hn:PySem.W.notCls oa=true)(h:Held H' a oa H2) :
 ∃J2,Up H J H2 J2/\Rp K H2 J2 (.ref a) x:=by
 obtain⟨c,ns,ds,C,rfl,hns,rfl,hx⟩:=at';rcases hx with⟨rfl,rfl,rfl⟩ | ⟨d,vs,rfl,njd,hxd,hl,rl⟩
 ·rcases h with⟨hd',rfl⟩ | ⟨d,od,fs,hd',_,_⟩
  ·refine⟨fun b=>J' b\/b=a,⟨u.same.trans (zep ha _),fun b h=>.inl (u.jj b h),fun b h=>?_,fun b h=>?_⟩,.exc ⟨.inr rfl,oa,C,hns,zaf,hc,hn,.inl ⟨rfl,rfl,hd⟩⟩ .nil⟩
   ·rcases h with h | rfl
    ·exact u.jn b h
    ·exact .inr (u.same.free ha)
   ·by_cases z:b=a
    ·subst z;rw[zaf];simp
    ·rw[zag z];rcases h with h | h
     ·exact u.ja b h
     ·exact absurd h z
  ·rw[hd] at hd';cases hd'
 ·rcases h with⟨hd',_⟩ | ⟨d',od,fs,hd',hf,rfl⟩
  ·rw[hd] at hd';cases hd'
  ·obtain rfl:d=d':=wau (hd.symm.trans hd');rw[hxd] at hf;cases hf;have hda:d≠a:=by rintro rfl;rw[hxd] at ha;cases ha
   have hHd:=fr d rfl
   have hne:∀b o,b≠a->b≠d->H' b=o->(upd (upd H' a (.frz oa X0)) d (.frz od (.xd (ns.zip vs)))) b=o:=fun b o h1 h2 h3=>by rw[zag h2,zag h1];exact h3
   have kp:Keep K H' J' (upd (upd H' a (.frz oa X0)) d (.frz od (.xd (ns.zip vs)))) (fun b=>J' b\/b=a\/b=d):=⟨fun _ h=>.inl h,fun p o j h=>hne p _ (fun z=>by subst z;rw[ha] at h;cases h) (fun z=>by subst z;exact njd j) h,fun p us h=>by
    have sm:∀o,H' p=some o->(∀fs,o≠.xd fs)->(upd (upd H' a (.frz oa X0)) d (.frz od (.xd (ns.zip vs)))) p=some o:=fun o h hx=>hne p _ (fun z=>by subst z;rw[ha] at h;cases h) (fun z=>by subst z;rw[hxd] at h;cases h;exact hx _ rfl) h
    rcases h with(h | ⟨o,h⟩) | h
    ·exact .inl (.inl (sm _ h fun _ z=>by cases z))
    ·exact .inl (.inr ⟨o,sm _ h fun _ z=>by cases z⟩)
    ·exact .inr h⟩
   refine⟨fun b=>J' b\/b=a\/b=d,⟨fun b o e=>?_,fun b h=>.inl (u.jj b h),fun b h=>?_,fun b h=>?_⟩,.exc ⟨.inr (.inl rfl),oa,C,hns,by rw[zag hda.symm,zaf];rfl,hc,hn,.inr ⟨d,od,hd,.inr (.inr rfl),zaf,hl⟩⟩ (rl.keep kp)⟩
   ·exact hne b _ (fun z=>by subst z;rw[u.same.free ha] at e;cases e) (fun z=>by subst z;rw[hHd] at e;cases e) (u.same b o e)
   ·rcases h with h | rfl | rfl
    ·exact u.jn b h
    ·exact .inr (u.same.free ha)
    ·exact .inr hHd
   ·by_cases z2:b=d
    ·subst z2;rw[zaf];simp
    ·rw[zag z2];by_cases z:b=a
     ·subst z;rw[zaf];simp
     ·rw[zag z];rcases h with h | h | h
      ·exact u.ja b h
      ·exact absurd h z
      ·exact absurd h z2
theorem znR {T n:Str}{tp hp:Pos}{suite:List Stmt}{b₀:Stmt}{cs:List Str}{gx:FE}{gb gh:FS}(i:Nat)(ty:XTy X.K X.mg T cs)(hN:X.N.Nodup)(hx:VXB X body gx)(hb:VSs X.nox body gb)(hh:∀e,VSs (inH X e) (b₀::suite) gh)
 (hg:Gl X T:=by rfl) (hi:X.N[i]?=some n:=by rfl) (hk:X.env.kindOf n=some .local:=by rfl) (hst:X.stack=X.env::X.outer:=by rfl) (hf:X.env.frame=some X.env.locals:=by rfl) (hdb:(T == ("__debug__" : Str))=false:=by decide) :
 VS X (.Try body [.ExceptHandler (some (.Name T tp)) (some n) (b₀::suite) hp] [] [] pos) (gTry cs i gx gb gh):=by
 obtain⟨CT,hm,hB,hT,hC⟩:=ty.ex;obtain⟨t1,p1,q1⟩:=hx;obtain⟨t2,p2,q2⟩:=hb;have pb:PSX X body (fun D E σ H=>t1 D E σ H\/t2 D σ H):=fun pins s σ H D E I h=>h.elim (p1 pins s σ H D E I) (znQ p2 pins s σ H D E I)
 have ph:∀e,PSs (inH X e) (b₀::suite) (fun D σ H=>∀e,(hh e).choose D σ H):=fun e pins s σ H D I h=>(hh e).choose_spec.1 pins s σ H D I (h e)
 refine⟨_,znG hst hf hg hm hN hi hk hB hT pb ph hdb,?_⟩;intro Hz Jz O ρ σ H J o D s e w;unfold gTry at e;split at e
 ·rename_i x e1
  by_cases hq:(zdL cs x&&okS i ρ)=true
  ·rw[if_pos hq] at e;rw[waB] at hq;obtain⟨o1,e2,e⟩:=bind_some e;have hok:=zde hq.2
   refine .inl (q1 Hz Jz O ρ σ H J x D _ s e1 fun H' J' cls dx u at' fr=>?_);have at0:=at'
   obtain⟨c,ns,ds,C,hxx,hns,hcl,hx⟩:=at';have hcc:c∈cs:=by
    have:=hq.1
    rw[hxx] at this;exact List.contains_iff_mem.mp this
   refine⟨⟨C,hcl,hC c C hcc hns⟩,fun d hd=>?_,fun a oa H2 ha hc' hd' hn' hh'=>?_⟩
   ·rcases hx with⟨z,_,_⟩ | ⟨d',vs,z,_,hxd,_,_⟩
    ·rw[hd] at z;cases z
    ·rw[hd] at z;cases z;exact⟨_,hxd⟩
   ·obtain⟨J2,u2,r2⟩:=zlW s.ja u at0 fr ha hc' hd' hn' hh';have s2:=(s.up u2).set r2 hok.1 (za2 hok.2)
    intro ev;refine(hh ev).choose_spec.2 Hz Jz O _ _ H2 J2 o1 (unset i D) s2 e2 ?_;cases o1 with
    | nx ρ'=>
      unfold unO at e;by_cases hp:isPar (ρ'[i]?)=false
      ·simp only[if_pos hp] at e;cases e;exact fun σ' H' J' s' k'=>w _ H' J' (s'.unset (za2 hp)) (u2.keep.trans k')
      ·simp only[if_neg hp] at e;cases e
    | bk ρ'=>
      unfold unO at e;by_cases hp:isPar (ρ'[i]?)=false
      ·simp only[if_pos hp] at e;cases e;exact fun σ' H' J' s' k'=>w _ H' J' (s'.unset (za2 hp)) (u2.keep.trans k')
      ·simp only[if_neg hp] at e;cases e
    | ct ρ'=>
      unfold unO at e;by_cases hp:isPar (ρ'[i]?)=false
      ·simp only[if_pos hp] at e;cases e;exact fun σ' H' J' s' k'=>w _ H' J' (s'.unset (za2 hp)) (u2.keep.trans k')
      ·simp only[if_neg hp] at e;cases e
    | ret r ρ'=>cases e;exact w
  ·rw[if_neg hq] at e;cases e
 ·exact .inr (q2 Hz Jz O ρ σ H J o D s e w)
end
def kU (i:Nat):Out->Option En
 | .nx ρ=>if isPar (ρ[i]?)=false then some (ρ.set i .un) else none
 | _=>none
theorem znS {S:Type}{cs:List Str}{i:Nat}{gx:FE}{gb gh:FS}{ρ:En}{emb:S->En}{h:D->Option S}{b:Option S}(hi:okS i ρ=true)(hh:∀x,EvS (kU i) (fun s=>some (emb s)) gh (ρ.set i (.val x)) (h x))(hb:gx ρ=none->EvS k0 (fun s=>some (emb s)) gb ρ b) :
 Step (gTry cs i gx gb gh) ρ (match gx ρ with | some x=>if zdL cs x then h x else none | none=>b) emb:=fun s z=>by
 unfold gTry;cases e:gx ρ with
 | some x=>
   rw[e] at z;dsimp only at z⊢;by_cases hc:zdL cs x=true
   ·rw[if_pos hc] at z;rw[if_pos (by rw[hc,hi];rfl)];obtain⟨o,e1,e2⟩:=zaa (hh x (emb s) (by rw[z];rfl));rw[e1,zOB];cases o with
    | nx ρ'=>
      unfold kU at e2;unfold unO;by_cases hp:isPar (ρ'[i]?)=false
      ·simp only[if_pos hp] at e2⊢;rw[wau e2]
      ·simp only[if_neg hp] at e2;cases e2
    | _=>cases e2
   ·rw[if_neg hc] at z;cases z
 | none=>
   rw[e] at z;obtain⟨o,e1,e2⟩:=zaa (hb e (emb s) (by rw[show b=some s from z];rfl));show gb ρ=_
   rw[e1];cases o <;> cases e2
   rfl
theorem Exh.caught {K:W.Frag}{H:Hp}{J:Addr->Prop}{a:Addr}{c:Str}{ns:List Str}{vs:List V}(h:Exh K H J a c ns vs)(hn:ns≠[]):∃C,W.nsIn K mainGlobals c=some (some (.ref C))/\zd8 H a C (ns.zip vs):=by
 obtain⟨j,oa,C,h1,h2,h3,h4,h5⟩:=h;rcases h5 with⟨z,_,_⟩ | ⟨d,od,h6,h7,h8,h9⟩
 ·exact absurd z hn
 ·exact⟨C,h1,oa,d,od,h2,h3,h4,h6,h8⟩
def isX (tab:List (Str×Bool)):D->Option D
 | .exc c (_::_) _=>(tab.lookup c).map .bl
 | _=>none
structure XInst (K:W.Frag)(cv:Value)(tab:List (Str×Bool)):Prop where
 ok:∀c b,tab.lookup c=some b->∀C,W.nsIn K mainGlobals c=some (some (.ref C))->XK1 K C/\PySem.W.kitOne K (.ref C) cv=some b
def rIsX (K:W.Frag):List V->Hp->VK->Prop:=fun xs H Q=>∃a c C fs cv b,xs = [.ref a,c]/\(∀u,RelV c u->u=cv)/\zd8 H a C fs/\XK1 K C/\PySem.W.kitOne K (.ref C) cv=some b/\Q (.bl b) H
theorem zgC {X:Cx}:zcs X (.builtin "isinstance") (rIsX X.K):=by
 rintro pins s σ H xs us Q I r ⟨a,c,C,fs,cv,b,rfl,hc,hca,k1,e,q⟩;obtain⟨u,w',rfl,r1,r2⟩:=zho r;obtain rfl:u=Value.ref a:=r1;obtain rfl:=hc _ r2;exact zin I k1 hca e fun tk=>⟨.bl b,H,I.tok _,rfl,q⟩
section
variable {X:Cx}{a e:Expr}{fa:FE}{p q pos:Pos}{T:Str}{cv:V}{u:Value}{tab:List (Str×Bool)}
theorem zkH {t:TE}(IN:XInst X.K u tab)(hu:∀u',RelV cv u'->u'=u)(g:GoE X.K t fa):GoE X.K (tCB (rIsX X.K) (zi0 t (zi0 (tC cv) tNil))) (fun ρ=>(fa ρ).bind (isX tab)):=by
 intro Hz Jz O ρ σ H J d Q s e w;obtain⟨x,e1,e⟩:=bind_some e;unfold isX at e;split at e
 ·rename_i c n ns ds
  obtain⟨b,e2,e3⟩:=wbA.mp e;cases e3;refine g Hz Jz O ρ σ H J _ _ s e1 fun v H1 J1 u1 r1=>?_
  show rIsX X.K [v,cv] H1 Q
  cases r1 with
  | exc h rl=>
    obtain⟨C,hC,ca⟩:=h.caught (by simp);obtain⟨k1,k2⟩:=IN.ok c b e2 C hC;exact⟨_,cv,C,_,u,b,rfl,hu,ca,k1,k2,w _ H1 J1 u1 (.bl b)⟩
 ·cases e
theorem znT {CT:Addr}(IN:XInst X.K (.ref CT) tab)(hm:X.mg T=some (.ref CT))(B:Blt X.mg)(ha:VE X a fa)(hgT:Gl X T:=by rfl)(hdT:(T == ("__debug__" : Str))=false:=by decide)(hg:Gl X "isinstance":=by rfl)
 (h1:starEach [a,.Name T q] X.env=(false,eval a X.env)::starEach [.Name T q] X.env:=by rfl) (h2:starEach [.Name T q] X.env=(false,eval (.Name T q) X.env)::starEach [] X.env:=by rfl)
 (hpl:(backTo pos (starEach [.Name T q] X.env)).any (·.1)=false:=by rfl):VE X (.Call (.Name "isinstance" p) [a,.Name T q] [] pos) (fun ρ=>(fa ρ).bind (isX tab)):=by
 obtain⟨t,pa,g⟩:=ha;exact⟨_,pb zgC B boot_isinstance (zaC pa (zaC (zfA (v:=.ref CT) hgT hm rfl hdT) zbA h2) h1) (by decide +kernel) hg (by decide) (by decide) h1 hpl,zkH IN (fun u' r=>r) g⟩
theorem znU {Tt:String}(IN:XInst X.K (.type Tt) tab)(hm:X.mg T=none)(hv:bootBuiltins T=some (.type Tt))(B:Blt X.mg)(ha:VE X a fa)(hgT:Gl X T:=by rfl)(hnT:T≠"__name__":=by decide)(hdT:(T == ("__debug__" : Str))=false:=by decide)(hg:Gl X "isinstance":=by rfl)
 (h1:starEach [a,.Name T q] X.env=(false,eval a X.env)::starEach [.Name T q] X.env:=by rfl) (h2:starEach [.Name T q] X.env=(false,eval (.Name T q) X.env)::starEach [] X.env:=by rfl)
 (hpl:(backTo pos (starEach [.Name T q] X.env)).any (·.1)=false:=by rfl):VE X (.Call (.Name "isinstance" p) [a,.Name T q] [] pos) (fun ρ=>(fa ρ).bind (isX tab)):=by
 obtain⟨t,pa,g⟩:=ha;exact⟨_,pb zgC B boot_isinstance (zaC pa (zaC (zhf (v:=.ty Tt) hgT hm hv rfl hnT hdT) zbA h2) h1) (by decide +kernel) hg (by decide) (by decide) h1 hpl,zkH IN (fun u' r=>r) g⟩
def PCl (X:Cx)(es:List Expr)(Cs:List Addr):Prop:=PA X es (fun σ H Q=>Q (Cs.map V.ref) H)
theorem zis:PCl X [] []:=zbA
theorem zcS {es:List Expr}{Cs:List Addr}{CT:Addr}(hm:X.mg T=some (.ref CT))(h:PCl X es Cs)(hg:Gl X T:=by rfl)(hd:(T == ("__debug__" : Str))=false:=by decide)
 (h1:starEach (.Name T q::es) X.env=(false,eval (.Name T q) X.env)::starEach es X.env:=by rfl):PCl X (.Name T q::es) (CT::Cs):=zaC (zfA (v:=.ref CT) hg hm rfl hd) h h1
structure XInstT (K:W.Frag)(Cs:List Addr)(tab:List (Str×Bool)):Prop where
 ok:∀c b,tab.lookup c=some b->∀C,W.nsIn K mainGlobals c=some (some (.ref C))->XK1 K C/\PySem.W.kitAny K (.ref C) (Cs.map Value.ref)=some b
 le:Cs.length<=sizeLine
def znV (K:W.Frag):List V->Hp->VK->Prop:=fun xs H Q=>∃(a p C:Addr) (fs:List (Str×V)) (Cs:List Addr) (b:Bool),xs = [.ref a,.ref p]/\H p=some (.tup (Cs.map V.ref))/\zd8 H a C fs/\XK1 K C/\PySem.W.kitAny K (.ref C) (Cs.map Value.ref)=some b/\Q (.bl b) H
theorem zff:∀{Cs:List Addr}{us:List Value},Vals (Cs.map V.ref) us->us=Cs.map Value.ref
 | [],_,h=>by cases h;rfl
 | c::cs,_,h=>by
   cases h with
   | cons a b=>rw[zff b];cases a;rfl
theorem zit {X:Cx}:zcs X (.builtin "isinstance") (znV X.K):=by
 rintro pins s σ H xs us Q I r ⟨a,p,C,fs,Cs,b,rfl,hp,hca,k1,e,q⟩;obtain⟨u,w',rfl,r1,r2⟩:=zho r;obtain rfl:u=Value.ref a:=r1;obtain rfl:w'=Value.ref p:=r2;obtain⟨its,rv,pt,_⟩:=I.tuple (SqT.of hp);rw[zff rv] at pt;obtain⟨⟨c0,d0,dt0,sl0⟩,h1,h2,n,h3⟩:=pt;dsimp only at h2 h3;subst h2 h3;exact zg6 I k1 hca h1 e fun tk=>⟨.bl b,H,I.tok _,rfl,q⟩
theorem zlX {es:List Expr}{Cs:List Addr}{x1}(IN:XInstT X.K Cs tab)(B:Blt X.mg)(ha:VE X a fa)(hc:PCl X es Cs)(hg:Gl X "isinstance":=by rfl)
 (h1:starEach [a,.Tuple es x1 q] X.env=(false,eval a X.env)::starEach [.Tuple es x1 q] X.env:=by rfl) (h2:starEach [.Tuple es x1 q] X.env=(false,eval (.Tuple es x1 q) X.env)::starEach [] X.env:=by rfl)
 (hpl:(backTo pos (starEach [.Tuple es x1 q] X.env)).any (·.1)=false:=by rfl):VE X (.Call (.Name "isinstance" p) [a,.Tuple es x1 q] [] pos) (fun ρ=>(fa ρ).bind (isX tab)):=by
 obtain⟨t,pa,g⟩:=ha;refine⟨_,pb zit B boot_isinstance (zaC pa (zaC (zhs hc) zbA h2) h1) (by decide +kernel) hg (by decide) (by decide) h1 hpl,?_⟩;intro Hz Jz O ρ σ H J d Q s e w;obtain⟨x,e1,e⟩:=bind_some e;unfold isX at e;split at e
 ·rename_i c n ns ds
  obtain⟨b,e2,e3⟩:=wbA.mp e;cases e3;refine g Hz Jz O ρ σ H J _ _ s e1 fun v H1 J1 u1 r1=>⟨by rw[wao];exact IN.le,fun p' hp'=>?_⟩
  have un:=Up.new u1.ja hp' (.tup (Cs.map V.ref))
  show znV X.K [v,.ref p'] (upd H1 p' (.tup (Cs.map V.ref))) Q
  cases r1.keep un.keep with
  | exc h rl=>
    obtain⟨C,hC,ca⟩:=h.caught (by simp);obtain⟨k1,k2⟩:=IN.ok c b e2 C hC;exact⟨_,p',C,_,Cs,b,rfl,zaf,ca,k1,k2,w _ _ J1 (u1.trans un) (.bl b)⟩
 ·cases e
structure XFld (K:W.Frag)(f:Str)(cs:List Str):Prop where
 ok:∀c,c∈cs->∀C,W.nsIn K mainGlobals c=some (some (.ref C))->XG K C f
def zjO (f:Str)(cs:List Str)(d:D):Option D:=match d with
 | .exc c (n::ns) ds=>if cs.contains c then((n::ns).zip ds).lookup f else none
 | _=>none
theorem RpL.look {K:W.Frag}{H:Hp}{J:Addr->Prop}{f:Str}:∀{ns:List Str}{vs:List V}{ds:List D}{d:D},RpL K H J vs ds->(ns.zip ds).lookup f=some d->∃v,(ns.zip vs).lookup f=some v/\Rp K H J v d
 | [],_,_,_,_,e=>by simp at e
 | n::ns,_,_,_,.nil,e=>by simp at e
 | n::ns,v::vs,d'::ds,d,.cons h t,e=>by
   rw[List.zip_cons_cons,waP] at e⊢;by_cases hf:(f == n)=true
   ·rw[hf] at e⊢;cases e;exact⟨v,rfl,h⟩
   ·have hf:(f == n)=false:=by simpa using hf
    rw[hf] at e⊢;exact RpL.look t e
theorem zlY {f:Str}{cs:List Str}(XF:XFld X.K f cs)(ha:VE X a fa)(hb:attributeBase a f X.env (eval a X.env)=eval a X.env:=by rfl):VE X (.Attribute a f pos) (fun ρ=>(fa ρ).bind (zjO f cs)):=by
 obtain⟨t,pa,g⟩:=ha;refine⟨_,zlV pa hb,?_⟩;intro Hz Jz O ρ σ H J d Q s e w;obtain⟨x,e1,e⟩:=bind_some e;unfold zjO at e;split at e
 ·rename_i c n ns ds
  split at e
  ·rename_i hc
   refine g Hz Jz O ρ σ H J _ _ s e1 fun v H1 J1 u1 r1=>?_
   cases r1 with
   | exc h rl=>
     obtain⟨C,hC,ca⟩:=h.caught (by simp);obtain⟨v,hv,rv⟩:=rl.look e;exact⟨_,C,_,v,rfl,ca,XF.ok c (List.contains_iff_mem.mp hc) C hC,hv,w v H1 J1 u1 rv⟩
  ·cases e
 ·cases e
end
def okTx (y:Str):Bool:=decide (y.length<=1000)&&y.cps.toList.all fun c=>decide (c<16 ^ 8)
def zfQ:D->Bool
 | .str y=>okTx y
 | _=>false
theorem zjP {y:Str}(h:okTx y=true):(reprText y).length<=10002:=by
 unfold okTx at h;rw[waB] at h;have h1:=of_decide_eq_true h.1
 have h2:=StrLaws.reprText_len y fun c hc=>of_decide_eq_true (waQ.mp h.2 c hc)
 omega
theorem zjQ {P:Program}{w:World}{K:W.Frag}{mg:Str->Option Value}{C N fI:Addr}{bm:List Value}{slf x nm c p:Str}{fd:FuncData}{k:Nat}{cp np fp jp:Pos}(xi:XI P w K C N fI bm slf x nm (.JoinedStr [.Constant (.str p) k cp,.FormattedValue (.Name x np) 114 none fp] jp) fd)
 (hsup:mg "super"=none) (hm:mg c=some (.ref C)) (hn:W.nsIn K mainGlobals c=some (some (.ref C))) (hk:W.keepIn K (.ref C)=true) (hB:bm.contains (.type "BaseException")=true) (hp:p.length<=1000):XCl P w K mg c nm zfQ where
 sup:=hsup
 ex:=⟨C,N,fI,bm,slf,x,_,fd,xi,hm,hn,hk,hB,fun h u d hok=>by
  cases d with
  | str y=>
    refine⟨rfl,fun r=>?_⟩;cases r;have h1:=zjP hok
    have h2:11002<=sizeLine:=by decide +kernel
    exact zim (fun L=>(xi.kinds L).2.2.2) xi.flags.2.2 xi.dbg.1 (by omega)
  | _=>cases hok⟩
section
variable {X:Cx}{E:XK}{fa:FE}{pos:Pos}
theorem zlZ {tg iter:Expr}{body:List Stmt}(h:VQ X iter fa)(L:Leaves X E)(hs:∀x,foldedSetIterable iter X.env x=pure x:=by intro _;rfl):VRS X E (.For tg iter body [] pos) (gRet fa):=by
 obtain⟨t,p,q⟩:=h;refine⟨fun D σ H=>t σ H (fun _ _=>False) E,fun pins s σ H D I h=>?_,?_⟩
 ·exact wpAny_For (waG (p pins s σ H _ E I h) (fun v s1 ⟨_,_,_,_,q⟩ =>q.elim) fun e s' ⟨H1,s1,I1,hc⟩ =>L.passes pins σ H1 s1 e s' I1 hc) hs
 intro Hz Jz O ρ σ H J o D s e w;obtain⟨x,e1,e⟩:=bind_some e;cases e;exact q Hz Jz O ρ σ H J x _ E s e1 (FitsX.wants w s)
theorem ziu {R A:Type}{k:Out->Option R}{φ:A->Option R}{g:FS}{ρ:En}{a:Option A}(h:EvS (kx k) φ g ρ a):EvS k φ (gSeq g gNo) ρ a:=fun r e=>zkA (h r e)
end
theorem zdM:bootBuiltins "ValueError"=some (.type "ValueError"):=by decide +kernel
section
variable {K:W.Frag}{mg:Str->Option Value}{c T f:Str}{C CT:Addr}{cv:Value}{b:Bool}{tab:List (Str×Bool)}{Cs:List Addr}{cs:List Str}
theorem zfg:XInst K cv []:=⟨fun c b e=>by cases e⟩
theorem zd9 (hn:W.nsIn K mainGlobals c=some (some (.ref C)))(k:XK1 K C)(e:PySem.W.kitOne K (.ref C) cv=some b)(t:XInst K cv tab):XInst K cv ((c,b)::tab):=⟨fun x y h C' hC=>by
 rw[waP] at h;by_cases z:(x == c)=true
 ·rw[z] at h;obtain rfl:x=c:=by simpa using z
  rw[hn] at hC;cases hC;cases h;exact⟨k,e⟩
 ·have z:(x == c)=false:=by simpa using z
  rw[z] at h;exact t.ok x y h C' hC⟩
theorem zg8 (h:Cs.length<=sizeLine):XInstT K Cs []:=⟨(fun c b e=>by cases e),h⟩
theorem zfR (hn:W.nsIn K mainGlobals c=some (some (.ref C)))(k:XK1 K C)(e:PySem.W.kitAny K (.ref C) (Cs.map Value.ref)=some b)(t:XInstT K Cs tab):XInstT K Cs ((c,b)::tab):=⟨fun x y h C' hC=>by
 rw[waP] at h;by_cases z:(x == c)=true
 ·rw[z] at h;obtain rfl:x=c:=by simpa using z
  rw[hn] at hC;cases hC;cases h;exact⟨k,e⟩
 ·have z:(x == c)=false:=by simpa using z
  rw[z] at h;exact t.ok x y h C' hC,t.le⟩
theorem zjR:XFld K f []:=⟨fun c h=>by cases h⟩
theorem ziv (hn:W.nsIn K mainGlobals c=some (some (.ref C)))(g:XG K C f)(t:XFld K f cs):XFld K f (c::cs):=⟨fun x h C' hC=>by
 by_cases z:x=c
 ·subst z;rw[hn] at hC;cases hC;exact g
 ·exact t.ok x ((wag.mp h).resolve_left z) C' hC⟩
theorem zl0 (hm:mg T=some (.ref CT))(hB:PySem.W.mroIn K CT (.type "BaseException")=some true)(hT:PySem.W.typeIn K (.ref CT)=some (.type "type")):XTy K mg T []:=⟨CT,hm,hB,hT,fun c C h=>by cases h⟩
theorem zjS (hm:mg T=some (.ref CT))(hn:W.nsIn K mainGlobals c=some (some (.ref C)))(e:PySem.W.mroIn K C (.ref CT)=some true)(t:XTy K mg T cs):XTy K mg T (c::cs):=by
 obtain⟨CT',h1,h2,h3,h4⟩:=t.ex;rw[hm] at h1;cases h1;refine⟨_,hm,h2,h3,fun x C' h hC=>?_⟩;by_cases z:x=c
 ·subst z;rw[hn] at hC;cases hC;exact e
 ·exact h4 x C' ((wag.mp h).resolve_left z) hC
end
def spN (K:W.Frag):Sp:=fun vs H Q _=>∃S:Scr,vs = [.ref S.p]/\SqF K S H/\∀H',Q (.bl true) H'
theorem lawN {P:Program}{w:World}{K:W.Frag}{mg:Str->Option Value}{base:Heap}{k:Nat}{f:Addr}{fd:FuncData}{x:Str}{m:Scr->List D->Option D}(F:∀S:Scr,FnOk P w K mg base CX0 k f fd [x] (pcS (SqF K S) (spF K (m S))))(hl:∀S:Scr,m S [.scr S.p]=some (.bl true)):FnOk P w K mg base CX0 k f fd [x] (spN K):=
 ⟨fun vs H Q E h=>by obtain⟨S,rfl,_⟩:=h;rfl,fun A outer s H args us vs Q E hr he hb hv h=>by
  obtain⟨S,rfl,hP,hq⟩:=h;refine(F S).run A outer s H args us _ Q E hr he hb hv ⟨hP,fun _=>False,[.scr S.p],.bl true,fun _ h=>h.elim,.cons (.scr _) .nil,hl S,fun v H' J' u r=>?_⟩;cases r;exact hq _⟩
theorem spN_of {K:W.Frag}{H:Hp}{a:Addr}{ns:List Int}(hO:L2.Only H)(hS:SqL K H a (ns.map V.int)):spN K [.ref a] H (fun v _=>v=.bl true) fun _ _ _=>False:=
 ⟨⟨a,ns⟩,rfl,SqF.of hS fun hn=>(hO a).resolve_left hn,fun _=>rfl⟩
section
variable {X:Cx}{e a b c:Expr}{es:List Expr}{f fx:FE}{fa:FE}{ft:FT}{pos:Pos}
theorem PEX.no {t:TEX}(h:PEX X e t){pins:List (Addr×Obj)}{s:Shared}{σ:L2.St}{H:Hp}{E:XK}(I:Inv X pins σ H s)(q:t σ H (fun _ _=>False) E):wpAny (model X.prog X.w) X.A (eval e X.env) (fun _ _=>False) (XP X pins σ E) s:=
 waG (h pins s σ H _ E I q) (fun _ _ ⟨_,_,_,_,q⟩ =>q) fun _ _ z=>z
theorem zkI (h:VQ X a f):VQ X (.Subscript a b pos) f:=by
 obtain⟨t,p,q⟩:=h;exact⟨fun σ H _ E=>t σ H (fun _ _=>False) E,fun pins s σ H Q E I h=>Subscript_ (waG (PEX.no p I h) (fun _ _ z=>z.elim) fun _ _ z=>z),fun Hz Jz O ρ σ H J x Q E s e w=>q Hz Jz O ρ σ H J x _ E s e w⟩
def qIfF (c:FT)(a:FE):FE:=fun ρ=>(c ρ).bind fun k=>if k then none else a ρ
theorem znW (hc:VT X.nox c ft)(h:VQ X b f):VQ X (.IfExp c a b pos) (qIfF ft f):=by
 obtain⟨tc,pc,qc⟩:=hc;obtain⟨t,p,q⟩:=h;refine⟨fun σ H Q E=>tc σ H fun d H1=>d=false/\t σ H1 Q E,fun pins s σ H Q E I h=>?_,fun Hz Jz O ρ σ H J x Q E s e w=>?_⟩
 ·refine wpAny_IfExp (waG (pc pins s σ H _ (zgu I) h) (fun d s1 ⟨H1,I1,hd,q1⟩ =>?_) fun _ _ z=>z.elim);subst hd;exact p pins s1 σ H1 Q E (zdI I1) q1
 ·obtain⟨k,e1,e⟩:=bind_some e;refine qc Hz Jz O ρ σ H J k _ s e1 fun H1 J1 u1=>?_
  cases k with
  | true=>cases e
  | false=>exact⟨rfl,q Hz Jz O ρ σ H1 J1 x Q E (s.up u1) e (w.up u1)⟩
end
section
variable {X:Cx}{k k':Nat}{x:Str}{p:Pos}{es fs:List Expr}{e ie:Expr}{fl:FA}{fi:FE}{g:List D->Option D}{gs:List (List D->Option D)}{pos lp sp:Pos}
structure FsX (X:Cx)(k:Nat)(es:List Expr)(gs:List (List D->Option D)):Prop where
 ex:∃Cs:List Addr,PCl X.nox es Cs/\Cs.length=gs.length/\∀(j:Nat) (f:Addr) (g:List D->Option D),Cs[j]?=some f->gs[j]?=some g->∃fd ps,FnOk X.prog X.w X.K X.mg X.base (CXE X.prog X.w) k f fd ps (spX X.K g)/\Binds X.K fd ps []/\W.keepIn X.K (.ref f)=true
theorem zl1:FsX X k [] []:=⟨[],zis,rfl,fun j f g h=>by simp at h⟩
theorem zcT {ps:List Str}(C:CalX X.prog X.w X.K X.mg X.base k' x ps (spX X.K g))(t:FsX X k es gs)(hk:k'<=k:=by decide)(hg:Gl X x:=by rfl)(hd:(x == ("__debug__" : Str))=false:=by decide)
 (h1:starEach (.Name x p::es) X.env=(false,eval (.Name x p) X.env)::starEach es X.env:=by rfl):FsX X k (.Name x p::es) (g::gs):=by
 obtain⟨f,fd,a,b,c,d⟩:=C.ex;obtain⟨Cs,pc,hl,h⟩:=t.ex;refine⟨f::Cs,zcS d pc hg hd h1,by simp[hl],fun j f' g' hj hj'=>?_⟩;cases j with
 | zero=>cases hj;cases hj';exact⟨fd,ps,a.mono hk,b,c⟩
 | succ j=>exact h j f' g' hj hj'
def eSel (gs:List (List D->Option D))(fi:FE)(fl:FA):FE:=fun ρ=>(fi ρ).bind fun d=>(dInt d).bind fun i=>(atI gs i).bind fun F=>(fl ρ).bind F
theorem zl2 {α β:Type}{xs:List α}{ys:List β}(h:xs.length=ys.length){i:Int}{y:β}(e:atI ys i=some y):∃(j:Nat) (x:α),atI xs i=some x/\xs[j]?=some x/\ys[j]?=some y:=by
 unfold atI at e⊢;rw[h];cases q:ixN ys.length i with
 | none=>rw[q] at e;cases e
 | some j=>
   rw[q] at e;have hj:j<xs.length:=by rw[h];exact(wak.mp e).1
   exact⟨j,xs[j],wat hj,wat hj,e⟩
theorem znX (F:FsX X k fs gs)(hr:Room k' X.A)(hi:VE X.nox ie fi)(ha:VA X.nox (e::es) fl)(hk:k<=k':=by decide)(hle:gs.length<=100:=by decide)(hx:zct ie:=by exact fun _ _=>rfl)
 (he:starEach (e::es) X.env=(false,eval e X.env)::starEach es X.env:=by rfl) (hpl:(backTo pos (starEach es X.env)).any (·.1)=false:=by rfl):VQ X (.Call (.Subscript (.List fs lp) ie sp) (e::es) [] pos) (eSel gs fi fl):=by
 obtain⟨Cs,pc,hl,hF⟩:=F.ex;obtain⟨ti,pi,qi⟩:=hi;obtain⟨ta,pa,qa⟩:=ha;have pf:=zgW (X:=X.nox) (pos:=sp) ix_list (zht (pos:=lp) pc) pi hx
 refine⟨fun σ H Q E=>tOp (rIxL X.K) (tLst fun σ H Q=>Q (Cs.map V.ref) H) ti σ H fun v H1=>∃(j:Nat) (f:Addr) (g:List D->Option D),v=.ref f/\Cs[j]?=some f/\gs[j]?=some g/\ta σ H1 fun vs H2=>spX X.K g (vs++[]) H2 Q E,fun pins s σ H Q E I h=>?_,fun Hz Jz O ρ σ H J x Q E s e w=>?_⟩
 ·show wpAny _ _ (do callWith pos (<-eval (.Subscript (.List fs lp) ie sp) X.env) [] (backTo pos (starEach (e::es) X.env)) []) _ _ s
  refine waa (waG (pf pins s σ H _ (zgu I) h) (fun u s1 ⟨v,H1,I1,r1,j,f,g,hv,hj,hg,q⟩ =>?_) fun _ _ z=>z.elim);subst hv;obtain rfl:u=Value.ref f:=r1;obtain⟨fd,ps,a,b,c⟩:=hF j f g hj hg;refine wbQ (h₀:=X.base) I.ok.mod.kin c (waG (pa pos pins s1 σ H1 _ I1 q) (fun us s2 ⟨vs,H2,I2,r,q⟩ =>⟨I2.kIn,?_⟩) fun _ _ z=>z.elim) he hpl;have J1:=zdI I2
  have r2:Vals (vs++[]) (us++[]):=r.append .nil
  have hl:(us++[]).length=ps.length:=by rw[<-r2.length];exact a.len _ _ _ _ q
  refine wci (wca ((a.mono hk).run X.A X.stack s2 H2 ⟨us,[]⟩ (us++[]) (vs++[]) Q E hr J1.env0 (b s2 us J1.kIn hl) r2 q) fun r s' hq=>?_);cases r with
  | error e=>exact⟨H2,s2,J1,hq⟩
  | ok fl=>
    cases fl with
    | ret u=>exact J1.after hq
    | next=>exact False.elim hq
    | brk=>exact False.elim hq
    | cont=>exact False.elim hq
 ·obtain⟨d,e1,e⟩:=bind_some e;obtain⟨i0,ei,e4⟩:=bind_some e;cases d with
  | int i=>
    have ei:i=i0:=wau ei
    subst ei;obtain⟨F,e2,e⟩:=bind_some e4;obtain⟨ds,e3,e⟩:=bind_some e;obtain⟨j,f,h1,h2,h3⟩:=zl2 hl e2;refine⟨by rw[wao,hl];exact wai hle (by decide),fun p hp=>?_⟩;have un:=Up.new s.ja hp (.lst (Cs.map V.ref))
    refine qi Hz Jz O ρ σ _ J _ _ (s.up un) e1 fun v H1 J1 u1 r1=>?_
    cases r1;refine⟨p,Cs.map V.ref,i,.ref f,rfl,rfl,SqL.of (u1.same _ _ zaf),?_,j,f,F,rfl,h2,h3,?_⟩
    ·unfold atI at h1⊢;rw[wao];cases z:ixN Cs.length i with
     | none=>rw[z] at h1;cases h1
     | some j'=>
       rw[z] at h1;show(Cs.map V.ref)[j']?=_
       rw[wam,show Cs[j']?=some f from h1];rfl
    ·refine qa Hz Jz O ρ σ H1 J1 ds _ ((s.up un).up u1) e3 fun vs H2 J2 u2 r2=>?_
     exact⟨J2,ds,x,u2.ja,by rw[waC];exact r2,e,w.up (un.trans (u1.trans u2))⟩
  | _=>cases ei
end
section
variable {prog:Program}{w:World}{K:W.Frag}{fd:FuncData}{fI:Addr}{x p:Str}{cp np fp jp:Pos}{k:Nat}
end
section
variable {X:Cx}{k k':Nat}{x:Str}{ps:List Str}{F:List D->Option D}{e:Expr}{es:List Expr}{fl:FA}{f:FE}{p pos:Pos}{Pc:Hp->Prop}
end
variable {X:Cx}{f:FE}{e:Expr}{es:List Expr}{fl:FA}{p pos:Pos}
theorem ziw {elt iter tg:Expr}{ifs:List Expr}{scope:Scope}{pos:Pos}{cl:List (Str×Addr)}(h:VQ X iter f)(hclos:closureFor scope X.env=pure cl:=by rfl)(hkind:scope.kind=.function:=by rfl)
 (hnames:∀y∈scope.names,y.2=.local->scope.names.lookup y.1=some .local:=by decide) (hs:∀x,foldedSetIterable iter X.env x=pure x:=by intro _;rfl):VQ X (.ListComp elt [⟨tg,iter,ifs,0⟩] scope pos) f:=by
 obtain⟨t,p,q⟩:=h;refine⟨fun σ H _ E=>t σ H (fun _ _=>False) E,fun pins s σ H Q E I h=>?_,fun Hz Jz O ρ σ H J x Q E s e w=>q Hz Jz O ρ σ H J x _ E s e w⟩;rw[eval_ListComp];exact wpAny_comprehension_free (use:=none) (g:=⟨tg,iter,ifs,0⟩) (gs:=[]) rfl hs hclos hkind hnames (waG (PEX.no p I h) (fun _ _ z=>z.elim) fun _ _ z=>z)
theorem zb8 {k k':Nat}{x:Str}{ps:List Str}{ks:List (Option Nat)}{F:List D->Option (RV×List D)}(C:Cal X.prog X.w X.K X.mg X.base k x ps (spG X.K ks F))(hr:Room k' X.A)(ha:VA X (e::es) fl)(hn:ks.all (·.isNone)=true:=by rfl)(hk:k<=k':=by decide)(hg:Gl X x:=by rfl)(hdb:(x == ("__debug__" : Str))=false:=by decide)
 (he:starEach (e::es) X.env=(false,eval e X.env)::starEach es X.env:=by rfl) (hpl:(backTo pos (starEach es X.env)).any (·.1)=false:=by rfl):VN X (.Call (.Name x p) (e::es) [] pos) (znz ks.length F fl):=by
 obtain⟨t,pa,g⟩:=ha;refine⟨_,pc C hr pa hk hg hdb he hpl,?_⟩;intro Hz Jz O ρ σ H J ds Q s e w;obtain⟨l,e1,e⟩:=bind_some e;by_cases hl:l.length=ks.length
 ·have e:(if l.length=ks.length then(F l).bind zcC else none)=some ds:=e
  rw[if_pos hl] at e;obtain⟨⟨r,es'⟩,e2,e⟩:=bind_some e;refine g Hz Jz O ρ σ H J l _ s e1 fun vs H1 J1 u1 r1=>?_
  refine⟨J1,l,r,es',_,u1.ja,by rw[waC];exact ArgsG.plain r1 hl hn,e2,fun v H2 J2 fp' pg=>?_⟩;have u:Up H1 J1 H2 J2:=⟨fun b o h=>pg.hs b o (fun _=>by simp) h,pg.jj,pg.jn,pg.ja⟩
  have res:=pg.res
  match r,e,res with
  | .new 1 (.lst ds'),e,res=>
    cases e;obtain⟨B,ruB,ndB,hB,_⟩:=res;cases ruB with | @lst _ q vs' _ A h r'=>
    obtain⟨r2,rfl⟩:=RpUL.zero r';have hq:=hB q (by simp)
    exact w q vs' H2 J2 (u1.trans u) (u1.same.free hq.2) hq.1 h r2
 ·have e:(if l.length=ks.length then(F l).bind zcC else none)=some ds:=e
  rw[if_neg hl] at e;cases e
end VD
namespace GB
open PySem PySem.Spec PyProof PyProof.Rows L2 VD GM
def Po {A:Type}(o:Option A)(R:A->Prop):Prop:=∃a,o=some a/\R a
section
variable {A B:Type}{o:Option A}{k:A->Option B}{P:A->Prop}{R:B->Prop}{a:A}
theorem sx (e:o=some a)(h:Po (k a) R):Po (o.bind k) R:=by rw[e];exact h
theorem asc {C:Type}{g:B->Option C}{R:C->Prop}(h:Po (o.bind fun x=>(k x).bind g) R):Po ((o.bind k).bind g) R:=by
 cases o with
 | none=>exact h
 | some x=>exact h
theorem Po.bind (h:Po o P)(hk:∀a,P a->Po (k a) R):Po (o.bind k) R:=by
 obtain⟨a,e,p⟩:=h;exact sx e (hk a p)
end
theorem zl3 {S A:Type}{f:S->D->Option S}{ds:List D}{s0:S}{k:S->Option A}{R:A->Prop}(I:Nat->S->Prop)(h0:I 0 s0)(hs:∀i s d,ds[i]?=some d->I i s->Po (f s d) (I (i+1)))(hk:∀s,I ds.length s->Po (k s) R):Po ((zaL f s0 ds).bind k) R:=by
 have key:∀(ds:List D) (b:Nat) (s:S),(∀i s d,ds[i]?=some d->I (b+i) s->Po (f s d) (I (b+i+1)))->I b s->Po (zaL f s ds) (I (b+ds.length)):=by
  intro ds;induction ds with
  | nil=>intro b s _ h;exact⟨s,rfl,h⟩
  | cons d ds ih=>
    intro b s hf h;obtain⟨s1,e1,h1⟩:=hf 0 s d rfl h;show Po ((f s d).bind fun s=>zaL f s ds) _
    refine sx e1 ?_;rw[waX,show b+(ds.length+1)=b+1+ds.length by omega];exact ih (b+1) s1 (fun i s d hd hI=>by
     rw[show b+1+i=b+(i+1) by omega] at hI⊢;exact hf (i+1) s d hd hI) h1
 have:=key ds 0 s0 (fun i s d hd hI=>by rw[wcd] at hI⊢;exact hs i s d hd hI) h0
 rw[wcd] at this;exact this.bind hk
structure Itm where
 dp:Nat
 nm:Str
 ba:Int
 bb:Int
 bc:Int
 bd:Int
 wd:Str
 rk:Int
def Itm.bx (x:Itm):D:=.tup [.int x.ba,.int x.bb,.int x.bc,.int x.bd]
def Itm.d (x:Itm):D:=.tup [.int (x.dp:Int),.str x.nm,x.bx,.str x.wd,.int x.rk]
def rowsD (L:List Itm):D:=.lst (L.map Itm.d)
inductive Vd:Nat->List Itm->Prop
 | nil {m:Nat}:Vd m []
 | cons {m:Nat}{x:Itm}{S:List Itm}(hm:x.dp<=m) (h4:x.dp<=4) (t:Vd (x.dp+1) S):Vd m (x::S)
def part (x:Itm)(_:Nat)(inn:List D):D:=.tup [.str x.nm,x.bx,.str x.wd,.int x.rk,.non,.tup inn]
def fo:List Itm->Nat->List D
 | [],_=>[]
 | x::S,d=>if d=x.dp then part x 0 (fo S (d+1))::fo S d else if d=x.dp+1 then[] else fo S d
def ot (fr:Str->Bool):Nat->List D->List D
 | 0,_=>[]
 | n+1,ds=>ds.flatMap fun d=>match d with
   | .tup [_,_,.str w,_,_,.tup inn]=>if fr w then d::ot fr n inn else[]
   | _=>[]
theorem zfS:∀{m:Nat}{S:List Itm},Vd m S->∀d,m<d->fo S d = []
 | _,_,.nil,_,_=>rfl
 | m,_,.cons (x:=x) (S:=S) hm h4 t,d,hd=>by
   show(if d=x.dp then _ else if d=x.dp+1 then[] else fo S d) = []
   rw[if_neg (by omega)];by_cases e:d=x.dp+1
   ·rw[if_pos e]
   ·rw[if_neg e];exact zfS t d (by omega)
def nr:D->Int×Str
 | .tup [.str n,_,_,.int r,_,_]=>(r,n)
 | _=>(0,"")
theorem zl4 {fr:Str->Bool}{n:Nat}{x:Itm}{dp:Nat}{inn ds:List D}:ot fr (n+1) (part x dp inn::ds)=(if fr x.wd then part x dp inn::ot fr n inn else[])++ot fr (n+1) ds:=by
 show(List.flatMap _ (_::ds))=_
 rw[List.flatMap_cons];rfl
def Ok:Nat->List D->Prop
 | 0,ds=>ds = []
 | n+1,ds=>∀d∈ds,∃x dp inn,d=part x dp inn/\Ok n inn
theorem Ok.nil:∀{n:Nat},Ok n []
 | 0=>rfl
 | _+1=>fun d h=>by cases h
theorem zdN:∀{m:Nat}{S:List Itm},Vd m S->∀d,Ok (6 - d) (fo S d)
 | _,_,.nil,_=>Ok.nil
 | m,_,.cons (x:=x) (S:=S) hm h4 t,d=>by
   show Ok (6 - d) (if d=x.dp then part x 0 (fo S (d+1))::fo S d else if d=x.dp+1 then[] else fo S d)
   by_cases e:d=x.dp
   ·rw[if_pos e];have h1:=zdN t (d+1)
    have h2:=zdN t d
    rw[show 6 - d=(6 - (d+1))+1 by omega] at h2⊢;intro y hy;rcases wag.mp hy with rfl | hy
    ·exact⟨_,_,_,rfl,h1⟩
    ·exact h2 y hy
   ·rw[if_neg e];by_cases e2:d=x.dp+1
    ·rw[if_pos e2];exact Ok.nil
    ·rw[if_neg e2];exact zdN t d
theorem Ok.up:∀{n:Nat}{ds:List D},Ok n ds->Ok (n+1) ds
 | 0,ds,h=>by rw[show ds = [] from h];exact Ok.nil
 | n+1,ds,h=>fun d hd=>by
   obtain⟨x,dp,inn,e,o⟩:=h d hd;exact⟨x,dp,inn,e,o.up⟩
end GB
namespace Pg
open PySem L2
def top (i:Nat):Stmt:=PySem.Challenge.pw_focuswalk_k03_around_and_levels.main.body.getD i (.Pass ⟨0,0,0,0⟩)
abbrev zcc:Stmt:=top 10
abbrev zcU:Stmt:=top 11
abbrev zcd:Stmt:=top 12
abbrev zcV:Stmt:=top 13
abbrev zbH:Stmt:=top 14
abbrev zbI:Stmt:=top 15
abbrev zce:Stmt:=top 16
abbrev zbc:Stmt:=top 17
abbrev zcf:Stmt:=top 18
abbrev zbw:Stmt:=top 19
abbrev zbm:Stmt:=top 20
abbrev zcE:Stmt:=top 22
abbrev zcF:Stmt:=top 23
abbrev zcG:Stmt:=top 24
abbrev zcH:Stmt:=top 25
abbrev zbP:Stmt:=top 26
abbrev zbQ:Stmt:=top 27
abbrev zcI:Stmt:=top 28
abbrev zbx:Stmt:=top 29
abbrev zc7:Stmt:=top 30
end Pg
namespace Pg
open PySem PySem.Spec PyProof PyProof.Rows L2 VD EX
section
variable {P:Program}{w:World}{K:W.Frag}{mg:Str->Option Value}{base:Heap}{f g:Addr}{fd gd:FuncData}
def zaW (self:List D->Option D)(p_parts p_outer_place:D):Option D:=
 (Option.bind (some ([]:List D)) fun(x1:List D)=>(Option.bind (Option.bind (zoL [p_parts]) (zaL (fun(s2:List D) (d8:D)=>Option.bind (un2 d8) fun(y3:D×D)=>(Option.bind (dAdd p_outer_place (.tup [y3.1])) fun(x4:D)=>(Option.bind (appL s2 (.tup [x4,y3.2])) fun(x5:List D)=>(Option.bind (Option.bind (Option.bind (aC (dIx y3.2 (.int 5)) (aC (some x4) aN)) self) (extL x5)) fun(x6:List D)=>(some x6))))) x1)) fun(s2:List D)=>(Option.bind (some (.lst s2)) fun(r7:D)=>(some r7))))
def zbn (self:List D->Option D):List D->Option D:=c2 (zaW self)
def zau:Nat->List D->Option D
 | 0=>fun _=>none
 | n+1=>zbn (zau n)
theorem sc_placed_within:FnScope ["parts","outer_place","pairs","number","part","place"] ["parts","outer_place"] (zac zbm):=fsc
theorem zdi (F:Fun K "placed_within" "placed_within" zbm f fd)(B:Blt mg){n:Nat}{self:List D->Option D}(C_placed_within:Cal P w K mg base n "placed_within" ["parts","outer_place"] (spF K self))(G_PARTS:GlobD K mg "PARTS" (.int 5)):FnOk P w K mg base CX0 (n+1) f fd ["parts","outer_place"] (spF K (zbn self)):=
 zb5 F sc_placed_within c2_len fun cdv A outer s H E hr=>by
  have nd:=sc_placed_within.nd
  refine⟨_,(zad (vsO 2 nd (za5 zah)) (zad (zb3 (zlk B (zab (vv 0) zah)) (ze2 rfl (zaI (vgN 3 nd) (zaI (vgN 4 nd) zdy))) (zad (vsS 5 nd (zaq za6 zaA (vr 1) (VE.w (zgi (zab (vv 3) zah))))) (zad (zgl 2 (zgi (zab (vv 5) (zab (vv 4) zah)))) (zad (zne 2 (zaG (hk:=wan _) C_placed_within hr (zab (zan (vr 4) (VE.w (za9 G_PARTS))) (zab (vv 5) zah)))) (zaV [3,4,5] zas))))) (zet 2 (zak (zaF (vv 2)))))),zc4 ?_⟩;intro p_parts p_outer_place;unfold zaW;exact(zaj (ze5 rfl) fun x1=>(zaj (zhW (emb:=(fun(s2:List D)=>[.val p_parts,.val p_outer_place,.own 1 (.lst s2),.un,.un,.un])) rfl (fun _=>rfl) (fun _ _=>rfl) fun s2 y3=>(zaj (zay rfl) fun x4=>(zaj (zgo rfl) fun x5=>(zaj (znk rfl) fun x6=>(zaZ [3,4,5] (zbE fun _ h=>h)))))) fun s2=>(zgn 2 (zat fun _ _ h=>h))))
def zaD (p_sheet:D):Option D:=
 (Option.bind ((zau 8) [p_sheet,(.tup [])]) fun(r1:D)=>(some r1))
def zao:List D->Option D:=c1 zaD
theorem zdO:FnScope ["sheet"] ["sheet"] (zac zbw):=fsc
theorem zdP (F:Fun K "placed_parts" "placed_parts" zbw f fd)(B:Blt mg)(C_placed_within:Cal P w K mg base 8 "placed_within" ["parts","outer_place"] (spF K (zau 8))):FnOk P w K mg base CX0 (8+1) f fd ["sheet"] (spF K zao):=
 zb5 F zdO zd5 fun cdv A outer s H E hr=>by
  refine⟨_,(zak (zaF (zaG C_placed_within hr (zab (vv 0) (zab (zgi zah) zah))))),zgZ ?_⟩;intro p_sheet;unfold zaD;exact(zat fun _ _ h=>h)
def zcg (p_sheet:D):Option D:=
 (Option.bind (Option.bind (Option.bind (Option.bind (zao [p_sheet]) dSeq) (zbp (zca [.un,.un] (gT 2 (gCons' (gN 0) (gCons' (gN 1) gNil'))) tTrue (eVar 1)))) fun ds=>some (.lst ds)) fun(r1:D)=>(some r1))
def zaR:List D->Option D:=c1 zcg
theorem zfT:FnScope ["sheet"] ["sheet"] (zac zcf):=fsc
theorem zfU (F:Fun K "parts_of" "parts_of" zcf f fd)(B:Blt mg)(C_placed_parts:Cal P w K mg base 9 "placed_parts" ["sheet"] (spF K zao)):FnOk P w K mg base CX0 (9+1) f fd ["sheet"] (spF K zaR):=
 zb5 F zfT zd5 fun cdv A outer s H E hr=>by
  refine⟨_,(zak (zaF (VN.ve (vnC ["sheet"] zcf (NC:=["place","part"]) [none,none] (zbC (zaG C_placed_parts hr (zab (vv 0) zah))) ((ze2 (n:=2) rfl (zaI (vgc 0) (zaI (vgc 1) zdy)))) (zcy) ((vv 1)))))),zgZ ?_⟩;intro p_sheet;unfold zcg;exact(zat fun _ _ h=>h)
def zch (p_sheet:D):Option (RV×List D):=
 (Option.bind (Option.bind (Option.bind (zaR [p_sheet]) dSeq) (zbp (fun d1=>(Option.bind (dIx d1 (.int 0)) fun z=>some (some z))))) fun(r2:List D)=>(some ((.new 1 (.lst r2)),[.non])))
def zbJ:List D->Option (RV×List D):=g1 zch
theorem zfV:FnScope ["sheet"] ["sheet"] (zac zcc):=fsc
theorem zfW (F:Fun K "names_of" "names_of" zcc f fd)(B:Blt mg)(C_parts_of:Cal P w K mg base 10 "parts_of" ["sheet"] (spF K zaR))(G_NAME:GlobD K mg "NAME" (.int 0)):FnOk P w K mg base CX0 (10+1) f fd ["sheet"] (spG K [none] zbJ):=
 zc5 [none] F zfV rfl fun cdv A outer s H E hr=>by
  refine⟨_,(zak (zbD (vnC ["sheet"] zcc (NC:=["part"]) [none] (zbC (zaG C_parts_of hr (zab (vv 0) zah))) ((vgc 0)) (zcy) ((zan (vr 0) (VE.w (za9 G_NAME))))))),zoQ ?_⟩;intro p_sheet;unfold zch;exact(zc3 fun _ _ h=>h)
def zcW (p_sheet p_name:D):Option D:=
 (Option.bind (Option.bind (zaR [p_sheet]) dSeq) fun ds6=>Option.bind ((zbN (fun(s1:Unit) (d2:D)=>(Option.bind (Option.bind (Option.bind (dIx d2 (.int 0)) fun v4=>((dEqG false) v4 p_name)) dB) fun k3=>if k3 then(Option.bind (some d2) fun(r5:D)=>(some (Fl.ret r5:Fl (Unit) (D)))) else(some (Fl.nx ():Fl (Unit) (D))))) ()) ds6) (flK fun(s1:Unit)=>none))
def zbK:List D->Option D:=c2 zcW
theorem sc_part_of:FnScope ["sheet","name","part"] ["sheet","name"] (zac zcU):=fsc
theorem zg9 (F:Fun K "part_of" "part_of" zcU f fd)(B:Blt mg)(C_parts_of:Cal P w K mg base 10 "parts_of" ["sheet"] (spF K zaR))(G_NAME:GlobD K mg "NAME" (.int 0)):FnOk P w K mg base CX0 (10+1) f fd ["sheet","name"] (spF K zbK):=
 zb5 F sc_part_of c2_len fun cdv A outer s H E hr=>by
  have nd:=sc_part_of.nd
  refine⟨_,(zad (zb3 (zbC (zaG C_parts_of hr (zab (vv 0) zah))) (vgN 2 nd) (zad (zdg (za4 (zdE hr) (zbG false) (VE.w (zan (vr 2) (VE.w (za9 G_NAME)))) (vr 1) (zba _)) (zak (zaF (vv 2))) zas) (zaV [2] zas))) (zak zeu)),zc4 ?_⟩;intro p_sheet p_name;unfold zcW;exact(zdB (emb:=(fun(s1:Unit)=>[.val p_sheet,.val p_name,.un])) rfl (fun _=>rfl) (fun s1 d2=>(zbu (zat fun _ _ h=>h) (zcO (zaZ [2] (zbE fun _ h=>h))))) fun s1=>(zhU rfl))
def zcX (p_sheet p_name:D):Option D:=
 (Option.bind (Option.bind (Option.bind (zaR [p_sheet]) dSeq) (zaL (fun(s1:Unit) (d2:D)=>(Option.bind (Option.bind (Option.bind (dIx d2 (.int 0)) fun v4=>((dEqG false) v4 p_name)) dB) fun k3=>if k3 then none else some ())) ())) fun(s1:Unit)=>(Option.bind (rz "NoPart" "name" zfQ p_name) fun(r5:D)=>(some r5)))
def za8:List D->Option D:=VD.c2 zcX
theorem zfh (F:Fun K "part_of" "part_of" zcU f fd)(B:Blt mg)(C_parts_of:Cal P w K mg base 10 "parts_of" ["sheet"] (spF K zaR))(G_NAME:GlobD K mg "NAME" (.int 0))(X_NoPart:XCl P w K mg "NoPart" "name" zfQ):FnOk P w K mg base (CXE P w) (10+1) f fd ["sheet","name"] (spX K za8):=
 zdK F sc_part_of VD.c2_len fun cdv A outer s H E hr L=>by
  have nd:=sc_part_of.nd
  refine⟨_,(zcb (zkG (zbC (zaG C_parts_of hr (zab (vv 0) zah))) (vgN 2 nd) (zcb (znP (za4 (zdE hr) (zbG false) (VE.w (zan (vr 2) (VE.w (za9 G_NAME)))) (vr 1) (zba _)) (zeC zgz) zeB) (zgA [2] zeB))) (zeC (zgB X_NoPart hr L (vv 1)))),zc4 ?_⟩;intro p_sheet p_name;unfold zcX;exact(zaj (zey (emb:=(fun(s1:Unit)=>[.val p_sheet,.val p_name,.un])) rfl (fun _=>rfl) fun s1 d2=>(zbu (zhU rfl) (zcO (zaZ [2] (zbE fun _ h=>h))))) fun s1=>(zat fun _ _ h=>h))
def zci (p_sheet p_name:D):Option D:=
 (Option.bind (Option.bind (zao [p_sheet]) dSeq) fun ds7=>Option.bind ((zbN (fun(s1:Unit) (d6:D)=>Option.bind (un2 d6) fun(y2:D×D)=>(Option.bind (Option.bind (Option.bind (dIx y2.2 (.int 0)) fun v4=>((dEqG false) v4 p_name)) dB) fun k3=>if k3 then(Option.bind (some y2.1) fun(r5:D)=>(some (Fl.ret r5:Fl (Unit) (D)))) else(some (Fl.nx ():Fl (Unit) (D))))) ()) ds7) (flK fun(s1:Unit)=>none))
def zbL:List D->Option D:=c2 zci
theorem sc_place_of:FnScope ["sheet","name","place","part"] ["sheet","name"] (zac zcd):=fsc
theorem zfX (F:Fun K "place_of" "place_of" zcd f fd)(B:Blt mg)(C_placed_parts:Cal P w K mg base 9 "placed_parts" ["sheet"] (spF K zao))(G_NAME:GlobD K mg "NAME" (.int 0)):FnOk P w K mg base CX0 (10+1) f fd ["sheet","name"] (spF K zbL):=
 zb5 F sc_place_of c2_len fun cdv A outer s H E hr=>by
  have nd:=sc_place_of.nd
  refine⟨_,(zad (zb3 (zbC (zaG C_placed_parts hr (zab (vv 0) zah))) (ze2 rfl (zaI (vgN 2 nd) (zaI (vgN 3 nd) zdy))) (zad (zdg (za4 (zdE hr) (zbG false) (VE.w (zan (vr 3) (VE.w (za9 G_NAME)))) (vr 1) (zba _)) (zak (zaF (vv 2))) zas) (zaV [2,3] zas))) (zak zeu)),zc4 ?_⟩;intro p_sheet p_name;unfold zci;exact(zlD (emb:=(fun(s1:Unit)=>[.val p_sheet,.val p_name,.un,.un])) rfl (fun _=>rfl) (fun _ _=>rfl) (fun s1 y2=>(zbu (zat fun _ _ h=>h) (zcO (zaZ [2,3] (zbE fun _ h=>h))))) fun s1=>(zhU rfl))
def zcj (p_sheet p_name:D):Option D:=
 (Option.bind (Option.bind (Option.bind (zao [p_sheet]) dSeq) (zaL (fun(s1:Unit) (d6:D)=>Option.bind (un2 d6) fun(y2:D×D)=>(Option.bind (Option.bind (Option.bind (dIx y2.2 (.int 0)) fun v4=>((dEqG false) v4 p_name)) dB) fun k3=>if k3 then none else some ())) ())) fun(s1:Unit)=>(Option.bind (rz "NoPart" "name" zfQ p_name) fun(r5:D)=>(some r5)))
def za0:List D->Option D:=VD.c2 zcj
theorem zeD (F:Fun K "place_of" "place_of" zcd f fd)(B:Blt mg)(C_placed_parts:Cal P w K mg base 9 "placed_parts" ["sheet"] (spF K zao))(G_NAME:GlobD K mg "NAME" (.int 0))(X_NoPart:XCl P w K mg "NoPart" "name" zfQ):FnOk P w K mg base (CXE P w) (10+1) f fd ["sheet","name"] (spX K za0):=
 zdK F sc_place_of VD.c2_len fun cdv A outer s H E hr L=>by
  have nd:=sc_place_of.nd
  refine⟨_,(zcb (zkG (zbC (zaG C_placed_parts hr (zab (vv 0) zah))) (ze2 rfl (zaI (vgN 2 nd) (zaI (vgN 3 nd) zdy))) (zcb (znP (za4 (zdE hr) (zbG false) (VE.w (zan (vr 3) (VE.w (za9 G_NAME)))) (vr 1) (zba _)) (zeC zgz) zeB) (zgA [2,3] zeB))) (zeC (zgB X_NoPart hr L (vv 1)))),zc4 ?_⟩;intro p_sheet p_name;unfold zcj;exact(zaj (zhW (emb:=(fun(s1:Unit)=>[.val p_sheet,.val p_name,.un,.un])) rfl (fun _=>rfl) (fun _ _=>rfl) fun s1 y2=>(zbu (zhU rfl) (zcO (zaZ [2,3] (zbE fun _ h=>h))))) fun s1=>(zat fun _ _ h=>h))
def zck (p_sheet p_name:D):Option D:=
 (Option.bind (some ([]:List D)) fun(x1:List D)=>(Option.bind (some p_sheet) fun(x2:D)=>(Option.bind (Option.bind (Option.bind (zbL [p_sheet,p_name]) dSeq) (zaL (fun(s3:List D×D) (d4:D)=>(Option.bind (Option.bind (dIx s3.2 d4) (appL s3.1)) fun(x5:List D)=>(Option.bind (Option.bind (dIx s3.2 d4) fun v6=>(dIx v6 (.int 5))) fun(x7:D)=>(some (x5,x7))))) (x1,x2))) fun(s3:List D×D)=>(Option.bind (some (.lst s3.1)) fun(r8:D)=>(some r8)))))
def zaJ:List D->Option D:=c2 zck
theorem sc_chain_of:FnScope ["sheet","name","chain","parts","number"] ["sheet","name"] (zac zce):=fsc
theorem zfY (F:Fun K "chain_of" "chain_of" zce f fd)(B:Blt mg)(C_place_of:Cal P w K mg base 11 "place_of" ["sheet","name"] (spF K zbL))(G_PARTS:GlobD K mg "PARTS" (.int 5)):FnOk P w K mg base CX0 (11+1) f fd ["sheet","name"] (spF K zaJ):=
 zb5 F sc_chain_of c2_len fun cdv A outer s H E hr=>by
  have nd:=sc_chain_of.nd
  refine⟨_,(zad (vsO 2 nd (za5 zah)) (zad (vsS 3 nd (vv 0)) (zad (zb3 (zbC (zaG C_place_of hr (zab (vv 0) (zab (vv 1) zah)))) (vgN 4 nd) (zad (zgl 2 (zan (vr 3) (vr 4))) (zad (vsS 3 nd (zan (VE.w (zan (vr 3) (vr 4))) (VE.w (za9 G_PARTS)))) (zaV [4] zas)))) (zet 2 (zak (zaF (vv 2))))))),zc4 ?_⟩;intro p_sheet p_name;unfold zck;exact(zaj (ze5 rfl) fun x1=>(zaj (zay rfl) fun x2=>(zaj (zey (emb:=(fun(s3:List D×D)=>[.val p_sheet,.val p_name,.own 1 (.lst s3.1),.val s3.2,.un])) rfl (fun _=>rfl) fun s3 d4=>(zaj (zgo rfl) fun x5=>(zaj (zay rfl) fun x7=>(zaZ [4] (zbE fun _ h=>h))))) fun s3=>(zgn 2 (zat fun _ _ h=>h)))))
def zea (p_sheet p_name:D):Option D:=
 (Option.bind (some ([]:List D)) fun(x1:List D)=>(Option.bind (some p_sheet) fun(x2:D)=>(Option.bind (za0 [p_sheet,p_name]) fun(r8:D)=>(some r8))))
def zaS:List D->Option D:=VD.c2 zea
theorem zeE (F:Fun K "chain_of" "chain_of" zce f fd)(B:Blt mg)(X_place_of:CalX P w K mg base 11 "place_of" ["sheet","name"] (spX K za0)):FnOk P w K mg base (CXE P w) (11+1) f fd ["sheet","name"] (spX K zaS):=
 zdK F sc_chain_of VD.c2_len fun cdv A outer s H E hr L=>by
  have nd:=sc_chain_of.nd
  refine⟨_,(zcb (znO (vsO 2 nd (za5 zah))) (zcb (znO (vsS 3 nd (vv 0))) (zfe (zlZ (zdJ X_place_of hr (zab (vv 0) (zab (vv 1) zah))) L)))),zc4 ?_⟩;intro p_sheet p_name;unfold zea;exact(zaj (ze5 rfl) fun x1=>(zaj (zay rfl) fun x2=>(ziu (zat fun _ _ h=>h))))
def zbd (p_sheet p_name:D):Option D:=
 (Option.bind (zaJ [p_sheet,p_name]) fun(x1:D)=>(Option.bind (Option.bind (Option.bind (Option.bind (bLen [x1]) fun v3=>((dEqG false) v3 (.int 1))) dB) fun k2=>if k2 then(some p_sheet) else(Option.bind (Option.bind (dNeg (.int 2)) fun v4=>(dIx x1 v4)) fun v5=>(dIx v5 (.int 5)))) fun(r6:D)=>(some r6)))
def zbe:List D->Option D:=c2 zbd
theorem sc_level_parts:FnScope ["sheet","name","chain"] ["sheet","name"] (zac zbc):=fsc
theorem zd0 (F:Fun K "level_parts" "level_parts" zbc f fd)(B:Blt mg)(C_chain_of:Cal P w K mg base 12 "chain_of" ["sheet","name"] (spF K zaJ))(G_PARTS:GlobD K mg "PARTS" (.int 5)):FnOk P w K mg base CX0 (12+1) f fd ["sheet","name"] (spF K zbe):=
 zb5 F sc_level_parts c2_len fun cdv A outer s H E hr=>by
  have nd:=sc_level_parts.nd
  refine⟨_,(zad (vsS 2 nd (zaG C_chain_of hr (zab (vv 0) (zab (vv 1) zah)))) (zak (zaF (zmZ (za4 (zdE hr) (zbG false) (VE.w (ve_b zcJ zeZ B boot_len (zbb (vr 2) zb2))) (VE.w zae) (zba _)) (vv 0) (zan (VE.w (zan (vr 2) (VE.w (zhK zae)))) (VE.w (za9 G_PARTS))))))),zc4 ?_⟩;intro p_sheet p_name;unfold zbd;exact(zaj (zay rfl) fun x1=>(zat fun _ _ h=>h))
def zcY (p_sheet p_name:D):Option D:=
 (Option.bind (zaS [p_sheet,p_name]) fun(r8:D)=>(some r8))
def zaX:List D->Option D:=VD.c2 zcY
theorem zdj (F:Fun K "level_parts" "level_parts" zbc f fd)(B:Blt mg)(X_chain_of:CalX P w K mg base 12 "chain_of" ["sheet","name"] (spX K zaS)):FnOk P w K mg base (CXE P w) (12+1) f fd ["sheet","name"] (spX K zaX):=
 zdK F sc_level_parts VD.c2_len fun cdv A outer s H E hr L=>by
  have nd:=sc_level_parts.nd
  refine⟨_,(zfe (zir 2 nd (zdJ X_chain_of hr (zab (vv 0) (zab (vv 1) zah))) L)),zc4 ?_⟩;intro p_sheet p_name;unfold zcY;exact(ziu (zat fun _ _ h=>h))
def zdq (p_sheet p_name:D):Option (RV×List D):=
 (Option.bind (Option.bind (Option.bind (Option.bind (zaJ [p_sheet,p_name]) fun v1=>(Option.bind (Option.bind (dNeg (.int 1)) fun d=>Option.bind (dInt d) fun i=>some (some i)) fun v2=>(dSl v1 none v2))) dSeq) (zbp (fun d3=>(Option.bind (dIx d3 (.int 0)) fun z=>some (some z))))) fun(r4:List D)=>(some ((.new 1 (.lst r4)),[.non,.non])))
def zcl:List D->Option (RV×List D):=g2 zdq
theorem zfi:FnScope ["sheet","name"] ["sheet","name"] (zac zcV):=fsc
theorem zix (F:Fun K "around" "around" zcV f fd)(B:Blt mg)(C_chain_of:Cal P w K mg base 12 "chain_of" ["sheet","name"] (spF K zaJ))(G_NAME:GlobD K mg "NAME" (.int 0)):FnOk P w K mg base CX0 (12+1) f fd ["sheet","name"] (spG K [none,none] zcl):=
 zc5 [none,none] F zfi rfl fun cdv A outer s H E hr=>by
  refine⟨_,(zak (zbD (vnC ["sheet","name"] zcV (NC:=["part"]) [none] (zbC (zes (VE.w (zaG C_chain_of hr (zab (vv 0) (zab (vv 1) zah)))) zfJ (zfK (zhK zae)))) ((vgc 0)) (zcy) ((zan (vr 0) (VE.w (za9 G_NAME))))))),zg0 ?_⟩;intro p_sheet p_name;unfold zdq;exact(zc3 fun _ _ h=>h)
def zgD (p_sheet p_name:D):Option D:=
 (Option.bind (zaS [p_sheet,p_name]) fun(r8:D)=>(some r8))
def zdr:List D->Option D:=VD.c2 zgD
theorem zfZ (F:Fun K "around" "around" zcV f fd)(B:Blt mg)(X_chain_of:CalX P w K mg base 12 "chain_of" ["sheet","name"] (spX K zaS)):FnOk P w K mg base (CXE P w) (12+1) f fd ["sheet","name"] (spX K zdr):=
 zdK F zfi VD.c2_len fun cdv A outer s H E hr L=>by
  refine⟨_,(zfe (ziq (ziw (zkI (zdJ X_chain_of hr (zab (vv 0) (zab (vv 1) zah))))) L)),zc4 ?_⟩;intro p_sheet p_name;unfold zgD;exact(ziu (zat fun _ _ h=>h))
def zcm (p_sheet p_name:D):Option (RV×List D):=
 (Option.bind (Option.bind (Option.bind (zbe [p_sheet,p_name]) dSeq) (zbp (fun d1=>(Option.bind (dIx d1 (.int 0)) fun z=>some (some z))))) fun(r2:List D)=>(some ((.new 1 (.lst r2)),[.non,.non])))
def zbh:List D->Option (RV×List D):=g2 zcm
theorem zdQ:FnScope ["sheet","name"] ["sheet","name"] (zac zbH):=fsc
theorem zf0 (F:Fun K "level_of" "level_of" zbH f fd)(B:Blt mg)(C_level_parts:Cal P w K mg base 13 "level_parts" ["sheet","name"] (spF K zbe))(G_NAME:GlobD K mg "NAME" (.int 0)):FnOk P w K mg base CX0 (13+1) f fd ["sheet","name"] (spG K [none,none] zbh):=
 zc5 [none,none] F zdQ rfl fun cdv A outer s H E hr=>by
  refine⟨_,(zak (zbD (vnC ["sheet","name"] zbH (NC:=["part"]) [none] (zbC (zaG C_level_parts hr (zab (vv 0) (zab (vv 1) zah)))) ((vgc 0)) (zcy) ((zan (vr 0) (VE.w (za9 G_NAME))))))),zg0 ?_⟩;intro p_sheet p_name;unfold zcm;exact(zc3 fun _ _ h=>h)
def zeb (p_sheet p_name:D):Option D:=
 (Option.bind (zaX [p_sheet,p_name]) fun(r8:D)=>(some r8))
def zcn:List D->Option D:=VD.c2 zeb
theorem zeF (F:Fun K "level_of" "level_of" zbH f fd)(B:Blt mg)(X_level_parts:CalX P w K mg base 13 "level_parts" ["sheet","name"] (spX K zaX)):FnOk P w K mg base (CXE P w) (13+1) f fd ["sheet","name"] (spX K zcn):=
 zdK F zdQ VD.c2_len fun cdv A outer s H E hr L=>by
  refine⟨_,(zfe (ziq (ziw (zdJ X_level_parts hr (zab (vv 0) (zab (vv 1) zah)))) L)),zc4 ?_⟩;intro p_sheet p_name;unfold zeb;exact(ziu (zat fun _ _ h=>h))
def zbi (p_sheet p_name:D):Option (RV×List D):=
 (Option.bind (Option.bind (Option.bind ((dIs false) p_name D.non) dB) fun k1=>if k1 then(some p_sheet) else(Option.bind (zbK [p_sheet,p_name]) fun v2=>(dIx v2 (.int 5)))) fun(x3:D)=>(Option.bind (Option.bind (dSeq x3) (zbp (fun d4=>(Option.bind (dIx d4 (.int 0)) fun z=>some (some z))))) fun(r5:List D)=>(some ((.new 1 (.lst r5)),[.non,.non]))))
def zaz:List D->Option (RV×List D):=g2 zbi
theorem sc_inner_of:FnScope ["sheet","name","parts"] ["sheet","name"] (zac zbI):=fsc
theorem zf1 (F:Fun K "inner_of" "inner_of" zbI f fd)(B:Blt mg)(C_part_of:Cal P w K mg base 11 "part_of" ["sheet","name"] (spF K zbK))(G_PARTS:GlobD K mg "PARTS" (.int 5))(G_NAME:GlobD K mg "NAME" (.int 0)):FnOk P w K mg base CX0 (11+1) f fd ["sheet","name"] (spG K [none,none] zaz):=
 zc5 [none,none] F sc_inner_of rfl fun cdv A outer s H E hr=>by
  have nd:=sc_inner_of.nd
  refine⟨_,(zad (vsS 2 nd (zmZ (za4 zke zm6 (vr 1) (VE.w zeX) (zba _)) (vv 0) (zan (VE.w (zaG C_part_of hr (zab (vv 0) (zab (vv 1) zah)))) (VE.w (za9 G_PARTS))))) (zak (zbD (vnC ["sheet","name","parts"] zbI (NC:=["part"]) [none] (zbC (vv 2)) ((vgc 0)) (zcy) ((zan (vr 0) (VE.w (za9 G_NAME)))))))),zg0 ?_⟩;intro p_sheet p_name;unfold zbi;exact(zaj (zay rfl) fun x3=>(zc3 fun _ _ h=>h))
def zec (p_sheet p_name:D):Option D:=
 (Option.bind (Option.bind (Option.bind ((dIs false) p_name D.non) dB) fun k=>if k then none else za8 [p_sheet,p_name]) fun(r8:D)=>(some r8))
def zco:List D->Option D:=VD.c2 zec
theorem zeG (F:Fun K "inner_of" "inner_of" zbI f fd)(B:Blt mg)(X_part_of:CalX P w K mg base 11 "part_of" ["sheet","name"] (spX K za8)):FnOk P w K mg base (CXE P w) (11+1) f fd ["sheet","name"] (spX K zco):=
 zdK F sc_inner_of VD.c2_len fun cdv A outer s H E hr L=>by
  have nd:=sc_inner_of.nd
  refine⟨_,(zfe (zir 2 nd (znW (za4 zke zm6 (vr 1) (VE.w zeX) (zba _)) (zkI (zdJ X_part_of hr (zab (vv 0) (zab (vv 1) zah))))) L)),zc4 ?_⟩;intro p_sheet p_name;unfold zec;exact(ziu (zat fun _ _ h=>h))
def zbR (S:Scr)(pLscript pLk:D):Option (RV×List D):=
 (Option.bind (Option.bind (Option.bind ((lenS S) pLscript) fun v2=>((dEqG false) v2 (.int 0))) dB) fun k1=>if k1 then(Option.bind (some ([(.int 0),(.int 0),pLk]:List D)) fun(r3:List D)=>(some ((.new 1 (.lst r3)),[.non,.non]))) else(Option.bind (Option.bind (aC (Option.bind (Option.bind ((lenS S) pLscript) fun v4=>(dMod pLk v4)) fun v5=>(ixS S pLscript v5)) (aC (some (.int 0)) (aC (some pLk) aN))) mkLs) fun(r6:List D)=>(some ((.new 1 (.lst r6)),[.non,.non]))))
def zaQ (S:Scr):List D->Option (RV×List D):=g2 (zbR S)
theorem zfj:FnScope ["_law_script","_law_k"] ["_law_script","_law_k"] (zac zcE):=fsc
theorem zfk (F:Fun K "_law_feed" "_law_feed" zcE f fd)(B:Blt mg){Pc:Hp->Prop}(pe:Pers Pc){S:Scr}(hSq:∀H,Pc H->SqF K S H):FnOk P w K mg base CX0 (0+1) f fd ["_law_script","_law_k"] (pcS Pc (spG K [none,none] (zaQ S))):=
 zlL pe [none,none] F zfj rfl fun cdv A outer s H E hcv hr hPc hp=>by
  have hS:Prs _ (SqF K S):=fun p σ H s I=>hSq _ (hp p σ H s I)
  refine⟨_,(zad (zdg (za4 (zdE hr) (zbG false) (VE.w (zh9 hS B (vv 0))) (VE.w zae) (zba _)) (zak (zbD (za5 (zab zae (zab zae (zab (vv 1) zah)))))) zas) (zak (zbD (za5 (zab (zny hS (vv 0) (zaq zbz zbB (vr 1) (VE.w (zh9 hS B (vv 0))))) (zab zae (zab (vv 1) zah))))))),zg0 ?_⟩;intro pLscript pLk;unfold zbR;exact(zbu (zc3 fun _ _ h=>h) (zcO (zc3 fun _ _ h=>h)))
def zbS (pLfeed_here pLmany:D):Option (RV×List D):=
 (Option.bind (Option.bind (Option.bind (dIx pLfeed_here (.int 1)) fun v1=>(dAdd v1 (.int 1))) fun v2=>(zjB pLfeed_here (.int 1) v2)) fun(x3:D)=>(Option.bind (Option.bind (Option.bind (dIx x3 (.int 0)) fun v5=>(Option.bind (dPow (.int 10) (.int 18)) fun v6=>(dGe v5 v6))) dB) fun k4=>if k4 then(Option.bind (Option.bind (dIx x3 (.int 0)) fun v7=>(dMod v7 pLmany)) fun(x8:D)=>(Option.bind (Option.bind (Option.bind (dIx x3 (.int 0)) fun v9=>(dFdiv v9 pLmany)) fun v10=>(zjB x3 (.int 0) v10)) fun(x11:D)=>(Option.bind (some x8) fun(r12:D)=>(some (.told r12,[x11,.non]))))) else(Option.bind (Option.bind (Option.bind (Option.bind (dIx x3 (.int 0)) fun v13=>(dMod v13 (.int 1000003))) fun v15=>(Option.bind (Option.bind (dIx x3 (.int 2)) fun v14=>(dMul (.int 7919) v14)) fun v16=>(dAdd v15 v16))) fun v18=>(Option.bind (Option.bind (dIx x3 (.int 1)) fun v17=>(dMul (.int 104729) v17)) fun v19=>(dAdd v18 v19))) fun(x20:D)=>(Option.bind (Option.bind (dMul x20 (.int 48271)) fun v21=>(dMod v21 (.int 2147483647))) fun(x22:D)=>(Option.bind (Option.bind (Option.bind (Option.bind (Option.bind (dMod x22 (.int 65521)) fun v23=>(Option.bind (dIx x3 (.int 1)) fun v24=>(dAdd v23 v24))) fun v25=>(dMul x22 v25)) fun v26=>(dMod v26 (.int 2147483629))) fun v27=>(dMod v27 pLmany)) fun(r28:D)=>(some (.told r28,[x3,.non])))))))
def zai:List D->Option (RV×List D):=g2 zbS
theorem scLnext:FnScope ["_law_feed_here","_law_many","_law_digit","_law_mixed"] ["_law_feed_here","_law_many"] (zac zcF):=fsc
theorem zfl (F:Fun K "_law_next" "_law_next" zcF f fd)(B:Blt mg):FnOk P w K mg base CX0 (0+1) f fd ["_law_feed_here","_law_many"] (spG K [some 1,none] zai):=
 zc5 [some 1,none] F scLnext rfl fun cdv A outer s H E hr=>by
  have nd:=scLnext.nd
  refine⟨_,(zad (zhT 0 (VE.x (zaq za6 zaA (VE.w (zan (vr 0) (VE.w zae))) (VE.w zae))) zae) (zad (zdg (za4 zou zoE (VE.w (zan (vr 0) (VE.w zae))) (VE.w (zaq zmA zm4 (VE.w zae) (VE.w zae))) (zba _)) (zad (vsS 2 nd (zaq zbz zbB (VE.w (zan (vr 0) (VE.w zae))) (vr 1))) (zad (zhT 0 (VE.x (zaq zej zer (VE.w (zan (vr 0) (VE.w zae))) (vr 1))) zae) (zak (zaF (vv 2))))) zas) (zad (vsS 3 nd (zaq za6 zaA (VE.w (zaq za6 zaA (VE.w (zaq zbz zbB (VE.w (zan (vr 0) (VE.w zae))) (VE.w zae))) (VE.w (zaq zeY zdd (VE.w zae) (VE.w (zan (vr 0) (VE.w zae))))))) (VE.w (zaq zeY zdd (VE.w zae) (VE.w (zan (vr 0) (VE.w zae))))))) (zad (vsS 3 nd (zaq zbz zbB (VE.w (zaq zeY zdd (vr 3) (VE.w zae))) (VE.w zae))) (zak (zaF (zaq zbz zbB (VE.w (zaq zbz zbB (VE.w (zaq zeY zdd (vr 3) (VE.w (zaq za6 zaA (VE.w (zaq zbz zbB (vr 3) (VE.w zae))) (VE.w (zan (vr 0) (VE.w zae))))))) (VE.w zae))) (vr 1)))))))),zg0 ?_⟩;intro pLfeed_here pLmany;unfold zbS;exact(zaj (zgt rfl) fun x3=>(zbu (zaj (zay rfl) fun x8=>(zaj (zgt rfl) fun x11=>(zat fun _ _ h=>h))) (zcO (zaj (zay rfl) fun x20=>(zaj (zay rfl) fun x22=>(zat fun _ _ h=>h))))))
def zbT (pLstyle pLk:D):Option D:=
 (Option.bind (some (.str "abcdefghijklmnopqrstuvwxyz")) fun(x1:D)=>(Option.bind (Option.bind (Option.bind (dIx pLstyle (.int 0)) fun v3=>((dEqG false) v3 (.int 0))) dB) fun k2=>if k2 then(Option.bind (Option.bind (Option.bind (Option.bind (Option.bind (dIx pLstyle (.int 1)) fun v4=>(Option.bind (dFdiv pLk (.int 8)) fun v5=>(dAdd v4 v5))) fun v6=>(dMod v6 (.int 26))) fun v7=>(dIx x1 v7)) fun v9=>(Option.bind (Option.bind (dMod pLk (.int 8)) fun v8=>(dAdd (.int 1) v8)) fun v10=>(dMul v9 v10))) fun(r11:D)=>(some r11)) else(Option.bind (Option.bind (Option.bind (dIx pLstyle (.int 0)) fun v13=>((dEqG false) v13 (.int 1))) dB) fun k12=>if k12 then(Option.bind (Option.bind (Option.bind (Option.bind (Option.bind (dIx pLstyle (.int 1)) fun v14=>(dAdd v14 pLk)) fun v15=>(dMod v15 (.int 26))) fun v16=>(dIx x1 v16)) fun v20=>(Option.bind (Option.bind (Option.bind (dFdiv pLk (.int 26)) fun v17=>(dAdd (.int 1) v17)) fun v18=>(Option.bind (dIx pLstyle (.int 2)) fun v19=>(dAdd v18 v19))) fun v21=>(dMul v20 v21))) fun(r22:D)=>(some r22)) else(Option.bind (Option.bind (dIx pLstyle (.int 4)) fun v23=>(dIx x1 v23)) fun(x24:D)=>(Option.bind (Option.bind (Option.bind (Option.bind (Option.bind (dIx pLstyle (.int 1)) fun v25=>(dAdd v25 pLk)) fun v26=>(dMod v26 (.int 26))) fun v27=>(dIx x1 v27)) fun v32=>(Option.bind (Option.bind (Option.bind (Option.bind (dIx pLstyle (.int 1)) fun v28=>(Option.bind (dFdiv pLk (.int 26)) fun v29=>(dAdd v28 v29))) fun v30=>(dMod v30 (.int 26))) fun v31=>(dIx x1 v31)) fun v33=>(dAdd v32 v33))) fun(x34:D)=>(Option.bind (Option.bind (dIx pLstyle (.int 3)) fun v36=>(Option.bind (Option.bind (dIx pLstyle (.int 2)) fun v35=>(dAdd v35 (.int 1))) fun v37=>(dMod v36 v37))) fun(x38:D)=>(Option.bind (Option.bind (Option.bind (dMul x24 x38) fun v39=>(dAdd v39 x34)) fun v42=>(Option.bind (Option.bind (Option.bind (dIx pLstyle (.int 2)) fun v40=>(dSub v40 x38)) fun v41=>(dMul x24 v41)) fun v43=>(dAdd v42 v43))) fun(r44:D)=>(some r44))))))))
def zbU:List D->Option D:=c2 zbT
theorem scLname:FnScope ["_law_style","_law_k","_law_letters","_law_rest","_law_told","_law_left"] ["_law_style","_law_k"] (zac zcG):=fsc
theorem zfm (F:Fun K "_law_name" "_law_name" zcG f fd)(B:Blt mg):FnOk P w K mg base CX0 (1+1) f fd ["_law_style","_law_k"] (spF K zbU):=
 zb5 F scLname c2_len fun cdv A outer s H E hr=>by
  have nd:=scLname.nd
  refine⟨_,(zad (vsS 2 nd zb0) (zad (zdg (za4 (zdE hr) (zbG false) (VE.w (zan (vr 0) (VE.w zae))) (VE.w zae) (zba _)) (zak (zaF (zaq zeY zdd (VE.w (zan (vr 2) (VE.w (zaq zbz zbB (VE.w (zaq za6 zaA (VE.w (zan (vr 0) (VE.w zae))) (VE.w (zaq zej zer (vr 1) (VE.w zae))))) (VE.w zae))))) (VE.w (zaq za6 zaA (VE.w zae) (VE.w (zaq zbz zbB (vr 1) (VE.w zae)))))))) zas) (zad (zdg (za4 (zdE hr) (zbG false) (VE.w (zan (vr 0) (VE.w zae))) (VE.w zae) (zba _)) (zak (zaF (zaq zeY zdd (VE.w (zan (vr 2) (VE.w (zaq zbz zbB (VE.w (zaq za6 zaA (VE.w (zan (vr 0) (VE.w zae))) (vr 1))) (VE.w zae))))) (VE.w (zaq za6 zaA (VE.w (zaq za6 zaA (VE.w zae) (VE.w (zaq zej zer (vr 1) (VE.w zae))))) (VE.w (zan (vr 0) (VE.w zae)))))))) zas) (zad (vsS 3 nd (zan (vr 2) (VE.w (zan (vr 0) (VE.w zae))))) (zad (vsS 4 nd (zaq za6 zaA (VE.w (zan (vr 2) (VE.w (zaq zbz zbB (VE.w (zaq za6 zaA (VE.w (zan (vr 0) (VE.w zae))) (vr 1))) (VE.w zae))))) (VE.w (zan (vr 2) (VE.w (zaq zbz zbB (VE.w (zaq za6 zaA (VE.w (zan (vr 0) (VE.w zae))) (VE.w (zaq zej zer (vr 1) (VE.w zae))))) (VE.w zae))))))) (zad (vsS 5 nd (zaq zbz zbB (VE.w (zan (vr 0) (VE.w zae))) (VE.w (zaq za6 zaA (VE.w (zan (vr 0) (VE.w zae))) (VE.w zae))))) (zak (zaF (zaq za6 zaA (VE.w (zaq za6 zaA (VE.w (zaq zeY zdd (vr 3) (vr 5))) (vr 4))) (VE.w (zaq zeY zdd (vr 3) (VE.w (zaq zkd zkn (VE.w (zan (vr 0) (VE.w zae))) (vr 5)))))))))))))),zc4 ?_⟩;intro pLstyle pLk;unfold zbT;exact(zaj (zay rfl) fun x1=>(zbu (zat fun _ _ h=>h) (zcO (zbu (zat fun _ _ h=>h) (zcO (zaj (zay rfl) fun x24=>(zaj (zay rfl) fun x34=>(zaj (zay rfl) fun x38=>(zat fun _ _ h=>h)))))))))
def zbV (S:Scr)(pLscript:D):Option D:=
 (Option.bind (Option.bind (Option.bind (Option.bind (some [pLscript,(.int 0)]) fun d=>some (d,())) fun q2=>Option.bind ((zaQ S) q2.1) fun r3=>if q2.1.length=2 then some (r3.1,q2.2) else none) newD) fun(q4:D×Unit)=>(Option.bind (Option.bind (Option.bind (Option.bind (Option.bind (Option.bind (zcq zai ((fun(s:D) e=>e) q4.1) [q4.1,(.int 5)]) fun q6=>some (q6.1.d,q6.2)) fun q7=>Option.bind (Option.bind (Option.bind (zcq zai ((fun(s:D) e=>e) q7.2) [q7.2,(.int 13)]) fun q8=>some (q8.1.d,q8.2)) fun q9=>Option.bind (Option.bind (Option.bind (some (.int 40)) fun d=>some (d,q9.2)) fun q10=>Option.bind (some ([],q10.2)) fun q11=>some (q10.1::q11.1,q11.2)) fun q12=>some (q9.1::q12.1,q12.2)) fun q13=>some (q7.1::q13.1,q13.2)) fun q14=>Option.bind (mkLs q14.1) fun ds=>some (RV.new 1 (.lst ds),q14.2)) fun q15=>some (q15.1.d,q15.2)) fun q16=>Option.bind (Option.bind (Option.bind (some (.lst [(.int 0),(.int 1),(.int 1),(.int 1),(.int 1),(.int 1),(.int 1),(.int 2)])) fun d=>some (d,q16.2)) fun q17=>Option.bind (Option.bind (zcq zai ((fun(s:D) e=>e) q17.2) [q17.2,(.int 8)]) fun q18=>some (q18.1.d,q18.2)) fun q19=>Option.bind (dIx q17.1 q19.1) fun d20=>some (d20,q19.2)) fun q21=>Option.bind (dIx q16.1 q21.1) fun d22=>some (d22,q21.2)) fun(q23:D×D)=>(Option.bind (Option.bind (Option.bind (Option.bind (Option.bind (zcq zai ((fun(s:D) e=>e) q23.2) [q23.2,(.int 3)]) fun q25=>some (q25.1.d,q25.2)) fun q26=>Option.bind (Option.bind (Option.bind (zcq zai ((fun(s:D) e=>e) q26.2) [q26.2,(.int 26)]) fun q27=>some (q27.1.d,q27.2)) fun q28=>Option.bind (Option.bind (Option.bind (zcq zai ((fun(s:D) e=>e) q28.2) [q28.2,(.int 7)]) fun q29=>some (q29.1.d,q29.2)) fun q30=>Option.bind (Option.bind (Option.bind (zcq zai ((fun(s:D) e=>e) q30.2) [q30.2,(.int 7)]) fun q31=>some (q31.1.d,q31.2)) fun q32=>Option.bind (Option.bind (Option.bind (zcq zai ((fun(s:D) e=>e) q32.2) [q32.2,(.int 26)]) fun q33=>some (q33.1.d,q33.2)) fun q34=>Option.bind (some ([],q34.2)) fun q35=>some (q34.1::q35.1,q35.2)) fun q36=>some (q32.1::q36.1,q36.2)) fun q37=>some (q30.1::q37.1,q37.2)) fun q38=>some (q28.1::q38.1,q38.2)) fun q39=>some (q26.1::q39.1,q39.2)) fun q40=>Option.bind (mkLs q40.1) fun ds=>some (RV.new 1 (.lst ds),q40.2)) fun q41=>some (q41.1.d,q41.2)) fun(q42:D×D)=>(Option.bind (some ([]:List D)) fun(x43:List D)=>(Option.bind (dSub (.int 0) (.int 1)) fun(x44:D)=>(Option.bind (Option.bind (rngA [q23.1]) (zaL (fun(s45:D×List D×D) (d46:D)=>(Option.bind (Option.bind (Option.bind (Option.bind (aC (some pLscript) (aC (dAdd (.int 1) d46) aN)) fun d=>some (d,())) fun q48=>Option.bind ((zaQ S) q48.1) fun r49=>if q48.1.length=2 then some (r49.1,q48.2) else none) newD) fun(q50:D×Unit)=>(Option.bind (Option.bind (zlH zai [some 1,none] 0 1 (fun(s:D)=>s) (fun(s:D) e=>e) (Option.bind (Option.bind (Option.bind (Option.bind (aC (some (.int 5)) (aC (dAdd s45.2.2 (.int 2)) aN)) bMin) fun d=>some (d,q50.1)) fun q52=>Option.bind (some ([],q52.2)) fun q53=>some (some q52.1::q53.1,q53.2)) fun q54=>some (none::q54.1,q54.2))) fun q55=>some (q55.1.d,q55.2)) fun(q56:D×D)=>(Option.bind (Option.bind (Option.bind (some (.lst [(.str "free"),(.str "free"),(.str "shut"),(.str "hidden")])) fun d=>some (d,q56.2)) fun q58=>Option.bind (Option.bind (zcq zai ((fun(s:D) e=>e) q58.2) [q58.2,(.int 4)]) fun q59=>some (q59.1.d,q59.2)) fun q60=>Option.bind (dIx q58.1 q60.1) fun d61=>some (d61,q60.2)) fun(q62:D×D)=>(Option.bind (Option.bind (Option.bind (Option.bind (zcq zai ((fun(s:D) e=>e) q62.2) [q62.2,(.int 30)]) fun q64=>some (q64.1.d,q64.2)) fun q65=>Option.bind (Option.bind (Option.bind (zcq zai ((fun(s:D) e=>e) q65.2) [q65.2,(.int 30)]) fun q66=>some (q66.1.d,q66.2)) fun q67=>Option.bind (Option.bind (Option.bind (Option.bind (some (.int 1)) fun d=>some (d,q67.2)) fun q68=>Option.bind (Option.bind (zcq zai ((fun(s:D) e=>e) q68.2) [q68.2,(.int 9)]) fun q69=>some (q69.1.d,q69.2)) fun q70=>Option.bind (dAdd q68.1 q70.1) fun d71=>some (d71,q70.2)) fun q72=>Option.bind (Option.bind (Option.bind (Option.bind (some (.int 1)) fun d=>some (d,q72.2)) fun q73=>Option.bind (Option.bind (zcq zai ((fun(s:D) e=>e) q73.2) [q73.2,(.int 9)]) fun q74=>some (q74.1.d,q74.2)) fun q75=>Option.bind (dAdd q73.1 q75.1) fun d76=>some (d76,q75.2)) fun q77=>Option.bind (some ([],q77.2)) fun q78=>some (q77.1::q78.1,q78.2)) fun q79=>some (q72.1::q79.1,q79.2)) fun q80=>some (q67.1::q80.1,q80.2)) fun q81=>some (q65.1::q81.1,q81.2)) fun q82=>Option.bind (mkT q82.1) fun d83=>some (d83,q82.2)) fun(q84:D×D)=>(Option.bind (Option.bind (Option.bind (Option.bind (Option.bind (some q56.1) fun d=>some (d,q84.2)) fun q86=>Option.bind (Option.bind (Option.bind (zbU [q42.1,d46]) fun d=>some (d,q86.2)) fun q87=>Option.bind (Option.bind (Option.bind (some q84.1) fun d=>some (d,q87.2)) fun q88=>Option.bind (Option.bind (Option.bind (some q62.1) fun d=>some (d,q88.2)) fun q89=>Option.bind (Option.bind (Option.bind (zcq zai ((fun(s:D) e=>e) q89.2) [q89.2,(.int 3)]) fun q90=>some (q90.1.d,q90.2)) fun q91=>Option.bind (some ([],q91.2)) fun q92=>some (q91.1::q92.1,q92.2)) fun q93=>some (q89.1::q93.1,q93.2)) fun q94=>some (q88.1::q94.1,q94.2)) fun q95=>some (q87.1::q95.1,q95.2)) fun q96=>some (q86.1::q96.1,q96.2)) fun q97=>Option.bind (mkT q97.1) fun d98=>some (d98,q97.2)) fun q99=>Option.bind (appL ((fun _=>s45.2.1) q99.2) q99.1) fun ys=>some (ys,q99.2)) fun(q100:List D×D)=>(some (q100.2,q100.1,q56.1)))))))) (q42.2,x43,x44))) fun(s45:D×List D×D)=>(Option.bind (some (.lst s45.2.1)) fun(r101:D)=>(some r101))))))))
def zbo (S:Scr):List D->Option D:=c1 (zbV S)
theorem scLrows:FnScope ["_law_script","_law_feed_here","_law_many","_law_style","_law_rows_here","_law_deep","_law_k","_law_word","_law_box"] ["_law_script"] (zac zcH):=fsc
theorem zfn (F:Fun K "_law_rows" "_law_rows" zcH f fd)(B:Blt mg){Pc:Hp->Prop}(pe:Pers Pc){S:Scr}(CLfeed:Cal P w K mg base 1 "_law_feed" ["_law_script","_law_k"] (pcS Pc (spG K [none,none] (zaQ S))))(CLnext:Cal P w K mg base 1 "_law_next" ["_law_feed_here","_law_many"] (spG K [some 1,none] zai))(CLname:Cal P w K mg base 2 "_law_name" ["_law_style","_law_k"] (spF K zbU)):FnOk P w K mg base CX0 (4+1) f fd ["_law_script"] (pcS Pc (spF K (zbo S))):=
 zia pe F scLrows zd5 fun cdv A outer s H E hcv hr hPc hp=>by
  have nd:=scLrows.nd
  refine⟨_,(zad (zhS (i:=1) nd rfl (Or.inl rfl) (ze9 CLfeed hp hr (VA.x (zab (vv 0) (zab zae zah))))) (zad (zdA (i:=2) nd rfl (Or.inl rfl) (zlq (VR.x (zkv (zaw (VR.x (zaP 0 1 1 CLnext hr (zaO (zcB (VE.x zae) zaN)))) (zaw (VR.x (zaP 0 1 1 CLnext hr (zaO (zcB (VE.x zae) zaN)))) (zaw (VE.x zae) zew))))) (zlq (VE.x (VN.ve (za5 (zab zae (zab zae (zab zae (zab zae (zab zae (zab zae (zab zae (zab zae zah))))))))))) (VR.x (zaP 0 1 1 CLnext hr (zaO (zcB (VE.x zae) zaN))))))) (zad (zdA (i:=3) nd rfl (Or.inl rfl) (VR.x (zkv (zaw (VR.x (zaP 0 1 1 CLnext hr (zaO (zcB (VE.x zae) zaN)))) (zaw (VR.x (zaP 0 1 1 CLnext hr (zaO (zcB (VE.x zae) zaN)))) (zaw (VR.x (zaP 0 1 1 CLnext hr (zaO (zcB (VE.x zae) zaN)))) (zaw (VR.x (zaP 0 1 1 CLnext hr (zaO (zcB (VE.x zae) zaN)))) (zaw (VR.x (zaP 0 1 1 CLnext hr (zaO (zcB (VE.x zae) zaN)))) zew)))))))) (zad (vsO 4 nd (za5 zah)) (zad (vsS 5 nd (zaq zkd zkn (VE.w zae) (VE.w zae))) (zad (zb3 (za7 B (zab (vv 2) zah)) (vgN 6 nd) (zad (zhS (i:=1) nd rfl (Or.inl rfl) (ze9 CLfeed hp hr (VA.x (zab (vv 0) (zab (zaq za6 zaA (VE.w zae) (vr 6)) zah))))) (zad (zdA (i:=5) nd rfl (Or.inl rfl) (VR.x (zaP 0 1 1 CLnext hr (zaO (zcB (VE.x (ve_b (zhp rfl) zm8 B boot_min (zbb (VE.w zae) (zbb (VE.w (zaq za6 zaA (vr 5) (VE.w zae))) zb2)))) zaN))))) (zad (zdA (i:=7) nd rfl (Or.inl rfl) (zlq (VE.x (VN.ve (za5 (zab zb0 (zab zb0 (zab zb0 (zab zb0 zah))))))) (VR.x (zaP 0 1 1 CLnext hr (zaO (zcB (VE.x zae) zaN)))))) (zad (zdA (i:=8) nd rfl (Or.inl rfl) (zku (zaw (VR.x (zaP 0 1 1 CLnext hr (zaO (zcB (VE.x zae) zaN)))) (zaw (VR.x (zaP 0 1 1 CLnext hr (zaO (zcB (VE.x zae) zaN)))) (zaw (zng za6 zaA (VE.x zae) (VR.x (zaP 0 1 1 CLnext hr (zaO (zcB (VE.x zae) zaN))))) (zaw (zng za6 zaA (VE.x zae) (VR.x (zaP 0 1 1 CLnext hr (zaO (zcB (VE.x zae) zaN))))) zew)))))) (zad (zlt 4 (zku (zaw (VE.x (vv 5)) (zaw (VE.x (zaG CLname hr (zab (vv 3) (zab (vv 6) zah)))) (zaw (VE.x (vv 8)) (zaw (VE.x (vv 7)) (zaw (VR.x (zaP 0 1 1 CLnext hr (zaO (zcB (VE.x zae) zaN)))) zew))))))) (zaV [6,7,8] zas))))))) (zet 4 (zak (zaF (vv 4)))))))))),zgZ ?_⟩;intro pLscript;unfold zbV;exact(zaj (zib (emb:=(fun(s1:Unit)=>[.val pLscript,.un,.un,.un,.un,.un,.un,.un,.un])) (ze8 (zkE rfl)) fun _=>rfl) fun q4=>(zaj (zdF (emb:=(fun(s5:D)=>[.val pLscript,.own 1 s5,.un,.un,.un,.un,.un,.un,.un])) (zh2 (zb6 (zh4 (zap (zb6 (zax (put:=((fun(s:D) e=>e) q4.1)) (as:=[none,some (.int 5)]) (d:=q4.1) rfl rfl rfl fun _=>rfl)) fun q7=>(zap (zb6 (zax (put:=((fun(s:D) e=>e) q7.2)) (as:=[none,some (.int 13)]) (d:=q7.2) rfl rfl rfl fun _=>rfl)) fun q9=>(zap (zdY rfl) fun q10=>(zdn rfl)))))) fun q16=>(zh2 (zdY rfl) fun q17=>(zb6 (zax (put:=((fun(s:D) e=>e) q17.2)) (as:=[none,some (.int 8)]) (d:=q17.2) rfl rfl rfl fun _=>rfl)))) fun _=>rfl) fun q23=>(zaj (zdF (emb:=(fun(s24:D)=>[.val pLscript,.own 1 s24,.val q23.1,.un,.un,.un,.un,.un,.un])) (zb6 (zh4 (zap (zb6 (zax (put:=((fun(s:D) e=>e) q23.2)) (as:=[none,some (.int 3)]) (d:=q23.2) rfl rfl rfl fun _=>rfl)) fun q26=>(zap (zb6 (zax (put:=((fun(s:D) e=>e) q26.2)) (as:=[none,some (.int 26)]) (d:=q26.2) rfl rfl rfl fun _=>rfl)) fun q28=>(zap (zb6 (zax (put:=((fun(s:D) e=>e) q28.2)) (as:=[none,some (.int 7)]) (d:=q28.2) rfl rfl rfl fun _=>rfl)) fun q30=>(zap (zb6 (zax (put:=((fun(s:D) e=>e) q30.2)) (as:=[none,some (.int 7)]) (d:=q30.2) rfl rfl rfl fun _=>rfl)) fun q32=>(zap (zb6 (zax (put:=((fun(s:D) e=>e) q32.2)) (as:=[none,some (.int 26)]) (d:=q32.2) rfl rfl rfl fun _=>rfl)) fun q34=>(zdn rfl)))))))) fun _=>rfl) fun q42=>(zaj (ze5 rfl) fun x43=>(zaj (zay rfl) fun x44=>(zaj (zey (emb:=(fun(s45:D×List D×D)=>[.val pLscript,.own 1 s45.1,.val q23.1,.val q42.1,.own 1 (.lst s45.2.1),.val s45.2.2,.un,.un,.un])) rfl (fun _=>rfl) fun s45 d46=>(zaj (zib (emb:=(fun(s47:Unit)=>[.val pLscript,.own 1 s45.1,.val q23.1,.val q42.1,.own 1 (.lst s45.2.1),.val s45.2.2,.val d46,.un,.un])) (ze8 (zkE rfl)) fun _=>rfl) fun q50=>(zaj (zdF (emb:=(fun(s51:D)=>[.val pLscript,.own 1 s51,.val q23.1,.val q42.1,.own 1 (.lst s45.2.1),.val s45.2.2,.val d46,.un,.un])) (zb6 (zjv (get:=(fun(s:D)=>s)) (put:=(fun(s:D) e=>e)) (zju rfl (znr (zdY rfl) fun q52=>(zjt rfl))) (fun _=>rfl) fun _ _=>rfl)) fun _=>rfl) fun q56=>(zaj (zdF (emb:=(fun(s57:D)=>[.val pLscript,.own 1 s57,.val q23.1,.val q42.1,.own 1 (.lst s45.2.1),.val q56.1,.val d46,.un,.un])) (zh2 (zdY rfl) fun q58=>(zb6 (zax (put:=((fun(s:D) e=>e) q58.2)) (as:=[none,some (.int 4)]) (d:=q58.2) rfl rfl rfl fun _=>rfl))) fun _=>rfl) fun q62=>(zaj (zdF (emb:=(fun(s63:D)=>[.val pLscript,.own 1 s63,.val q23.1,.val q42.1,.own 1 (.lst s45.2.1),.val q56.1,.val d46,.val q62.1,.un])) (zh3 (zap (zb6 (zax (put:=((fun(s:D) e=>e) q62.2)) (as:=[none,some (.int 30)]) (d:=q62.2) rfl rfl rfl fun _=>rfl)) fun q65=>(zap (zb6 (zax (put:=((fun(s:D) e=>e) q65.2)) (as:=[none,some (.int 30)]) (d:=q65.2) rfl rfl rfl fun _=>rfl)) fun q67=>(zap (zh2 (zdY rfl) fun q68=>(zb6 (zax (put:=((fun(s:D) e=>e) q68.2)) (as:=[none,some (.int 9)]) (d:=q68.2) rfl rfl rfl fun _=>rfl))) fun q72=>(zap (zh2 (zdY rfl) fun q73=>(zb6 (zax (put:=((fun(s:D) e=>e) q73.2)) (as:=[none,some (.int 9)]) (d:=q73.2) rfl rfl rfl fun _=>rfl))) fun q77=>(zdn rfl)))))) fun _=>rfl) fun q84=>(zaj (zlI (emb:=(fun(s85:D)=>[.val pLscript,.own 1 s85,.val q23.1,.val q42.1,.own 1 (.lst s45.2.1),.val q56.1,.val d46,.val q62.1,.val q84.1])) (get:=(fun _=>s45.2.1)) rfl (zh3 (zap (zdY rfl) fun q86=>(zap (zdY rfl) fun q87=>(zap (zdY rfl) fun q88=>(zap (zdY rfl) fun q89=>(zap (zb6 (zax (put:=((fun(s:D) e=>e) q89.2)) (as:=[none,some (.int 3)]) (d:=q89.2) rfl rfl rfl fun _=>rfl)) fun q91=>(zdn rfl))))))) fun _=>rfl) fun q100=>(zaZ [6,7,8] (zbE fun _ h=>h)))))))) fun s45=>(zgn 4 (zat fun _ _ h=>h))))))))
def zbW (pLrows_here:D):Option D:=
 (Option.bind (some ()) fun(u1:Unit)=>(Option.bind (Option.bind (zoM [pLrows_here]) (zaL (fun(s2:List D) (d12:D)=>Option.bind (un5 d12) fun(y3:D×D×D×D×D)=>(Option.bind (Option.bind (aC (Option.bind (Option.bind (Option.bind (dAdd y3.1 (.int 1)) fun v4=>(ix2C s2 v4)) fun v5=>(Option.bind (dLst v5) fun ds=>some ds.reverse)) fun ds=>some (.lst ds)) aN) bTuple) fun(x6:D)=>(Option.bind (Option.bind (dAdd y3.1 (.int 1)) fun v7=>(zlM s2 [] v7)) fun(x8:List D)=>(Option.bind (zjA x8 y3.1 (.tup [y3.2.1,y3.2.2.1,y3.2.2.2.1,y3.2.2.2.2,D.non,x6])) fun(x9:List D)=>(some x9))))) [D.lst [],D.lst [],D.lst [],D.lst [],D.lst [],D.lst []])) fun(s2:List D)=>(Option.bind (Option.bind (aC (Option.bind (Option.bind (ix2C s2 (.int 0)) fun v10=>(Option.bind (dLst v10) fun ds=>some ds.reverse)) fun ds=>some (.lst ds)) aN) bTuple) fun(r11:D)=>(some r11))))
def zbX:List D->Option D:=c1 zbW
theorem scLhung:FnScope ["_law_rows_here","_law_waiting","_law_deep","_law_name_here","_law_box","_law_word","_law_rank","_law_parts"] ["_law_rows_here"] (zac zbP):=fsc
theorem zfo (F:Fun K "_law_hung" "_law_hung" zbP f fd)(B:Blt mg):FnOk P w K mg base CX0 (1+1) f fd ["_law_rows_here"] (spF K zbX):=
 zb5 F scLhung zd5 fun cdv A outer s H E hr=>by
  have nd:=scLhung.nd
  refine⟨_,(zad (zjn ["_law_rows_here","_law_waiting","_law_deep","_law_name_here","_law_box","_law_word","_law_rank","_law_parts"] zbP (i:=1) (NC:=["_law_deep"]) [none] nd rfl (Or.inl rfl) rfl (za7 B (zab zae zah)) (fun x h=>zbM h) rfl rfl rfl (by decide +kernel) (by decide +kernel) rfl (by decide +kernel) (by decide +kernel) rfl (by decide) (fun cl C s0 H0 ex pn=>(vgc 0)) (fun cl C s0 H0 ex pn=>(za5 zah))) (zad (zb3 (zlz B (zab (vv 0) zah)) (ze2 rfl (zaI (vgN 2 nd) (zaI (vgN 3 nd) (zaI (vgN 4 nd) (zaI (vgN 5 nd) (zaI (vgN 6 nd) zdy)))))) (zad (vsS 7 nd (zm1 zcK zgk B boot_tuple (zbb (VE.w (VN.ve (zko (zkx 1 (zaq za6 zaA (vr 2) (VE.w zae)))))) zb2))) (zad (zlx 1 (za5 zah) (zaq za6 zaA (vr 2) (VE.w zae))) (zad (zlv 1 (vv 2) (zgi (zab (vv 3) (zab (vv 4) (zab (vv 5) (zab (vv 6) (zab zeX (zab (vv 7) zah)))))))) (zaV [2,3,4,5,6,7] zas))))) (zak (zaF (zm1 zcK zgk B boot_tuple (zbb (VE.w (VN.ve (zko (zkx 1 zae)))) zb2)))))),zgZ ?_⟩;intro pLrows_here;unfold zbW;exact(zaj (zlF (n:=2) (x:=.lst [D.lst [],D.lst [],D.lst [],D.lst [],D.lst [],D.lst []]) rfl rfl) fun u1=>(zaj (zlP (emb:=(fun(s2:List D)=>[.val pLrows_here,.own 2 (.lst s2),.un,.un,.un,.un,.un,.un])) (emb2:=(fun(s2:List D) (y3:D×D×D×D×D)=>[.val pLrows_here,.own 2 (.lst s2),.val y3.1,.val y3.2.1,.val y3.2.2.1,.val y3.2.2.2.1,.val y3.2.2.2.2,.un])) rfl (fun _=>rfl) (fun _ _=>rfl) (fun _ _ _=>rfl) (fun _ _ _ _=>rfl) (fun _ _ _ _ _=>rfl) (fun _ _=>rfl) fun s2 y3=>(zaj (zay rfl) fun x6=>(zaj (zlN rfl) fun x8=>(zaj (zlO rfl) fun x9=>(zaZ [2,3,4,5,6,7] (zbE fun _ h=>h)))))) fun s2=>(zat fun _ _ h=>h)))
def zbf (pLrows_here:D):Option D:=
 (Option.bind (some ([]:List D)) fun(x1:List D)=>(Option.bind (some (.lst [])) fun(x2:D)=>(Option.bind (Option.bind (dSeq pLrows_here) (zaL (fun(s3:List D×D) (d4:D)=>(Option.bind (Option.bind (Option.bind (dIx d4 (.int 0)) fun d=>Option.bind (dInt d) fun i=>some (some i)) fun v5=>(dSl s3.2 none v5)) fun(x6:D)=>(Option.bind (appL s3.1 x6) fun(x7:List D)=>(Option.bind (Option.bind (Option.bind (Option.bind (aC (dIx d4 (.int 1)) aN) mkLs) fun ds=>some (.lst ds)) fun v8=>(dAdd x6 v8)) fun(x9:D)=>(some (x7,x9)))))) (x1,x2))) fun(s3:List D×D)=>(Option.bind (some (.lst s3.1)) fun(r10:D)=>(some r10)))))
def zbg:List D->Option D:=c1 zbf
theorem scLaheads:FnScope ["_law_rows_here","_law_aheads_here","_law_line","_law_row"] ["_law_rows_here"] (zac zbQ):=fsc
theorem zd1 (F:Fun K "_law_aheads" "_law_aheads" zbQ f fd)(B:Blt mg):FnOk P w K mg base CX0 (1+1) f fd ["_law_rows_here"] (spF K zbg):=
 zb5 F scLaheads zd5 fun cdv A outer s H E hr=>by
  have nd:=scLaheads.nd
  refine⟨_,(zad (vsO 1 nd (za5 zah)) (zad (vsS 2 nd (VN.ve (za5 zah))) (zad (zb3 (zbC (vv 0)) (vgN 3 nd) (zad (vsS 2 nd (zes (vr 2) zfJ (zfK (zan (vr 3) (VE.w zae))))) (zad (zgl 1 (vv 2)) (zad (vsS 2 nd (zaq za6 zaA (vr 2) (VE.w (VN.ve (za5 (zab (zan (vr 3) (VE.w zae)) zah)))))) (zaV [3] zas))))) (zet 1 (zak (zaF (vv 1))))))),zgZ ?_⟩;intro pLrows_here;unfold zbf;exact(zaj (ze5 rfl) fun x1=>(zaj (zay rfl) fun x2=>(zaj (zey (emb:=(fun(s3:List D×D)=>[.val pLrows_here,.own 1 (.lst s3.1),.val s3.2,.un])) rfl (fun _=>rfl) fun s3 d4=>(zaj (zay rfl) fun x6=>(zaj (zgo rfl) fun x7=>(zaj (zay rfl) fun x9=>(zaZ [3] (zbE fun _ h=>h)))))) fun s3=>(zgn 1 (zat fun _ _ h=>h)))))
def zbY (pLfound pLdue:D):Option (RV×List D):=
 (Option.bind (Option.bind (Option.bind (Option.bind ((isD "list") pLfound) dTru) fun k3=>some (!k3)) fun k2=>if k2 then some true else(Option.bind ((dEqG true) pLfound pLdue) dB)) fun k1=>if k1 then(Option.bind (some (.bl false)) fun(r4:D)=>(some (.told r4,[pLfound,.non]))) else(Option.bind (appD pLfound (.str "zz")) fun(x5:D)=>(Option.bind (some (.bl true)) fun(r6:D)=>(some (.told r6,[x5,.non])))))
def zal:List D->Option (RV×List D):=g2 zbY
theorem zfp:FnScope ["_law_found","_law_due"] ["_law_found","_law_due"] (zac zcI):=fsc
theorem zfq (F:Fun K "_law_list" "_law_list" zcI f fd)(B:Blt mg)(K_list:Kit K "list"):FnOk P w K mg base CX0 (0+1) f fd ["_law_found","_law_due"] (spG K [some 1,none] zal):=
 zc5 [some 1,none] F zfp rfl fun cdv A outer s H E hr=>by
  refine⟨_,(zad (zdg (VP.t (zja (zdc (zdb (VE.w (zlp K_list B boot_list (vr 0))))) (zhJ (za4 (znp hr) (zbG true) (vr 0) (vr 1) (zba _))))) (zak (zaF zfI)) zas) (zad (zgl 0 zb0) (zak (zaF zfI)))),zg0 ?_⟩;intro pLfound pLdue;unfold zbY;exact(zbu (zat fun _ _ h=>h) (zcO (zaj (zlQ rfl) fun x5=>(zat fun _ _ h=>h))))
theorem scLrefused:FnScope ["_law_sheet","_law_name_here","_law_way","_law_got","e"] ["_law_sheet","_law_name_here","_law_way"] (zac zbx):=fsc
def zjT (pLname x:D):Option D:=
 Option.bind (Option.bind (Option.bind (Option.bind (isX [("NoPart",true)] x) dTru) fun k2=>some (!k2)) fun k3=>if k3 then some true else(Option.bind (Option.bind (Option.bind (isX [("NoPart",true)] x) dTru) fun k5=>some (!k5)) fun k6=>if k6 then some true else(Option.bind (Option.bind (zjO "name" ["NoPart"] x) fun v7=>((dEqG true) v7 pLname)) dB))) fun k4=>if k4 then(Option.bind (some (.bl false)) fun(r5:D)=>(some r5)) else(Option.bind (Option.bind (Option.bind (isX [("NoPart",false)] x) dB) fun k9=>some (.bl (!k9))) fun(r8:D)=>(some r8))
def zl5 (p_sheet p_name p_way:D):Option D:=
 Option.bind (some p_way) fun d=>Option.bind (dInt d) fun i=>Option.bind (atI [zdr,zco,zcn,za8,za0] i) fun F=>Option.bind (aC (some p_sheet) (aC (some p_name) aN)) F
def za3 (p_sheet p_name p_way:D):Option D:=
 (Option.bind (some D.non) fun(x1:D)=>(Option.bind (match zl5 p_sheet p_name p_way with | some x=>if zdL ["NoPart"] x then(Option.bind (some x) fun(x9:D)=>some x9) else none | none=>none) fun(x10:D)=>zjT p_name x10))
def zaM:List D->Option D:=VD.c3 za3
theorem zdR {c0 c1 c2 c3 c4:Addr}(F:Fun K "_law_refused" "_law_refused" zbx f fd)(B:Blt mg)(X_around:CalX P w K mg base 13 "around" ["sheet","name"] (spX K zdr))(X_inner_of:CalX P w K mg base 12 "inner_of" ["sheet","name"] (spX K zco))(X_level_of:CalX P w K mg base 14 "level_of" ["sheet","name"] (spX K zcn))(X_part_of:CalX P w K mg base 11 "part_of" ["sheet","name"] (spX K za8))(X_place_of:CalX P w K mg base 11 "place_of" ["sheet","name"] (spX K za0))(TY:XTy K mg "FocusError" ["NoPart"])
 (m0:mg "NoPart"=some (.ref c0)) (m1:mg "NoSheet"=some (.ref c1)) (m2:mg "NotOpen"=some (.ref c2)) (m3:mg "NoWay"=some (.ref c3)) (m4:mg "Twice"=some (.ref c4)) (m5:mg "ValueError"=none)
 (i0:XInst K (.ref c0) [("NoPart",true)]) (i1:XInstT K [c1,c2,c3,c4] [("NoPart",false)]) (i2:XInst K (.type "ValueError") [("NoPart",true)]) (XF:XFld K "name" ["NoPart"]):FnOk P w K mg base CX0 (15+1) f fd ["_law_sheet","_law_name_here","_law_way"] (spF K zaM):=
 zb5 F scLrefused VD.c3_len fun cdv A outer s H E hr=>by
  have nd:=scLrefused.nd
  refine⟨_,(zad (vsS 3 nd zeX) (zad (znR 4 TY nd (zjN (znX (k:=14) (zcT X_around (zcT X_inner_of (zcT X_level_of (zcT X_part_of (zcT X_place_of zl1))))) hr (vv 2) (zab (vv 0) (zab (vv 1) zah)))) (zak zeu) (fun ev=>zak (vsS 3 nd (vv 4)))) (zad (zdg (VP.t (zja (zdc (zdb (VE.w (znT i0 m0 B (vv 3))))) (zja (zdc (zdb (VE.w (znU i2 m5 zdM B (vv 3))))) (zhJ (za4 (znp hr) (zbG true) (VE.w (zlY XF (vv 3))) (vr 1) (zba _)))))) (zak (zaF zfI)) zas) (zak (zaF (zmY (zlX i1 B (vv 3) (zcS m1 (zcS m2 (zcS m3 (zcS m4 zis))))))))))),zoP ?_⟩;intro p_sheet p_name p_way;unfold za3;exact(zaj (zay rfl) fun x1=>(zaj (znS (emb:=fun x10=>[.val p_sheet,.val p_name,.val p_way,.val x10,.un]) rfl (fun x=>(znj (zay rfl) fun _ _ h=>h)) (fun _=>zhU rfl)) fun x10=>(by unfold zjT;exact(zbu (zat fun _ _ h=>h) (zcO (zat fun _ _ h=>h))))))
def zjU (S:Scr)(pLscript:D):Option D:=
 (Option.bind ((zbo S) [pLscript]) fun(x1:D)=>(Option.bind (zbX [x1]) fun(x2:D)=>(Option.bind (Option.bind (Option.bind (dSeq x1) (zbp (fun d3=>(Option.bind (dIx d3 (.int 1)) fun z=>some (some z))))) fun ds=>some (.lst ds)) fun(x4:D)=>(Option.bind (zbg [x1]) fun(x5:D)=>(Option.bind (Option.bind (Option.bind (Option.bind (aC (bLen [x1]) aN) rngA) (zbp (fun d6=>(Option.bind (Option.bind (Option.bind (dIx x5 d6) fun v8=>((dEqG false) v8 (.lst []))) dB) fun k7=>if k7 then(Option.bind (dIx x4 d6) fun z=>some (some z)) else some none)))) fun ds=>some (.lst ds)) fun(x9:D)=>(Option.bind (rngA [(.int 2)]) fun ds57=>Option.bind ((zbN (fun(s10:Unit) (d11:D)=>(Option.bind (Option.bind (Option.bind (Option.bind (Option.bind (some [x2,D.non]) fun l=>if l.length=2 then Option.bind (zaz l) zcC else none) fun l=>(Option.bind (some x9) fun v14=>(Option.bind (zal [.lst l,v14]) zbl))) dTru) fun k13=>some (!k13)) fun k12=>if k12 then(Option.bind (some (.bl false)) fun(r15:D)=>(some (Fl.ret r15:Fl (Unit) (D)))) else(Option.bind (Option.bind (aC (bLen [x1]) aN) rngA) fun ds41=>Option.bind ((zbN (fun(s16:Unit) (d17:D)=>(Option.bind (Option.bind (Option.bind (Option.bind (aC (bLen [x1]) aN) rngA) (zbp (fun d18=>(Option.bind (Option.bind (Option.bind (dIx x5 d18) fun v22=>(Option.bind (Option.bind (dIx x5 d17) fun v20=>(Option.bind (Option.bind (Option.bind (aC (dIx x4 d17) aN) mkLs) fun ds=>some (.lst ds)) fun v21=>(dAdd v20 v21))) fun v23=>((dEqG false) v22 v23))) dB) fun k19=>if k19 then(Option.bind (dIx x4 d18) fun z=>some (some z)) else some none)))) fun ds=>some (.lst ds)) fun(x24:D)=>(Option.bind (Option.bind (Option.bind (Option.bind (aC (bLen [x1]) aN) rngA) (zbp (fun d25=>(Option.bind (Option.bind (Option.bind (dIx x5 d25) fun v27=>(Option.bind (dIx x5 d17) fun v28=>((dEqG false) v27 v28))) dB) fun k26=>if k26 then(Option.bind (dIx x4 d25) fun z=>some (some z)) else some none)))) fun ds=>some (.lst ds)) fun(x29:D)=>(Option.bind (Option.bind (Option.bind (Option.bind (Option.bind (Option.bind (aC (some x2) (aC (dIx x4 d17) aN)) fun l=>if l.length=2 then Option.bind (zcl l) zcC else none) fun l=>(Option.bind (dIx x5 d17) fun v35=>(Option.bind (zal [.lst l,v35]) zbl))) dTru) fun k34=>some (!k34)) fun k33=>if k33 then some true else(Option.bind (Option.bind (Option.bind (Option.bind (aC (some x2) (aC (dIx x4 d17) aN)) fun l=>if l.length=2 then Option.bind (zaz l) zcC else none) fun l=>(Option.bind (some x24) fun v32=>(Option.bind (zal [.lst l,v32]) zbl))) dTru) fun k31=>some (!k31))) fun k30=>if k30 then(Option.bind (some (.bl false)) fun(r36:D)=>(some (Fl.ret (Fl.ret r36:Fl (Unit) (D)):Fl (Unit) (Fl (Unit) (D))))) else(Option.bind (Option.bind (Option.bind (Option.bind (Option.bind (aC (some x2) (aC (dIx x4 d17) aN)) fun l=>if l.length=2 then Option.bind (zbh l) zcC else none) fun l=>(Option.bind (some x29) fun v39=>(Option.bind (zal [.lst l,v39]) zbl))) dTru) fun k38=>some (!k38)) fun k37=>if k37 then(Option.bind (some (.bl false)) fun(r40:D)=>(some (Fl.ret (Fl.ret r40:Fl (Unit) (D)):Fl (Unit) (Fl (Unit) (D))))) else(some (Fl.nx ():Fl (Unit) (Fl (Unit) (D))))))))) ()) ds41) (flK fun(s16:Unit)=>(some (Fl.nx ():Fl (Unit) (D))))))) ()) ds57) (flK fun(s10:Unit)=>(Option.bind (Option.bind (dAdd x4 (.lst [(.str "a")])) fun v42=>(dIx v42 (.int 0))) fun(x43:D)=>(Option.bind (rngA [(.int 5)]) fun ds56=>Option.bind ((zbN (fun(s44:Unit) (d45:D)=>(Option.bind (Option.bind (Option.bind (Option.bind (aC (dAdd x43 (.str "q")) (aC (Option.bind (Option.bind (dNeg (.int 1)) fun d=>Option.bind (dInt d) fun i=>some (some i)) fun v46=>(dSl x43 none v46)) (aC (some (.str "")) (aC (some (.str "A")) (aC (some (.str "a b")) (aC (some (.str "-")) aN)))))) mkLs) fun ds=>some (.lst ds)) dSeq) fun ds53=>Option.bind ((zbN (fun(s47:Unit) (d48:D)=>(Option.bind (Option.bind (Option.bind ((dInG true) d48 x4) dB) fun k51=>if k51 then(Option.bind (Option.bind (zaM [x2,d48,d45]) dTru) fun k50=>some (!k50)) else some false) fun k49=>if k49 then(Option.bind (some (.bl false)) fun(r52:D)=>(some (Fl.ret (Fl.ret r52:Fl (Unit) (D)):Fl (Unit) (Fl (Unit) (D))))) else(some (Fl.nx ():Fl (Unit) (Fl (Unit) (D)))))) ()) ds53) (flK fun(s47:Unit)=>(some (Fl.nx ():Fl (Unit) (D)))))) ()) ds56) (flK fun(s44:Unit)=>(Option.bind (Option.bind (Option.bind (some [x2]) fun l=>if l.length=1 then Option.bind (zbJ l) zcC else none) fun l=>(Option.bind (some x4) fun v54=>(Option.bind (zal [.lst l,v54]) zbl))) fun(r55:D)=>(some r55))))))))))))
def znY (S:Scr):List D->Option D:=c1 (zjU S)
theorem sc_law:FnScope ["_law_script","_law_rows_here","_law_sheet","_law_names","_law_aheads_here","_law_outer","_law_turn","_law_k","_law_inner","_law_level","_law_odd","_law_way","_law_name_here"] ["_law_script"] (zac zc7):=fsc
theorem znZ (F:Fun K "law" "law" zc7 f fd)(B:Blt mg){Pc:Hp->Prop}(pe:Pers Pc){S:Scr}(CLrows:Cal P w K mg base 5 "_law_rows" ["_law_script"] (pcS Pc (spF K (zbo S))))(CLhung:Cal P w K mg base 2 "_law_hung" ["_law_rows_here"] (spF K zbX))(CLaheads:Cal P w K mg base 2 "_law_aheads" ["_law_rows_here"] (spF K zbg))(CLlist:Cal P w K mg base 1 "_law_list" ["_law_found","_law_due"] (spG K [some 1,none] zal))(C_inner_of:Cal P w K mg base 12 "inner_of" ["sheet","name"] (spG K [none,none] zaz))(C_around:Cal P w K mg base 13 "around" ["sheet","name"] (spG K [none,none] zcl))(C_level_of:Cal P w K mg base 14 "level_of" ["sheet","name"] (spG K [none,none] zbh))(CLrefused:Cal P w K mg base 16 "_law_refused" ["_law_sheet","_law_name_here","_law_way"] (spF K zaM))(C_names_of:Cal P w K mg base 11 "names_of" ["sheet"] (spG K [none] zbJ)):FnOk P w K mg base CX0 (17+1) f fd ["_law_script"] (pcS Pc (spF K (znY S))):=
 zia pe F sc_law zd5 fun cdv A outer s H E hcv hr hPc hp=>by
  have nd:=sc_law.nd
  refine⟨_,(zad (vsS 1 nd (zjy CLrows hp hr (zab (vv 0) zah))) (zad (vsS 2 nd (zaG CLhung hr (zab (vv 1) zah))) (zad (vsS 3 nd (VN.ve (vnC ["_law_script","_law_rows_here","_law_sheet","_law_names","_law_aheads_here","_law_outer","_law_turn","_law_k","_law_inner","_law_level","_law_odd","_law_way","_law_name_here"] zc7 (NC:=["_law_row"]) [none] (zbC (vv 1)) ((vgc 0)) (zcy) ((zan (vr 0) (VE.w zae)))))) (zad (vsS 4 nd (zaG CLaheads hr (zab (vv 1) zah))) (zad (And.left (zfN ["_law_script","_law_rows_here","_law_sheet","_law_names","_law_aheads_here","_law_outer","_law_turn","_law_k","_law_inner","_law_level","_law_odd","_law_way","_law_name_here"] zc7 (i:=5) (NC:=["_law_k","_law_names","_law_aheads_here"]) [none,some 3,some 4] nd rfl (Or.inl rfl) rfl (za7 B (zab (ve_b zcJ zeZ B boot_len (zbb (vr 1) zb2)) zah)) (fun x h=>zbM h) rfl rfl rfl (by decide +kernel) (by decide +kernel) rfl (by decide +kernel) (by decide +kernel) rfl (by decide) (fun cl C s0 H0 ex pn=>(vgc 0)) (fun cl C s0 H0 ex pn=>(zfL (za4 (zdE hr) (zbG false) (VE.w (zan (vrC 2 rfl rfl rfl rfl) (vr 0))) (VE.w (VN.ve (za5 zah))) (zba _)))) (fun cl C s0 H0 ex pn=>(zan (vrC 1 rfl rfl rfl rfl) (vr 0))))) (zad (zb3 (za7 B (zab zae zah)) (vgN 6 nd) (zad (zdg (zdc (zdb (VE.w (zcQ CLlist hr (zb8 C_inner_of hr (zab (vv 2) (zab zeX zah))) (vv 5))))) (zak (zaF zfI)) zas) (zad (zb3 (za7 B (zab (ve_b zcJ zeZ B boot_len (zbb (vr 1) zb2)) zah)) (vgN 7 nd) (zad (And.left (zfN ["_law_script","_law_rows_here","_law_sheet","_law_names","_law_aheads_here","_law_outer","_law_turn","_law_k","_law_inner","_law_level","_law_odd","_law_way","_law_name_here"] zc7 (i:=8) (NC:=["_law_j","_law_names","_law_aheads_here","_law_k"]) [none,some 3,some 4,some 7] nd rfl (Or.inl rfl) rfl (za7 B (zab (ve_b zcJ zeZ B boot_len (zbb (vr 1) zb2)) zah)) (fun x h=>zbM h) rfl rfl rfl (by decide +kernel) (by decide +kernel) rfl (by decide +kernel) (by decide +kernel) rfl (by decide) (fun cl C s0 H0 ex pn=>(vgc 0)) (fun cl C s0 H0 ex pn=>(zfL (za4 (zdE hr) (zbG false) (VE.w (zan (vrC 2 rfl rfl rfl rfl) (vr 0))) (VE.w (zaq za6 zaA (VE.w (zan (vrC 2 rfl rfl rfl rfl) (vrC 3 rfl rfl rfl rfl))) (VE.w (VN.ve (za5 (zab (zan (vrC 1 rfl rfl rfl rfl) (vrC 3 rfl rfl rfl rfl)) zah)))))) (zba _)))) (fun cl C s0 H0 ex pn=>(zan (vrC 1 rfl rfl rfl rfl) (vr 0))))) (zad (And.left (zfN ["_law_script","_law_rows_here","_law_sheet","_law_names","_law_aheads_here","_law_outer","_law_turn","_law_k","_law_inner","_law_level","_law_odd","_law_way","_law_name_here"] zc7 (i:=9) (NC:=["_law_j","_law_names","_law_aheads_here","_law_k"]) [none,some 3,some 4,some 7] nd rfl (Or.inl rfl) rfl (za7 B (zab (ve_b zcJ zeZ B boot_len (zbb (vr 1) zb2)) zah)) (fun x h=>zbM h) rfl rfl rfl (by decide +kernel) (by decide +kernel) rfl (by decide +kernel) (by decide +kernel) rfl (by decide) (fun cl C s0 H0 ex pn=>(vgc 0)) (fun cl C s0 H0 ex pn=>(zfL (za4 (zdE hr) (zbG false) (VE.w (zan (vrC 2 rfl rfl rfl rfl) (vr 0))) (VE.w (zan (vrC 2 rfl rfl rfl rfl) (vrC 3 rfl rfl rfl rfl))) (zba _)))) (fun cl C s0 H0 ex pn=>(zan (vrC 1 rfl rfl rfl rfl) (vr 0))))) (zad (zdg (VP.t (zja (zdc (zdb (VE.w (zcQ CLlist hr (zb8 C_around hr (zab (vv 2) (zab (zan (vr 3) (vr 7)) zah))) (zan (vr 4) (vr 7)))))) (zhJ (zdc (zdb (VE.w (zcQ CLlist hr (zb8 C_inner_of hr (zab (vv 2) (zab (zan (vr 3) (vr 7)) zah))) (vv 8)))))))) (zak (zaF zfI)) zas) (zad (zdg (zdc (zdb (VE.w (zcQ CLlist hr (zb8 C_level_of hr (zab (vv 2) (zab (zan (vr 3) (vr 7)) zah))) (vv 9))))) (zak (zaF zfI)) zas) (zaV [7,8,9] zas)))))) (zaV [6,7,8,9] zas)))) (zad (vsS 10 nd (zan (VE.w (zaq za6 zaA (vr 3) (VE.w (VN.ve (za5 (zab zb0 zah)))))) (VE.w zae))) (zad (zb3 (za7 B (zab zae zah)) (vgN 11 nd) (zad (zb3 (zbC (VN.ve (za5 (zab (zaq za6 zaA (vr 10) (VE.w zb0)) (zab (zes (vr 10) zfJ (zfK (zhK zae))) (zab zb0 (zab zb0 (zab zb0 (zab zb0 zah))))))))) (vgN 12 nd) (zad (zdg (VP.t (zmX (za4 (zjs hr) (znq true) (vr 12) (vr 3) rfl) (zli (zdc (zdb (VE.w (zaG CLrefused hr (zab (vv 2) (zab (vv 12) (zab (vv 11) zah)))))))))) (zak (zaF zfI)) zas) (zaV [12] zas))) (zaV [11,12] zas))) (zak (zaF (zcQ CLlist hr (zb8 C_names_of hr (zab (vv 2) zah)) (vv 3)))))))))))),zgZ ?_⟩;intro pLscript;unfold zjU;exact(zaj (zay rfl) fun x1=>(zaj (zay rfl) fun x2=>(zaj (zay rfl) fun x4=>(zaj (zay rfl) fun x5=>(zaj (zay rfl) fun x9=>(zdB (emb:=(fun(s10:Unit)=>[.val pLscript,.val x1,.val x2,.val x4,.val x5,.val x9,.un,.un,.un,.un,.un,.un,.un])) rfl (fun _=>rfl) (fun s10 d11=>(zbu (zat fun _ _ h=>h) (zcO (zdB (emb:=(fun(s16:Unit)=>[.val pLscript,.val x1,.val x2,.val x4,.val x5,.val x9,.val d11,.un,.un,.un,.un,.un,.un])) rfl (fun _=>rfl) (fun s16 d17=>(zaj (zay rfl) fun x24=>(zaj (zay rfl) fun x29=>(zbu (zat fun _ _ h=>h) (zcO (zbu (zat fun _ _ h=>h) (zcO (zaZ [7,8,9] (zbE fun _ h=>h))))))))) fun s16=>(zaZ [6,7,8,9] (zbE fun _ h=>h)))))) fun s10=>(zaj (zay rfl) fun x43=>(zdB (emb:=(fun(s44:Unit)=>[.val pLscript,.val x1,.val x2,.val x4,.val x5,.val x9,.un,.un,.un,.un,.val x43,.un,.un])) rfl (fun _=>rfl) (fun s44 d45=>(zdB (emb:=(fun(s47:Unit)=>[.val pLscript,.val x1,.val x2,.val x4,.val x5,.val x9,.un,.un,.un,.un,.val x43,.val d45,.un])) rfl (fun _=>rfl) (fun s47 d48=>(zbu (zat fun _ _ h=>h) (zcO (zaZ [12] (zbE fun _ h=>h))))) fun s47=>(zaZ [11,12] (zbE fun _ h=>h)))) fun s44=>(zat fun _ _ h=>h)))))))))
end
end Pg
namespace Pg
open PySem PyProof PyProof.Rows L2 VD GM GB
def frS (w:Str):Bool:=decide (w = "free")
theorem zby (x:Itm)(dp:Nat)(inn:List D):dIx (part x dp inn) (.int 0)=some (.str x.nm)/\dIx (part x dp inn) (.int 2)=some (.str x.wd)/\dIx (part x dp inn) (.int 3)=some (.int x.rk)/\dIx (part x dp inn) (.int 5)=some (.tup inn):=
 ⟨zav (j:=0) rfl,zav (j:=2) rfl,zav (j:=3) rfl,zav (j:=5) rfl⟩
theorem ziy {fr:Str->Bool}:∀{n:Nat}{ds:List D},Ok n ds->∀d∈ot fr (n+1) ds,∃x dp inn,d=part x dp inn
 | 0,ds,o,d,h=>by rw[show ds = [] from o] at h;cases h
 | n+1,ds,o,d,h=>by
   obtain⟨y,hy,hd⟩:=List.mem_flatMap.mp (show d∈List.flatMap _ ds from h);obtain⟨x,dp,inn,rfl,oi⟩:=o y hy;have hd:d∈(if fr x.wd then part x dp inn::ot fr (n+1) inn else[]):=hd
   split at hd
   ·rcases wag.mp hd with rfl | hd
    ·exact⟨_,_,_,rfl⟩
    ·exact ziy oi d hd
   ·cases hd
def innD:D->List D
 | .tup [_,_,_,_,_,.tup l]=>l
 | _=>[]
def plI (rc:List D->List D->List D->List (List D×List D))(pre ch:List D):Nat->List D->List (List D×List D)
 | _,[]=>[]
 | i,d::ds=>(pre++[.int (i:Int)],ch++[d])::(rc (innD d) (pre++[.int (i:Int)]) (ch++[d])++plI rc pre ch (i+1) ds)
theorem zds (rc:List D->List D->List D->List (List D×List D))(pre ch:List D)(b:Nat)(x:Itm)(dp:Nat)(inn es:List D):plI rc pre ch b (part x dp inn::es)=(pre++[.int (b:Int)],ch++[part x dp inn])::(rc inn (pre++[.int (b:Int)]) (ch++[part x dp inn])++plI rc pre ch (b+1) es):=rfl
def pl:Nat->List D->List D->List D->List (List D×List D)
 | 0,_,_,_=>[]
 | n+1,ds,pre,ch=>plI (pl n) pre ch 0 ds
def zbq (c:List D):D:=c.getLast?.getD .non
theorem zaK (c:List D)(d:D):zbq (c++[d])=d:=by unfold zbq;simp
def ent (q:List D×List D):D:=.tup [.tup q.1,zbq q.2]
theorem zl6 {pre:List D}{d:D}(h:pre.length<=100):dAdd (.tup pre) (.tup [d])=some (.tup (pre++[d])):=by
 rw[dAdd,if_neg (by simp)];unfold mkT;rw[if_pos (wai (by simp;omega:_<=101) (by decide))]
theorem zn0 {xs es:List D}(h:xs.length+es.length<=1000):extL xs (.lst es)=some (xs++es):=by
 show(if(xs++es).length<=lim then _ else _)=_
 rw[if_pos (wai (by rw[was];omega:_<=1000) (by decide))]
theorem ac2 (a b:D):aC (some a) (aC (some b) aN)=some [a,b]:=rfl
theorem zl7 {S:Type}(f:S->D->Option S)(s:S)(d:D)(ds:List D):zaL f s (d::ds)=(f s d).bind fun s=>zaL f s ds:=rfl
theorem zfr:∀{n:Nat}{ds pre ch:List D},Ok n ds->(pl (n+1) ds pre ch).length<=1000->pre.length+n<=100->zau (n+1) [.tup ds,.tup pre]=some (.lst ((pl (n+1) ds pre ch).map ent)):=by
 intro n;induction n with
 | zero=>intro ds pre ch o _ _;rw[show ds = [] from o];rfl
 | succ n ih=>
   intro ds pre ch o hl hp;show zaW (zau (n+1)) (.tup ds) (.tup pre)=_
   unfold zaW;rw[zOB];show Option.bind (Option.bind (some (ze0 ds)) _) _=_
   rw[zOB];generalize hf:(fun(s2:List D) (d8:D)=>Option.bind (un2 d8) _)=f;have stp:∀(acc:List D) (i:Nat) (x:Itm) (dp:Nat) (inn:List D),Ok n inn->acc.length+1+(pl (n+1) inn (pre++[.int (i:Int)]) (ch++[part x dp inn])).length<=1000->
    f acc (.tup [.int (i:Int),part x dp inn])=some (acc++ent (pre++[.int (i:Int)],ch++[part x dp inn])::(pl (n+1) inn (pre++[.int (i:Int)]) (ch++[part x dp inn])).map ent):=by
    intro acc i x dp inn oi ha;rw[<-hf];show Option.bind (dAdd (.tup pre) (.tup [.int (i:Int)])) _=_
    rw[zl6 (by omega),zOB,zdH (waV (by omega:_<=1000) (by decide)),zOB,(zby x dp inn).2.2.2,ac2,zOB,ih (ch:=ch++[part x dp inn]) oi (by omega) (by simp;omega),zOB,zn0 (by simp;omega),zOB];unfold ent;rw[zaK];simp
   have key:∀(ds:List D) (b:Nat) (acc:List D),(∀d∈ds,∃x dp inn,d=part x dp inn/\Ok n inn)->acc.length+(plI (pl (n+1)) pre ch b ds).length<=1000->zaL f acc ((ds.zipIdx b).map fun p=>.tup [.int (p.2:Nat),p.1])=some (acc++(plI (pl (n+1)) pre ch b ds).map ent):=by
    intro ds;induction ds with
    | nil=>intro b acc _ _;show some acc=some (acc++[]);rw[waC]
    | cons d ds ih2=>
      intro b acc o ha;obtain⟨x,dp,inn,rfl,oi⟩:=o d wal;rw[zds] at ha⊢;rw[waX,was] at ha;rw[List.zipIdx_cons,wbe,zl7,stp acc b x dp inn oi (by omega),zOB,ih2 _ _ (fun y hy=>o y (waf _ hy)) (by simp;omega)];simp
   have e9:=key ds 0 [] o (by rw[wcq,wcd];exact hl)
   rw[show(zaL f [] (ze0 ds))=_ from e9];rfl
def gC (s:List D×D)(d:D):Option (List D×D):=(Option.bind (Option.bind (dIx s.2 d) (appL s.1)) fun(x5:List D)=>(Option.bind (Option.bind (dIx s.2 d) fun v6=>(dIx v6 (.int 5))) fun(x7:D)=>(some (x5,x7))))
theorem zn1 {acc ds:List D}{i:Nat}{x:Itm}{dp:Nat}{inn:List D}(h:ds[i]?=some (part x dp inn))(ha:acc.length<=100):gC (acc,.tup ds) (.int (i:Int))=some (acc++[part x dp inn],.tup inn):=by
 have e:dIx (.tup ds) (.int (i:Int))=some (part x dp inn):=zav h
 unfold gC;dsimp only[];rw[e,zOB,zOB,zdH (waV ha (by decide)),zOB,(zby x dp inn).2.2.2];rfl
def IsP (d:D):Prop:=∃x dp inn,d=part x dp inn
theorem zkJ:∀{n:Nat}{ds pre ch:List D},Ok n ds->∀q∈pl (n+1) ds pre ch,∃p c,q=(pre++p,ch++c)/\c≠[]/\(∀d∈c,IsP d)/\∀acc:List D,acc.length+n<=100->∃z,zaL gC (acc,.tup ds) p=some (acc++c,z):=by
 intro n;induction n with
 | zero=>intro ds pre ch o q hq;rw[show ds = [] from o] at hq;cases hq
 | succ n ih=>
   intro ds pre ch o;have key:∀(es:List D) (b:Nat),(∀j d,es[j]?=some d->ds[b+j]?=some d)->∀q∈plI (pl (n+1)) pre ch b es,∃p c,q=(pre++p,ch++c)/\c≠[]/\(∀d∈c,IsP d)/\∀acc:List D,acc.length+(n+1)<=100->∃z,zaL gC (acc,.tup ds) p=some (acc++c,z):=by
    intro es;induction es with
    | nil=>intro b _ q hq;cases hq
    | cons d es ih2=>
      intro b hb q hq;have hd:=hb 0 d rfl
      rw[Nat.add_zero] at hd;obtain⟨x,dp,inn,rfl,oi⟩:=o d (waA hd);rw[zds] at hq;rcases wag.mp hq with rfl | hq
      ·refine⟨[.int (b:Int)],[part x dp inn],rfl,by simp,fun d h=>by rw[waq.mp h];exact⟨_,_,_,rfl⟩,fun acc ha=>⟨.tup inn,?_⟩⟩;show(gC (acc,.tup ds) (.int (b:Int))).bind _=_
       rw[zn1 hd (by omega)];rfl
      ·rcases way.mp hq with hq | hq
       ·obtain⟨p,c,rfl,h0,hp,hf⟩:=ih oi q hq;refine⟨.int (b:Int)::p,part x dp inn::c,by simp,by simp,fun d h=>?_,fun acc ha=>?_⟩
        ·rcases wag.mp h with rfl | h
         ·exact⟨_,_,_,rfl⟩
         ·exact hp d h
        ·obtain⟨z,e⟩:=hf (acc++[part x dp inn]) (by simp;omega);refine⟨z,?_⟩;show(gC (acc,.tup ds) (.int (b:Int))).bind _=_
         rw[zn1 hd (by omega),zOB,e];simp
       ·exact ih2 (b+1) (fun j d h=>by rw[show b+1+j=b+(j+1) by omega];exact hb (j+1) d h) q hq
   exact key ds 0 (fun j d h=>by rw[wcd];exact h)
theorem zf2:∀{n:Nat}{ds pre ch:List D},Ok n ds->(pl (n+1) ds pre ch).map (fun q=>zbq q.2)=ot (fun _=>true) (n+1) ds:=by
 intro n;induction n with
 | zero=>intro ds pre ch o;rw[show ds = [] from o];rfl
 | succ n ih=>
   intro ds pre ch o;have key:∀(es:List D) (b:Nat),(∀d∈es,∃x dp inn,d=part x dp inn/\Ok n inn)->(plI (pl (n+1)) pre ch b es).map (fun q=>zbq q.2)=ot (fun _=>true) (n+1+1) es:=by
    intro es;induction es with
    | nil=>intro b _;rfl
    | cons d es ih2=>
      intro b o;obtain⟨x,dp,inn,rfl,oi⟩:=o d wal;rw[zds,zl4,wbe,waD,ih oi,ih2 _ fun y hy=>o y (waf _ hy),zaK];rfl
   exact key ds 0 o
def nmQ (q:List D×List D):Str:=(nr (zbq q.2)).2
theorem zgE {f:Unit->D->Option (Fl Unit D)}{nm:Str}:∀{l:List (List D×List D)}{q:List D×List D},(∀q∈l,f () (ent q)=some (if nmQ q=nm then .ret (.tup q.1) else .nx ()))->(l.map nmQ).Nodup->q∈l->nmQ q=nm->zbN f () (l.map ent)=some (.ret (.tup q.1))
 | [],q,_,_,h,_=>by cases h
 | a::l,q,hf,nd,h,hn=>by
   rw[wbe,waF] at nd;show(f () (ent a)).bind _=_
   rw[hf a wal,zOB];by_cases ha:nmQ a=nm
   ·rw[if_pos ha];rcases wag.mp h with rfl | h
    ·rfl
    ·exact absurd (ha.trans hn.symm▸waL.mpr ⟨q,h,rfl⟩) nd.1
   ·rw[if_neg ha];rcases wag.mp h with rfl | h
    ·exact absurd hn ha
    ·exact zgE (fun q hq=>hf q (waf _ hq)) nd.2 h hn
theorem zcL {ds:List D}{nm:Str}{q:List D×List D}(o:Ok 7 ds)(hl:(ot (fun _=>true) 8 ds).length<=1000)(nd:((ot (fun _=>true) 8 ds).map fun d=>(nr d).2).Nodup)(hq:q∈pl 8 ds [] [])(hn:nmQ q=nm):zbL [.tup ds,.str nm]=some (.tup q.1):=by
 have pll:=zf2 (pre:=[]) (ch:=[]) o
 have l1:(pl 8 ds [] []).length<=1000:=by
  have:=waN List.length pll
  rw[wao] at this;show(pl (7+1) ds [] []).length<=1000
  rw[this];exact hl
 have e1:zao [.tup ds]=some (.lst ((pl 8 ds [] []).map ent)):=by
  show zaD (.tup ds)=_
  unfold zaD;rw[zfr (n:=7) (ch:=[]) o l1 (by decide)];rfl
 show zci (.tup ds) (.str nm)=_
 unfold zci;rw[e1,zOB];show Option.bind (some _) _=_
 have nd2:((pl 8 ds [] []).map nmQ).Nodup:=by
  have:(pl 8 ds [] []).map nmQ=(ot (fun _=>true) 8 ds).map fun d=>(nr d).2:=by
   rw[<-pll,wbv];rfl
  rw[this];exact nd
 rw[zOB,zgE (nm:=nm) (l:=pl 8 ds [] []) (q:=q) ?_ nd2 hq hn]
 ·rfl
 ·intro r hr;obtain⟨p,c,rfl,h0,hp,_⟩:=zkJ o r hr;have hx:IsP (zbq ([]++c)):=by
   rw[List.nil_append];obtain⟨c0,d0,rfl⟩:∃c0 d0,c=c0++[d0]:=⟨c.dropLast,c.getLast h0,(waM h0).symm⟩
   rw[zaK];exact hp d0 (by simp)
  obtain⟨x,dp,inn,ex⟩:=hx;show(Option.bind (Option.bind (Option.bind (dIx (zbq ([]++c)) (.int 0)) _) dB) _)=_
  unfold nmQ;dsimp only[];rw[ex,(zby x dp inn).1,zOB,zdo];show(if decide (x.nm=nm)=true then _ else _)=some (if x.nm=nm then _ else _)
  by_cases z:x.nm=nm
  ·rw[if_pos (wax z),if_pos z];rfl
  ·rw[if_neg (by simp[z]),if_neg z]
def inD (P:List Nat):List D:=P.map fun(i:Nat)=>D.int (i:Int)
def tri (q:List D×List D):List D×D:=(q.1,zbq q.2)
def trI (rc:List D->List Nat->List (List D×D))(pre:List Nat):Nat->List D->List (List D×D)
 | _,[]=>[]
 | b,d::ds=>(inD (pre++[b]),d)::(rc (innD d) (pre++[b])++trI rc pre (b+1) ds)
def tr:Nat->List D->List Nat->Nat->List (List D×D)
 | 0,_,_,_=>[]
 | n+1,ds,pre,b=>trI (fun inn pre=>tr n inn pre 0) pre b ds
theorem zjV (P:List Nat)(b:Nat):inD (P++[b])=inD P++[.int (b:Int)]:=by unfold inD;rw[waD];rfl
theorem zoV:∀{n:Nat}{ds:List D}{pre:List Nat}{ch:List D},(pl n ds (inD pre) ch).map tri=tr n ds pre 0:=by
 intro n;induction n with
 | zero=>intro ds pre ch;rfl
 | succ n ih=>
   intro ds pre ch;have key:∀(es:List D) (b:Nat),(plI (pl n) (inD pre) ch b es).map tri=tr (n+1) es pre b:=by
    intro es;induction es with
    | nil=>intro b;rfl
    | cons d es ih2=>
      intro b;show(inD pre++[.int (b:Int)],zbq (ch++[d]))::(pl n (innD d) (inD pre++[.int (b:Int)]) (ch++[d])++plI (pl n) (inD pre) ch (b+1) es).map tri=(inD (pre++[b]),d)::(tr n (innD d) (pre++[b]) 0++tr (n+1) es pre (b+1))
      rw[waD,<-zjV,ih,ih2,zaK]
   exact key ds 0
def bat (P:List Nat)(d:Nat):Nat:=match P[d]? with
 | some i=>i+1
 | none=>0
def stp (P:List Nat)(c:Nat):List Nat:=P.take c++[bat P c]
def trL:List Nat->List Itm->List (List D×D)
 | _,[]=>[]
 | P,x::S=>(inD (stp P x.dp),part x 0 (fo S (x.dp+1)))::trL (stp P x.dp) S
def sl (G:Nat->List (List D×D)):Nat->List (List D×D)
 | 0=>[]
 | d+1=>G d++sl G d
theorem ziz {G:Nat->List (List D×D)}{m:Nat}(h:∀d,m<=d->G d = []):∀k,sl G (m+k)=sl G m
 | 0=>rfl
 | k+1=>by
   show G (m+k)++sl G (m+k)=_
   rw[h _ (by omega),ziz h k];simp
theorem zgF {G K:Nat->List (List D×D)}:∀{m:Nat},(∀d,d<m->G d=K d)->sl G m=sl K m
 | 0,_=>rfl
 | m+1,h=>by
   show G m++sl G m=K m++sl K m
   rw[h m (by omega),zgF fun d hd=>h d (by omega)]
theorem zn2 {P:List Nat}{c d:Nat}(h:d<c)(hc:c<=P.length):bat (stp P c) d=bat P d:=by
 unfold bat stp;rw[wbd (by rw[waK];omega),List.getElem?_take,if_pos h]
theorem zn3 {P:List Nat}{c:Nat}(hc:c<=P.length):bat (stp P c) c=bat P c+1:=by
 have:(stp P c)[c]?=some (bat P c):=by
  unfold stp;rw[wbH (by rw[waK];omega),waK,wbl hc,Nat.sub_self];rfl
 show(match (stp P c)[c]? with | some i=>i+1 | none=>0)=_
 rw[this]
theorem zf3 {P:List Nat}{c:Nat}(hc:c<=P.length):(stp P c).length=c+1:=by unfold stp;rw[was,waK,wbl hc];rfl
theorem zn4 {P:List Nat}{c:Nat}(hc:P.length<=c):bat P c=0:=by unfold bat;rw[waI hc]
theorem zgG {P:List Nat}{c d:Nat}(h:d<=c)(hc:c<=P.length):(stp P c).take d=P.take d:=by
 unfold stp;rw[List.take_append_of_le_length (by rw[waK];omega),List.take_take,wbl h]
theorem ziA:∀{m:Nat}{S:List Itm},Vd m S->∀(P:List Nat),P.length=m->trL P S=sl (fun d=>tr (8 - d) (fo S d) (P.take d) (bat P d)) (m+1)
 | m,_,.nil,P,hP=>by
   have:∀k,sl (fun d=>tr (8 - d) (fo [] d) (P.take d) (bat P d)) k = []:=fun k=>by
    induction k with
    | zero=>rfl
    | succ k ih=>
      show tr (8 - k) [] _ _++sl _ k = []
      rw[ih];have:tr (8 - k) [] (P.take k) (bat P k) = []:=by cases 8 - k <;> rfl
      rw[this];rfl
   rw[this];rfl
 | m,_,.cons (x:=x) (S:=S) hm h4 t,P,hP=>by
   obtain⟨c,hc⟩:∃c,x.dp=c:=⟨_,rfl⟩
   have ih:=ziA t (stp P c) (by rw[zf3 (by omega),hc])
   have f1:fo (x::S) c=part x 0 (fo S (c+1))::fo S c:=by
    show(if c=x.dp then _ else _)=_
    rw[if_pos hc.symm]
   have f2:∀d,d<c->fo (x::S) d=fo S d:=fun d hd=>by
    show(if d=x.dp then _ else if d=x.dp+1 then[] else fo S d)=_
    rw[if_neg (by omega),if_neg (by omega)]
   have f3:∀d,c+1<=d->fo (x::S) d = []:=fun d hd=>by
    show(if d=x.dp then _ else if d=x.dp+1 then[] else fo S d)=_
    rw[if_neg (by omega)];by_cases e:d=x.dp+1
    ·rw[if_pos e]
    ·rw[if_neg e];exact zfS t d (by omega)
   have o0:∀n pre b,tr n [] pre b = []:=fun n pre b=>by cases n <;> rfl
   have e1:sl (fun d=>tr (8 - d) (fo (x::S) d) (P.take d) (bat P d)) (m+1)=sl (fun d=>tr (8 - d) (fo (x::S) d) (P.take d) (bat P d)) (c+1):=by
    have:=ziz (G:=fun d=>tr (8 - d) (fo (x::S) d) (P.take d) (bat P d)) (m:=c+1) (fun d hd=>by show tr (8 - d) _ _ _ = [];rw[f3 d hd,o0]) (m - c)
    rw[show c+1+(m - c)=m+1 by omega] at this;exact this
   have lower:sl (fun d=>tr (8 - d) (fo S d) ((stp P c).take d) (bat (stp P c) d)) c=sl (fun d=>tr (8 - d) (fo (x::S) d) (P.take d) (bat P d)) c:=zgF fun d hd=>by rw[f2 d hd,zgG (by omega) (by omega),zn2 hd (by omega)]
   rw[e1];show(inD (stp P x.dp),part x 0 (fo S (x.dp+1)))::trL (stp P x.dp) S=tr (8 - c) (fo (x::S) c) (P.take c) (bat P c)++sl _ c
   rw[hc,f1,<-lower,show 8 - c=(8 - (c+1))+1 by omega];show _=(inD (P.take c++[bat P c]),part x 0 (fo S (c+1)))::(tr (8 - (c+1)) (fo S (c+1)) (P.take c++[bat P c]) 0++tr (8 - (c+1)+1) (fo S c) (P.take c) (bat P c+1))++_
   rw[List.cons_append];refine waN _ ?_;rw[hc] at ih;refine ih.trans ?_;show tr (8 - (c+1)) (fo S (c+1)) ((stp P c).take (c+1)) (bat (stp P c) (c+1))++(tr (8 - c) (fo S c) ((stp P c).take c) (bat (stp P c) c)++sl (fun d=>tr (8 - d) (fo S d) ((stp P c).take d) (bat (stp P c) d)) c)=_
   rw[zn4 (c:=c+1) (wbu (zf3 (by omega))),List.take_of_length_le (wbu (zf3 (by omega))),zgG (wan _) (by omega),zn3 (by omega),wbc,show 8 - c=8 - (c+1)+1 by omega];rfl
theorem zc8 {L:List Itm}(t:Vd 0 L):(pl 8 (fo L 0) [] []).map tri=trL [] L:=by
 have:=ziA t [] rfl
 rw[show sl (fun d=>tr (8 - d) (fo L d) (([]:List Nat).take d) (bat [] d)) (0+1)=tr 8 (fo L 0) [] 0++[] from rfl,waC] at this;rw[this];exact zoV (n:=8) (pre:=[])
theorem zeH:∀{P:List Nat}{L:List Itm},(trL P L).length=L.length
 | _,[]=>rfl
 | P,x::S=>by show(trL _ S).length+1=_;rw[zeH];rfl
theorem zed:∀{P:List Nat}{L:List Itm},(trL P L).map (fun q=>(nr q.2).2)=L.map Itm.nm
 | _,[]=>rfl
 | P,x::S=>by show x.nm::(trL _ S).map _=_;rw[zed];rfl
theorem zfs {L:List Itm}(t:Vd 0 L):(ot (fun _=>true) 8 (fo L 0))=(trL [] L).map (·.2):=by
 have o:Ok 7 (fo L 0):=(zdN t 0).up
 rw[<-zf2 (pre:=[]) (ch:=[]) o,<-zc8 t,wbv];rfl
theorem zl8 {L:List Itm}(t:Vd 0 L):(ot (fun _=>true) 8 (fo L 0)).map (fun d=>(nr d).2)=L.map Itm.nm:=by
 rw[zfs t,wbv,<-zed (P:=[])];rfl
theorem zgH {L:List Itm}(t:Vd 0 L):(ot (fun _=>true) 8 (fo L 0)).length=L.length:=by
 rw[zfs t,wao,zeH]
theorem zft {ds:List D}(o:Ok 7 ds)(hl:(ot (fun _=>true) 8 ds).length<=1000):zao [.tup ds]=some (.lst ((pl 8 ds [] []).map ent)):=by
 have l1:(pl 8 ds [] []).length<=1000:=by
  have:=waN List.length (zf2 (pre:=[]) (ch:=[]) o)
  rw[wao] at this;show(pl (7+1) ds [] []).length<=1000
  rw[this];exact hl
 show zaD (.tup ds)=_
 unfold zaD;rw[zfr (n:=7) (ch:=[]) o l1 (by decide)];rfl
theorem zeI {L:List Itm}(t:Vd 0 L)(hl:L.length<=40):zaR [.tup (fo L 0)]=some (.lst ((trL [] L).map (·.2))):=by
 have o:Ok 7 (fo L 0):=(zdN t 0).up
 have hll:(pl 8 (fo L 0) [] []).length<=40:=by
  have:=waN List.length (zc8 t)
  rw[wao,zeH] at this;omega
 show zcg _=_
 unfold zcg;rw[zft o (by rw[zgH t];omega),zOB];show Option.bind (Option.bind (zbp _ ((pl 8 (fo L 0) [] []).map ent)) _) _=_
 rw[zcP ent (fun q=>zbq q.2) (by omega) fun q hq=>rfl,<-zc8 t,wbv];rfl
theorem zjW {L:List Itm}(t:Vd 0 L)(hl:L.length<=40):zbJ [.tup (fo L 0)]=some (.new 1 (.lst ((L.map Itm.nm).map D.str)),[.non]):=by
 show zch _=_
 unfold zch;rw[zeI t hl,zOB];show Option.bind (zbp _ ((trL [] L).map (·.2))) _=_
 rw[zcP (·.2) (fun q:List D×D=>D.str (nr q.2).2) (by rw[zeH];omega) fun q hq=>?_]
 ·rw[zOB,<-zed (P:=[]),wbv];rfl
 ·have:q.2∈ot (fun _=>true) (7+1) (fo L 0):=by
   rw[show ot (fun _=>true) (7+1) (fo L 0)=_ from zfs t];exact waL.mpr ⟨q,hq,rfl⟩
  obtain⟨x,dp,inn,ex⟩:=ziy (zdN t 0).up _ this;rw[ex,(zby x dp inn).1];rfl
theorem zee {S:Type}{f:S->D->Option S}{d:D}:∀{ds:List D}{s:S},zaL f s (ds++[d])=(zaL f s ds).bind fun s=>f s d
 | [],s=>by show(f s d).bind (fun s=>some s)=f s d;cases f s d <;> rfl
 | e::ds,s=>by
   show(f s e).bind (fun s=>zaL f s (ds++[d]))=((f s e).bind fun s=>zaL f s ds).bind _
   cases f s e with
   | none=>rfl
   | some s'=>exact zee
def wt (S:List Itm):List D:=[.lst (fo S 0).reverse,.lst (fo S 1).reverse,.lst (fo S 2).reverse,.lst (fo S 3).reverse,.lst (fo S 4).reverse,.lst (fo S 5).reverse]
theorem zkK:∀{S:List Itm}{d:Nat},(fo S d).length<=S.length
 | [],_=>wan _
 | x::S,d=>by
   show(if d=x.dp then part x 0 (fo S (d+1))::fo S d else if d=x.dp+1 then[] else fo S d).length<=S.length+1
   have:=zkK (S:=S) (d:=d)
   split
   ·simp;omega
   ·split
    ·simp
    ·omega
theorem zl9 {x:Itm}{S:List Itm}{e:Nat}(h:x.dp=e)(d:Nat):fo (x::S) d=if d=e then part x 0 (fo S (e+1))::fo S d else if d=e+1 then[] else fo S d:=by
 show(if d=x.dp then part x 0 (fo S (d+1))::fo S d else if d=x.dp+1 then[] else fo S d)=_
 rw[h];by_cases z:d=e
 ·subst z;simp
 ·rw[if_neg z,if_neg z]
theorem zn5 {S:List Itm}{e:Nat}(he:e<=4):zlM (wt S) [] (.int (e+1))=some ((wt S).set (e+1) (.lst [])):=by
 match e,he with
 | 0,_=>rfl
 | 1,_=>rfl
 | 2,_=>rfl
 | 3,_=>rfl
 | 4,_=>rfl
theorem zoW {S:List Itm}{e:Nat}(he:e<=4):ix2C (wt S) (.int (e+1))=some (.lst (fo S (e+1)).reverse):=by
 match e,he with
 | 0,_=>rfl
 | 1,_=>rfl
 | 2,_=>rfl
 | 3,_=>rfl
 | 4,_=>rfl
theorem zn6 {x:Itm}{S:List Itm}{e:Nat}(he:e<=4)(h:x.dp=e)(hs:S.length<=1000):zjA ((wt S).set (e+1) (.lst [])) (.int e) (part x 0 (fo S (e+1)))=some (wt (x::S)):=by
 have hb:∀d,(fo S d).reverse.length<lim:=fun d=>waV (by rw[wbk];exact wai zkK hs) (by decide:1000<lim)
 have fc:=zl9 (S:=S) h
 match e,he with
 | 0,_=>
   show(if(fo S 0).reverse.length<lim then _ else none)=_
   rw[if_pos (hb 0)];simp[wt,fc]
 | 1,_=>
   show(if(fo S 1).reverse.length<lim then _ else none)=_
   rw[if_pos (hb 1)];simp[wt,fc]
 | 2,_=>
   show(if(fo S 2).reverse.length<lim then _ else none)=_
   rw[if_pos (hb 2)];simp[wt,fc]
 | 3,_=>
   show(if(fo S 3).reverse.length<lim then _ else none)=_
   rw[if_pos (hb 3)];simp[wt,fc]
 | 4,_=>
   show(if(fo S 4).reverse.length<lim then _ else none)=_
   rw[if_pos (hb 4)];simp[wt,fc]
theorem zma {L:List Itm}(h4:∀x∈L,x.dp<=4)(hl:L.length<=1000):zbX [rowsD L]=some (.tup (fo L 0)):=by
 show zbW (.lst (L.map Itm.d))=_
 unfold zbW;rw[zOB];show Option.bind (Option.bind (some (L.map Itm.d).reverse) _) _=_
 rw[zOB];generalize hf:(fun(s2:List D) (d12:D)=>Option.bind (un5 d12) fun(y3:D×D×D×D×D)=>_)=f;have stp:∀(x:Itm) (S:List Itm),x.dp<=4->S.length<=1000->f (wt S) x.d=some (wt (x::S)):=by
  intro x S h4 hs;obtain⟨e,he⟩:∃e,x.dp=e:=⟨_,rfl⟩
  have e4:e<=4:=by omega
  rw[<-hf];show Option.bind (some (D.int (x.dp:Int),D.str x.nm,x.bx,D.str x.wd,D.int x.rk)) _=_
  rw[zOB,he];have b3:dAdd (.int (e:Int)) (.int 1)=some (.int ((e:Int)+1)):=rfl
  dsimp only[];rw[b3,zOB,zoW e4,zOB];show Option.bind (Option.bind (some [D.lst (fo S (e+1)).reverse.reverse]) bTuple) _=_
  rw[List.reverse_reverse,zOB];show Option.bind (some (D.tup (fo S (e+1)))) _=_
  rw[zOB,zOB,zn5 e4,zOB];show Option.bind (zjA _ _ (part x 0 (fo S (e+1)))) _=_
  rw[zn6 e4 he hs];rfl
 have key:∀(S:List Itm),(∀x∈S,x.dp<=4)->S.length<=1000->zaL f (wt []) (S.map Itm.d).reverse=some (wt S):=by
  intro S;induction S with
  | nil=>intro _ _;rfl
  | cons x S ih=>
    intro t hl;rw[waX] at hl;rw[wbe,wbF,zee,ih (fun y hy=>t y (waf _ hy)) (by omega),zOB];exact stp x S (t x wal) (by omega)
 show Option.bind (zaL f (wt []) (L.map Itm.d).reverse) _=_
 rw[key L h4 hl,zOB];show Option.bind (bTuple [.lst (fo L 0).reverse.reverse]) _=_
 rw[List.reverse_reverse];rfl
theorem zgs {xs:List D}{r:Int}(h0:0<=r)(h1:r<=xs.length):VD.cut xs none (some r)=xs.take r.toNat:=by
 unfold VD.cut HT.sIx;dsimp only[];rw[if_neg (by omega),List.drop_zero,Nat.sub_zero,wbl (by omega)]
theorem ziB {α β γ:Type}{f:α->γ}{g:β->γ}{xs:List α}{ys:List β}(e:xs.map f=ys.map g){k:Nat}{y:β}(h:ys[k]?=some y):∃x,xs[k]?=some x/\f x=g y:=by
 have:=waN (fun l:List γ=>l[k]?) e
 simp only[wam,h] at this;cases z:xs[k]? with
 | none=>rw[z] at this;cases this
 | some x=>rw[z] at this;exact⟨x,rfl,wau this⟩
structure At (L:List Itm)(k:Nat)(x:Itm)(P:List D)(d:D):Prop where
 row:L[k]?=some x
 tr:(trL [] L)[k]?=some (P,d)
 nm:(nr d).2=x.nm
theorem zoX {L:List Itm}{k:Nat}(hk:k<L.length):∃x P d,At L k x P d:=by
 have h1:L[k]?=some L[k]:=wat hk
 obtain⟨q,hq,e⟩:=ziB (f:=fun q:List D×D=>(nr q.2).2) (g:=Itm.nm) (zed (P:=[]) (L:=L)) h1;exact⟨_,q.1,q.2,h1,hq,e⟩
theorem zo5 {L:List Itm}{k:Nat}{x:Itm}{P:List D}{d:D}(t:Vd 0 L)(hl:L.length<=40)(nd:(L.map Itm.nm).Nodup)(a:At L k x P d):zbL [.tup (fo L 0),.str x.nm]=some (.tup P):=by
 have o:Ok 7 (fo L 0):=(zdN t 0).up
 obtain⟨q,hq,e⟩:=ziB (f:=tri) (g:=fun q:List D×D=>q) (by rw[List.map_id',zc8 t]) a.tr;have e1:q.1=P:=waN Prod.fst e
 have e2:zbq q.2=d:=waN Prod.snd e
 rw[<-e1];exact zcL o (by rw[zgH t];omega) (by rw[zl8 t];exact nd) (waA hq) (by unfold nmQ;rw[e2];exact a.nm)
theorem zfu {f:Unit->D->Option (Fl Unit D)}{nm:Str}:∀{l:List D}{d:D},(∀d∈l,f () d=some (if(nr d).2=nm then .ret d else .nx ()))->(l.map fun d=>(nr d).2).Nodup->d∈l->(nr d).2=nm->zbN f () l=some (.ret d)
 | [],d,_,_,h,_=>by cases h
 | a::l,d,hf,nd,h,hn=>by
   rw[wbe,waF] at nd;show(f () a).bind _=_
   rw[hf a wal,zOB];by_cases ha:(nr a).2=nm
   ·rw[if_pos ha];rcases wag.mp h with rfl | h
    ·rfl
    ·exact absurd (waL.mpr ⟨d,h,hn.trans ha.symm⟩) nd.1
   ·rw[if_neg ha];rcases wag.mp h with rfl | h
    ·exact absurd hn ha
    ·exact zfu (fun q hq=>hf q (waf _ hq)) nd.2 h hn
theorem zf4 {L:List Itm}(t:Vd 0 L):∀d∈(trL [] L).map (·.2),∃x dp inn,d=part x dp inn:=fun d hd=>by
 rw[<-zfs t] at hd;exact ziy (n:=7) (zdN t 0).up d hd
theorem zoY {L:List Itm}{k:Nat}{x:Itm}{P:List D}{d:D}(t:Vd 0 L)(hl:L.length<=40)(nd:(L.map Itm.nm).Nodup)(a:At L k x P d):zbK [.tup (fo L 0),.str x.nm]=some d:=by
 show zcW _ _=_
 unfold zcW;rw[zeI t hl,zOB];show Option.bind (some ((trL [] L).map (·.2))) _=_
 rw[zOB,zfu (nm:=x.nm) (d:=d) (fun d hd=>?_) (by rw[<-zfs t,zl8 t];exact nd) (waL.mpr ⟨_,waA a.tr,rfl⟩) a.nm]
 ·rfl
 ·obtain⟨y,dp,inn,rfl⟩:=zf4 t d hd;rw[(zby y dp inn).1,zOB,zdo];show(if decide (y.nm=x.nm)=true then _ else _)=some (if y.nm=x.nm then _ else _)
  by_cases z:y.nm=x.nm
  ·rw[if_pos (wax z),if_pos z];rfl
  ·rw[if_neg (by simp[z]),if_neg z]
theorem zeJ {f:Unit->D->Option Unit}:∀{l:List D},(∀d∈l,f () d=some ())->zaL f () l=some ()
 | [],_=>rfl
 | d::l,h=>by
   show(f () d).bind _=_
   rw[h d wal,zOB];exact zeJ fun y hy=>h y (waf _ hy)
def zdk (x:Str):D:=.exc "NoPart" ["name"] [.str x]
theorem zn7 {odd:Str}(ho:okTx odd=true):rz "NoPart" "name" zfQ (.str odd)=some (zdk odd):=if_pos ho
theorem zmb {L:List Itm}{odd:Str}(t:Vd 0 L)(hl:L.length<=40)(hn:odd∉L.map Itm.nm)(ho:okTx odd=true):za8 [.tup (fo L 0),.str odd]=some (zdk odd):=by
 show zcX _ _=_
 unfold zcX;rw[zeI t hl,zOB];show Option.bind (Option.bind (some ((trL [] L).map (·.2))) _) _=_
 rw[zOB,zeJ fun d hd=>?_]
 ·rw[zOB,zn7 ho];rfl
 ·obtain⟨y,dp,inn,rfl⟩:=zf4 t d hd;have hx:y.nm≠odd:=fun z=>hn (by
   rw[<-zed (P:=[])];obtain⟨q,hq,e⟩:=waL.mp hd;exact waL.mpr ⟨q,hq,by rw[e];exact z⟩)
  rw[(zby y dp inn).1,zOB,zdo,war hx];rfl
theorem zjX {L:List Itm}{odd:Str}(t:Vd 0 L)(hl:L.length<=40)(hn:odd∉L.map Itm.nm)(ho:okTx odd=true):za0 [.tup (fo L 0),.str odd]=some (zdk odd):=by
 have o:Ok 7 (fo L 0):=(zdN t 0).up
 show zcj _ _=_
 unfold zcj;rw[zft o (by rw[zgH t];omega),zOB];show Option.bind (Option.bind (some ((pl 8 (fo L 0) [] []).map ent)) _) _=_
 rw[zOB,zeJ fun d hd=>?_]
 ·rw[zOB,zn7 ho];rfl
 ·obtain⟨q,hq,rfl⟩:=waL.mp hd;have hm:zbq q.2∈(trL [] L).map (·.2):=by rw[<-zc8 t,wbv];exact waL.mpr ⟨q,hq,rfl⟩
  obtain⟨y,dp,inn,ex⟩:=zf4 t _ hm;have hx:y.nm≠odd:=fun z=>hn (by
   rw[<-zed (P:=[])];obtain⟨q',hq',e⟩:=waL.mp hm;exact waL.mpr ⟨q',hq',by rw[e,ex];exact z⟩)
  show(Option.bind (Option.bind (Option.bind (dIx (zbq q.2) (.int 0)) _) dB) _)=_
  rw[ex,(zby y dp inn).1,zOB,zdo,war hx];rfl
theorem zkL:∀{m:Nat}{L:List Itm},Vd m L->∀x∈L,x.dp<=4
 | _,_,.nil,x,h=>by cases h
 | _,_,.cons hm h4 t,x,h=>by
   rcases wag.mp h with rfl | h
   ·exact h4
   ·exact zkL t x h
structure Nd where
 w:List Str
 n:Str
 i:List Str
 l:List Str
def nmD (d:D):Str:=(nr d).2
def nI (rc:List D->List Str->List Nd)(W lv:List Str):List D->List Nd
 | []=>[]
 | d::ds=>⟨W,nmD d,(innD d).map nmD,lv⟩ ::(rc (innD d) (W++[nmD d])++nI rc W lv ds)
def nL:Nat->List D->List Str->List Nd
 | 0,_,_=>[]
 | n+1,ds,W=>nI (nL n) W (ds.map nmD) ds
def levT (top c:List D):List D:=if c.dropLast = [] then top else innD (zbq c.dropLast)
def ndQ (top:List D)(q:List D×List D):Nd:=⟨q.2.dropLast.map nmD,nmD (zbq q.2),(innD (zbq q.2)).map nmD,(levT top q.2).map nmD⟩
theorem zoZ {top:List D}:∀{n:Nat}{ds pre ch:List D},(if ch = [] then top else innD (zbq ch))=ds->(pl n ds pre ch).map (ndQ top)=nL n ds (ch.map nmD):=by
 intro n;induction n with
 | zero=>intro ds pre ch _;rfl
 | succ n ih=>
   intro ds pre ch h;have key:∀(es:List D) (b:Nat),(plI (pl n) pre ch b es).map (ndQ top)=nI (nL n) (ch.map nmD) (ds.map nmD) es:=by
    intro es;induction es with
    | nil=>intro b;rfl
    | cons d es ih2=>
      intro b;show ndQ top (pre++[.int (b:Int)],ch++[d])::(pl n (innD d) (pre++[.int (b:Int)]) (ch++[d])++plI (pl n) pre ch (b+1) es).map (ndQ top)=_::(nL n (innD d) (ch.map nmD++[nmD d])++nI (nL n) (ch.map nmD) (ds.map nmD) es)
      rw[waD,ih2,ih (ch:=ch++[d]) (by rw[if_neg (by simp),zaK]),waD];have:ndQ top (pre++[.int (b:Int)],ch++[d])=⟨ch.map nmD,nmD d,(innD d).map nmD,ds.map nmD⟩:=by
       unfold ndQ levT;dsimp only[];rw[wcg,zaK,h]
      rw[this];rfl
   exact key ds 0
def pr (t:Nd):List Str×Str:=(t.w,t.n)
def nR:List Str->List Itm->List (List Str×Str)
 | _,[]=>[]
 | P,x::S=>(P.take x.dp,x.nm)::nR (P.take x.dp++[x.nm]) S
theorem zn8 {rc:List D->List Str->List Nd}{W a b:List Str}:∀{ds:List D},(nI rc W a ds).map pr=(nI rc W b ds).map pr
 | []=>rfl
 | d::ds=>by
   show _::(_++nI rc W a ds).map pr=_::(_++nI rc W b ds).map pr
   rw[waD,waD,zn8 (a:=a) (b:=b) (ds:=ds)];rfl
theorem zo0 {n:Nat}{x:Itm}{dp:Nat}{inn ds:List D}{W:List Str}:(nL (n+1) (part x dp inn::ds) W).map pr=(W,x.nm)::((nL n inn (W++[x.nm])).map pr++(nL (n+1) ds W).map pr):=by
 show _::(nL n inn (W++[x.nm])++nI (nL n) W _ ds).map pr=_
 rw[waD,zn8 (b:=ds.map nmD)];rfl
def sl2 {α:Type}(G:Nat->List α):Nat->List α
 | 0=>[]
 | d+1=>G d++sl2 G d
theorem zgI {α:Type}{G:Nat->List α}{m:Nat}(h:∀d,m<=d->G d = []):∀k,sl2 G (m+k)=sl2 G m
 | 0=>rfl
 | k+1=>by
   show G (m+k)++sl2 G (m+k)=_
   rw[h _ (by omega),zgI h k];simp
theorem zfv {α:Type}{G K:Nat->List α}:∀{m:Nat},(∀d,d<m->G d=K d)->sl2 G m=sl2 K m
 | 0,_=>rfl
 | m+1,h=>by
   show G m++sl2 G m=K m++sl2 K m
   rw[h m (by omega),zfv fun d hd=>h d (by omega)]
def gR (S:List Itm)(P:List Str)(d:Nat):List (List Str×Str):=(nL (8 - d) (fo S d) (P.take d)).map pr
theorem zkM {n:Nat}{W:List Str}:nL n [] W = []:=by cases n <;> rfl
theorem ziC:∀{m:Nat}{S:List Itm},Vd m S->∀(P:List Str),P.length=m->nR P S=sl2 (gR S P) (m+1)
 | m,_,.nil,P,hP=>by
   have:∀k,sl2 (gR [] P) k = []:=fun k=>by
    induction k with
    | zero=>rfl
    | succ k ih=>
      show gR [] P k++sl2 _ k = []
      rw[ih,show gR [] P k=(nL (8 - k) [] (P.take k)).map pr from rfl,zkM];rfl
   rw[this];rfl
 | m,_,.cons (x:=x) (S:=S) hm h4 t,P,hP=>by
   obtain⟨c,hc⟩:∃c,x.dp=c:=⟨_,rfl⟩
   have lP:(P.take c++[x.nm]).length=c+1:=by rw[was,waK,wbl (by omega)];rfl
   have ih:=ziC t (P.take c++[x.nm]) (by rw[lP,hc])
   have f1:fo (x::S) c=part x 0 (fo S (c+1))::fo S c:=by
    show(if c=x.dp then _ else _)=_
    rw[if_pos hc.symm]
   have f2:∀d,d<c->fo (x::S) d=fo S d:=fun d hd=>by
    show(if d=x.dp then _ else if d=x.dp+1 then[] else fo S d)=_
    rw[if_neg (by omega),if_neg (by omega)]
   have f3:∀d,c+1<=d->fo (x::S) d = []:=fun d hd=>by
    show(if d=x.dp then _ else if d=x.dp+1 then[] else fo S d)=_
    rw[if_neg (by omega)];by_cases e:d=x.dp+1
    ·rw[if_pos e]
    ·rw[if_neg e];exact zfS t d (by omega)
   have tk:∀d,d<=c->(P.take c++[x.nm]).take d=P.take d:=fun d hd=>by
    rw[List.take_append_of_le_length (by rw[waK];omega),List.take_take,wbl hd]
   have e1:sl2 (gR (x::S) P) (m+1)=sl2 (gR (x::S) P) (c+1):=by
    have:=zgI (G:=gR (x::S) P) (m:=c+1) (fun d hd=>by unfold gR;rw[f3 d hd,zkM];rfl) (m - c)
    rw[show c+1+(m - c)=m+1 by omega] at this;exact this
   have lower:sl2 (gR S (P.take c++[x.nm])) c=sl2 (gR (x::S) P) c:=zfv fun d hd=>by unfold gR;rw[f2 d hd,tk d (by omega)]
   have g0:gR (x::S) P c=(P.take c,x.nm)::((nL (8 - (c+1)) (fo S (c+1)) (P.take c++[x.nm])).map pr++(nL (8 - c) (fo S c) (P.take c)).map pr):=by
    unfold gR;rw[f1,show 8 - c=(8 - (c+1))+1 by omega,zo0]
   have g1:gR S (P.take c++[x.nm]) (c+1)=(nL (8 - (c+1)) (fo S (c+1)) (P.take c++[x.nm])).map pr:=by
    unfold gR;rw[List.take_of_length_le (wbu lP)]
   have g2:gR S (P.take c++[x.nm]) c=(nL (8 - c) (fo S c) (P.take c)).map pr:=by
    unfold gR;rw[tk c (wan _)]
   rw[e1];show(P.take x.dp,x.nm)::nR (P.take x.dp++[x.nm]) S=gR (x::S) P c++sl2 _ c
   rw[hc,g0,<-lower,<-g1,<-g2,ih,hc];show _::(gR S _ (c+1)++(gR S _ c++sl2 _ c))=_
   simp
theorem zjY {L:List Itm}(t:Vd 0 L):(nL 8 (fo L 0) []).map pr=nR [] L:=by
 rw[ziC t [] rfl];show _=gR L [] 0++[]
 rw[waC];rfl
theorem zmc:∀{P:List Str}{L:List Itm},(nR P L).map (·.2)=L.map Itm.nm
 | _,[]=>rfl
 | P,x::S=>by show x.nm::(nR _ S).map _=_;rw[zmc];rfl
def fl (V:List Str)(T:List Nd):List Str:=(T.filter fun u=>decide (u.w=V)).map Nd.n
theorem zkN {V:List Str}{A B:List Nd}:fl V (A++B)=fl V A++fl V B:=by unfold fl;rw[List.filter_append,waD]
theorem zmd {V:List Str}{T:List Nd}(h:∀u∈T,u.w≠V):fl V T = []:=by
 unfold fl;rw[List.filter_eq_nil_iff.mpr fun u hu=>by simpa using h u hu];rfl
theorem zf5 {V:List Str}{u:Nd}{T:List Nd}:fl V (u::T)=if u.w=V then u.n::fl V T else fl V T:=by
 unfold fl;rw[List.filter_cons];by_cases h:u.w=V
 ·rw[if_pos (wax h),if_pos h];rfl
 ·rw[if_neg (by simp[h]),if_neg h]
theorem zgJ {n:Nat}{W lv:List Str}{u:Nd}:∀{ds:List D},u∈nI (nL n) W lv ds->∃d∈ds,u=⟨W,nmD d,(innD d).map nmD,lv⟩ \/u∈nL n (innD d) (W++[nmD d])
 | [],h=>by cases h
 | d::ds,h=>by
   rcases wag.mp h with h | h
   ·exact⟨d,wal,.inl h⟩
   ·rcases way.mp h with h | h
    ·exact⟨d,wal,.inr h⟩
    ·obtain⟨e,he,h⟩:=zgJ h;exact⟨e,waf _ he,h⟩
theorem zfw:∀{n:Nat}{ds:List D}{W:List Str},∀u∈nL n ds W,∃R,u.w=W++R
 | 0,_,_,u,h=>by cases h
 | n+1,ds,W,u,h=>by
   obtain⟨d,_,h⟩:=zgJ h;rcases h with rfl | h
   ·exact⟨[],by simp⟩
   ·obtain⟨R,e⟩:=zfw u h;exact⟨nmD d::R,by rw[e];simp⟩
theorem zgK {n:Nat}{W lv:List Str}:∀{ds:List D},fl W (nI (nL n) W lv ds)=ds.map nmD
 | []=>rfl
 | d::ds=>by
   show fl W (_::(nL n (innD d) (W++[nmD d])++nI (nL n) W lv ds))=_
   rw[zf5,if_pos rfl,zkN,zgK,zmd (T:=nL n _ _) fun u hu e=>?_]
   ·rfl
   ·obtain⟨R,e'⟩:=zfw u hu;have:=waN List.length (e'.symm.trans e)
    simp at this
theorem zme {n:Nat}{W lv:List Str}{d:D}:∀{ds:List D},d∈ds->nmD d∈(nI (nL n) W lv ds).map Nd.n
 | e::ds,h=>by
   show _∈nmD e::(nL n (innD e) (W++[nmD e])++nI (nL n) W lv ds).map Nd.n
   rcases wag.mp h with rfl | h
   ·exact wal
   ·rw[waD];exact waf _ (waw _ (zme h))
theorem zgL {n:Nat}{W lv R:List Str}{d:D}:∀{ds:List D},d∈ds->((nI (nL n) W lv ds).map Nd.n).Nodup->fl (W++nmD d::R) (nI (nL n) W lv ds)=fl (W++nmD d::R) (nL n (innD d) (W++[nmD d]))/\((nL n (innD d) (W++[nmD d])).map Nd.n).Nodup
 | e::ds,h,nd=>by
   have nd:(nmD e::(nL n (innD e) (W++[nmD e])++nI (nL n) W lv ds).map Nd.n).Nodup:=nd
   rw[waF,waD,wbs] at nd;obtain⟨n0,n1,n2,n3⟩:=nd;have h0:∀a:Str,W≠W++a::R:=fun a e=>by have:=waN List.length e;simp at this
   show fl _ (⟨W,nmD e,_,lv⟩ ::(nL n (innD e) (W++[nmD e])++nI (nL n) W lv ds))=_/\_
   rw[zf5,if_neg (h0 _),zkN];have far:∀(a:D) (T:List Nd),nmD a≠nmD d->(∀u∈T,∃R',u.w=W++[nmD a]++R')->fl (W++nmD d::R) T = []:=fun a T ha hT=>zmd fun u hu e=>by
    obtain⟨R',e'⟩:=hT u hu;have:=e'.symm.trans e
    rw[wbc] at this;have:=wbU this
    exact ha (List.cons.inj this).1
   rcases wag.mp h with rfl | h
   ·refine⟨?_,n1⟩;rw[zmd (T:=nI (nL n) W lv ds) fun u hu e=>?_,waC];obtain⟨a,ha,hu⟩:=zgJ hu;rcases hu with rfl | hu
    ·exact h0 _ e
    ·have hne:nmD a≠nmD d:=fun z=>n0 (waw _ (z▸zme ha))
     obtain⟨R',e'⟩:=zfw u hu;have:=e'.symm.trans e
     rw[wbc] at this;have:=wbU this
     exact hne (List.cons.inj this).1
   ·obtain⟨i1,i2⟩:=zgL h n2;refine⟨?_,i2⟩;rw[i1,far e _ (fun z=>n0 (waw _ (z▸zme h))) zfw,List.nil_append]
theorem zn9:∀{n:Nat}{ds:List D}{W:List Str},Ok n ds->((nL (n+1) ds W).map Nd.n).Nodup->∀t∈nL (n+1) ds W,fl t.w (nL (n+1) ds W)=t.l/\fl (t.w++[t.n]) (nL (n+1) ds W)=t.i
 | 0,ds,W,o,nd,t,h=>by rw[show ds = [] from o] at h;cases h
 | n+1,ds,W,o,nd,t,h=>by
   obtain⟨d,hd,h⟩:=zgJ h;rcases h with rfl | h
   ·refine⟨zgK,?_⟩;obtain⟨l1,_⟩:=zgL (R:=[]) hd nd;refine l1.trans ?_;exact zgK
   ·obtain⟨R,e⟩:=zfw t h;have e2:t.w=W++nmD d::R:=by rw[e];simp
    obtain⟨x,dp,inn,ed,oi⟩:=o d hd;have oi:Ok n (innD d):=by rw[ed];exact oi
    obtain⟨l1,n1⟩:=zgL (R:=R) hd nd;obtain⟨l2,_⟩:=zgL (R:=R++[t.n]) hd nd;obtain⟨i1,i2⟩:=zn9 oi n1 t h;refine⟨?_,?_⟩
    ·rw[<-i1,e2];exact l1
    ·rw[<-i2,e2,show W++nmD d::R++[t.n]=W++nmD d::(R++[t.n]) by simp];exact l2
def tx (xs:List Nat):Str:=⟨xs.toArray⟩
theorem zfx (xs:List Nat):(tx xs).cps.toList=xs:=by unfold tx;simp
theorem ziD (xs:List Nat):(tx xs).length=xs.length:=by show(xs.toArray).size=_;simp
theorem zoa {xs ys:List Nat}(h:tx xs=tx ys):xs=ys:=by rw[<-zfx xs,h,zfx]
theorem zkO {x:Str}{xs:List Nat}(h:x.cps.toList=xs):x=tx xs:=by
 cases x with
 | mk a=>unfold tx;rw[<-h]
theorem mulN {c n:Nat}(h:n<=1000):dMul (.str (sg c)) (.int (n:Int))=some (.str (tx (List.replicate n c))):=by
 rw[znx c (by omega) (by omega)];by_cases z:1<=n
 ·rw[zkO (zlJ c (n:Int) (by omega)),wbG]
 ·obtain rfl:n=0:=by omega
  rfl
theorem addS {xs ys:List Nat}(h:xs.length+ys.length<=1000):dAdd (.str (tx xs)) (.str (tx ys))=some (.str (tx (xs++ys))):=by
 show(if(tx xs).length+(tx ys).length<=lim then some (D.str (tx xs++tx ys)) else none)=_
 rw[if_pos (wai (by rw[ziD,ziD];exact h:_<=1000) (by decide))];congr 2;refine zkO ?_;show((tx xs).cps++(tx ys).cps).toList=_
 rw[wco,zfx,zfx]
theorem zob (c:Nat):sg c=tx [c]:=rfl
theorem abcN (i:Nat)(h:i<26):dIx (.str abcS) (.int (i:Int))=some (.str (sg (97+i))):=by
 rw[znv (by omega) (by omega),wbG]
theorem adN (a b:Nat):dAdd (.int (a:Int)) (.int (b:Int))=some (.int ((a+b:Nat):Int)):=by show some (D.int ((a:Int)+(b:Int)))=_;congr 2
theorem fdN (a m:Nat)(h:0<m)(h1:m<1000):dFdiv (.int (a:Int)) (.int (m:Int))=some (.int ((a / m:Nat):Int)):=by
 show(if CDiv (a:Int) (m:Int) then some (D.int ((a:Int) / (m:Int))) else none)=_
 rw[if_pos ⟨by omega,by omega⟩];rfl
theorem mdN (a m:Nat)(h:0<m):dMod (.int (a:Int)) (.int (m:Int))=some (.int ((a % m:Nat):Int)):=by
 show(if(0:Int)<(m:Int) then some (D.int ((a:Int) % (m:Int))) else none)=_
 rw[if_pos (by omega)];rfl
structure Sty where
 a:Nat
 b:Nat
 c:Nat
 d:Nat
 e:Nat
def Sty.D (s:Sty):VD.D:=.lst [.int (s.a:Int),.int (s.b:Int),.int (s.c:Int),.int (s.d:Int),.int (s.e:Int)]
structure Sty.Ok (s:Sty):Prop where
 a:s.a<3
 b:s.b<26
 c:s.c<7
 d:s.d<7
 e:s.e<26
def nmL (s:Sty)(k:Nat):List Nat:=
 if s.a=0 then List.replicate (1+k % 8) (97+(s.b+k / 8) % 26)
 else if s.a=1 then List.replicate (1+k / 26+s.c) (97+(s.b+k) % 26)
 else List.replicate (s.d % (s.c+1)) (97+s.e)++([97+(s.b+k) % 26]++[97+(s.b+k / 26) % 26])++List.replicate (s.c - s.d % (s.c+1)) (97+s.e)
theorem zmf {s:Sty}(o:s.Ok){k:Nat}(hk:k<40):zbU [s.D,.int (k:Int)]=some (.str (tx (nmL s k))):=by
 have i0:dIx s.D (.int 0)=some (.int (s.a:Int)):=zav (j:=0) rfl
 have i1:dIx s.D (.int 1)=some (.int (s.b:Int)):=zav (j:=1) rfl
 have i2:dIx s.D (.int 2)=some (.int (s.c:Int)):=zav (j:=2) rfl
 have i3:dIx s.D (.int 3)=some (.int (s.d:Int)):=zav (j:=3) rfl
 have i4:dIx s.D (.int 4)=some (.int (s.e:Int)):=zav (j:=4) rfl
 have f8:dFdiv (.int (k:Int)) (.int 8)=some (.int ((k / 8:Nat):Int)):=fdN k 8 (by decide) (by decide)
 have m8:dMod (.int (k:Int)) (.int 8)=some (.int ((k % 8:Nat):Int)):=mdN k 8 (by decide)
 have f26:dFdiv (.int (k:Int)) (.int 26)=some (.int ((k / 26:Nat):Int)):=fdN k 26 (by decide) (by decide)
 have m26:∀n:Nat,dMod (.int (n:Int)) (.int 26)=some (.int ((n % 26:Nat):Int)):=fun n=>mdN n 26 (by decide)
 have a1:∀n:Nat,dAdd (.int 1) (.int (n:Int))=some (.int ((1+n:Nat):Int)):=fun n=>adN 1 n
 have c1:dAdd (.int (s.c:Int)) (.int 1)=some (.int ((s.c+1:Nat):Int)):=adN s.c 1
 have o1:=o.a;have o2:=o.b;have o3:=o.c;have o4:=o.d;have o5:=o.e
 have ab:∀n:Nat,dIx (.str abcS) (.int ((n % 26:Nat):Int))=some (.str (sg (97+n % 26))):=fun n=>abcN _ (Nat.mod_lt _ (by decide))
 show zbT s.D (.int (k:Int))=_
 unfold zbT nmL;rw[zOB,i0,zOB,zdp];show(if decide ((s.a:Int)=0)=true then _ else _)=_
 by_cases z0:s.a=0
 ·rw[if_pos (wax (by omega)),if_pos z0,i1,zOB,f8,zOB,adN,zOB,m26,zOB];show Option.bind (Option.bind (dIx (.str abcS) _) _) _=_
  rw[ab,zOB,m8,zOB,a1,zOB,mulN (by omega)];rfl
 ·rw[if_neg (by simp;omega),if_neg z0,zOB,zdp];show(if decide ((s.a:Int)=1)=true then _ else _)=_
  by_cases z1:s.a=1
  ·rw[if_pos (wax (by omega)),if_pos z1,i1,zOB,adN,zOB,m26,zOB];show Option.bind (Option.bind (dIx (.str abcS) _) _) _=_
   rw[ab,zOB,f26,zOB,a1,zOB,i2,zOB,adN,zOB,mulN (by omega)];rfl
  ·rw[if_neg (by simp;omega),if_neg z1,i4,zOB];show Option.bind (dIx (.str abcS) _) _=_
   rw[abcN _ o5,zOB,i1,zOB,adN,zOB,m26,zOB];show Option.bind (Option.bind (dIx (.str abcS) _) _) _=_
   rw[ab,zOB,zOB,f26,zOB,adN,zOB,m26,zOB];show Option.bind (Option.bind (dIx (.str abcS) _) _) _=_
   have lm:s.d % (s.c+1)<s.c+1:=Nat.mod_lt _ (by omega)
   have sb:dSub (.int (s.c:Int)) (.int ((s.d % (s.c+1):Nat):Int))=some (.int ((s.c - s.d % (s.c+1):Nat):Int)):=by show some (D.int ((s.c:Int) - ((s.d % (s.c+1):Nat):Int)))=_;congr 2;omega
   rw[ab,zOB,zob,zob,addS (xs:=[97+(s.b+k) % 26]) (ys:=[97+(s.b+k / 26) % 26]) (waW (show 2<1000 by decide)),zOB,i3,zOB,i2,zOB,c1,zOB,mdN _ _ (by omega),zOB,mulN (by omega),zOB,addS (by simp;omega),zOB,zOB,sb,zOB,mulN (by omega),zOB,addS (by simp;omega)];rfl
theorem ziE {n m c d:Nat}(hn:0<n)(e:List.replicate n c=List.replicate m d):n=m/\c=d:=by
 have l:=waN List.length e
 rw[wbg,wbg] at l;refine⟨l,?_⟩;have h0:c∈List.replicate m d:=by rw[<-e];exact wbn.mpr ⟨by omega,rfl⟩
 exact(wbn.mp h0).2
theorem zoc {s:Sty}{j k:Nat}(hj:j<40)(hk:k<40)(e:nmL s j=nmL s k):j=k:=by
 unfold nmL at e;by_cases z0:s.a=0
 ·rw[if_pos z0,if_pos z0] at e;obtain⟨e1,e2⟩:=ziE (by omega) e;omega
 ·rw[if_neg z0,if_neg z0] at e;by_cases z1:s.a=1
  ·rw[if_pos z1,if_pos z1] at e;obtain⟨e1,e2⟩:=ziE (by omega) e;omega
  ·rw[if_neg z1,if_neg z1] at e;have e:=List.append_cancel_right e
   have e:=wbU e
   have q1:97+(s.b+j) % 26=97+(s.b+k) % 26:=by have:=waN (fun l:List Nat=>l[0]?) e;simpa using this
   have q2:97+(s.b+j / 26) % 26=97+(s.b+k / 26) % 26:=by have:=waN (fun l:List Nat=>l[1]?) e;simpa using this
   omega
theorem zod {s:Sty}(o:s.Ok){k:Nat}(hk:k<40):1<=(nmL s k).length/\(nmL s k).length<=8:=by
 have o3:=o.c
 unfold nmL;split
 ·rw[wbg];omega
 ·split
  ·rw[wbg];omega
  ·have lm:s.d % (s.c+1)<s.c+1:=Nat.mod_lt _ (by omega)
   simp only[was,wbg,waX,wcq];omega
theorem zoe {s:Sty}(o:s.Ok){k:Nat}:∀c∈nmL s k,97<=c/\c<=122:=fun c hc=>by
 have o5:=o.e
 unfold nmL at hc;split at hc
 ·have:=(wbn.mp hc).2;omega
 ·split at hc
  ·have:=(wbn.mp hc).2;omega
  ·rcases way.mp hc with hc | hc
   ·rcases way.mp hc with hc | hc
    ·have:=(wbn.mp hc).2;omega
    ·simp at hc;omega
   ·have:=(wbn.mp hc).2;omega
def fe (c n k:Int):D:=.lst [.int c,.int n,.int k]
theorem zof (c n k:Int):dIx (fe c n k) (.int 0)=some (.int c)/\dIx (fe c n k) (.int 1)=some (.int n)/\dIx (fe c n k) (.int 2)=some (.int k):=⟨zav (j:=0) rfl,zav (j:=1) rfl,zav (j:=2) rfl⟩
theorem ziF {c n k m:Int}(m0:0<m)(m1:m<1073741824):∃r c' n',zai [fe c n k,.int m]=some (.told (.int r),[fe c' n' k,.non])/\0<=r/\r<m:=by
 have hm:∀a b:Int,0<b->dMod (.int a) (.int b)=some (.int (a % b)):=fun a b h=>if_pos h
 have hd:∀a:Int,dFdiv (.int a) (.int m)=some (.int (a / m)):=fun a=>if_pos (show CDiv a m from⟨m0,m1⟩)
 have hl:∀a b:Int,-(2 ^ 64)<a->a<2 ^ 64->dMul (.int a) (.int b)=some (.int (a*b)):=fun a b h1 h2=>if_pos (show CMul a b from .inl ⟨h1,h2⟩)
 have hr:∀a b:Int,-(2 ^ 64)<b->b<2 ^ 64->dMul (.int a) (.int b)=some (.int (a*b)):=fun a b h1 h2=>if_pos (show CMul a b from .inr ⟨h1,h2⟩)
 have pw:dPow (.int 10) (.int 18)=some (.int 1000000000000000000):=rfl
 obtain⟨i0,i1,i2⟩:=zof c n k;obtain⟨j0,j1,j2⟩:=zof c (n+1) k;have p1:zjB (fe c n k) (.int 1) (.int (n+1))=some (fe c (n+1) k):=rfl
 show ∃r c' n',zbS (fe c n k) (.int m)=_/\_
 unfold zbS;rw[i1,zOB,show dAdd (.int n) (.int 1)=some (.int (n+1)) from rfl,zOB,p1,zOB,j0,zOB,pw,zOB,show dGe (.int c) (.int 1000000000000000000)=some (.bl (decide (1000000000000000000<=c))) from rfl,zOB,show ∀b,dB (.bl b)=some b from fun _=>rfl,zOB];by_cases h:1000000000000000000<=c
 ·refine⟨c % m,c / m,n+1,?_,wcr _ (by omega),wbV _ m0⟩;rw[wax h,if_pos rfl,zOB,hm _ _ m0,zOB,zOB,hd,zOB];rfl
 ·rw[war h,if_neg (by decide)];have b1:∀x:Int,0<=x % 2147483647/\x % 2147483647<2147483647:=fun x=>⟨wcr _ (by decide),wbV _ (by decide)⟩
  refine⟨((c % 1000003+7919*k+104729*(n+1))*48271 % 2147483647*((c % 1000003+7919*k+104729*(n+1))*48271 % 2147483647 % 65521+(n+1)) % 2147483629) % m,c,n+1,?_,wcr _ (by omega),wbV _ m0⟩
  ·rw[zOB,hm _ _ (by decide),zOB,j2,zOB,hl _ _ (by decide) (by decide),zOB,show ∀a b,dAdd (.int a) (.int b)=some (.int (a+b)) from fun _ _=>rfl,zOB,j1,zOB,hl _ _ (by decide) (by decide),zOB,show ∀a b,dAdd (.int a) (.int b)=some (.int (a+b)) from fun _ _=>rfl,zOB,hr _ _ (by decide) (by decide),zOB,hm _ _ (by decide),zOB,hm _ _ (by decide),zOB,zOB,show ∀a b,dAdd (.int a) (.int b)=some (.int (a+b)) from fun _ _=>rfl,zOB,hl _ _ (by have:=b1 ((c % 1000003+7919*k+104729*(n+1))*48271);omega) (by have:=b1 ((c % 1000003+7919*k+104729*(n+1))*48271);omega),zOB,hm _ _ (by decide),zOB,hm _ _ m0,zOB]
theorem zmg {S:Scr}{k:Int}(h0:0<=k):∃c,zaQ S [.scr S.p,.int k]=some (.new 1 (fe c 0 k),[.non,.non]):=by
 have hl:lenS S (.scr S.p)=some (.int S.ns.length):=if_pos rfl
 show ∃c,zbR S (.scr S.p) (.int k)=_
 unfold zbR;rw[hl,zOB,zdp,zOB,show ∀b,dB (.bl b)=some b from fun _=>rfl,zOB];by_cases h:(S.ns.length:Int)=0
 ·rw[wax h];exact⟨0,rfl⟩
 ·rw[war h];have hp:(0:Int)<S.ns.length:=by omega
  obtain⟨x,_,hx⟩:=zh6 (xs:=S.ns) (i:=k % S.ns.length) (wcr _ (by omega)) (wbV _ hp);refine⟨x,?_⟩;rw[if_neg (by decide),zOB,show dMod (.int k) (.int S.ns.length)=some (.int (k % S.ns.length)) from if_pos hp,zOB,show ixS S (.scr S.p) (.int (k % S.ns.length))=some (.int x) by show(if S.p=S.p then _ else _)=_;rw[if_pos rfl,hx];rfl];rfl
section
variable {B:Type}{R:B->Prop}
theorem zcZ {c n k m:Int}{K:RV×D->Option B}(m0:0<m)(m1:m<1073741824)(h:∀r c' n',0<=r->r<m->Po (K (.told (.int r),fe c' n' k)) R):Po (Option.bind (zcq zai (fun e=>e) [fe c n k,.int m]) K) R:=by
 obtain⟨r,c',n',e,h0,h1⟩:=ziF (c:=c) (n:=n) (k:=k) m0 m1;refine sx ?_ (h r c' n' h0 h1);show Option.bind (zai [fe c n k,.int m]) _=_
 rw[e];rfl
theorem zo1 {c n k m:Int}{x:Option (List (Option D)×D)}{K:RV×D->Option B}(hx:x=some ([none,some (.int m)],fe c n k))(m0:0<m)(m1:m<1073741824)(h:∀r c' n',0<=r->r<m->Po (K (.told (.int r),fe c' n' k)) R):Po (Option.bind (zlH zai [some 1,none] 0 1 (fun s=>s) (fun _ e=>e) x) K) R:=by
 obtain⟨r,c',n',e,h0,h1⟩:=ziF (c:=c) (n:=n) (k:=k) m0 m1;refine sx ?_ (h r c' n' h0 h1);rw[hx];show Option.bind (zai [fe c n k,.int m]) _=_
 rw[e];rfl
theorem zog {S:Scr}{k:Int}{K:D×Unit->Option B}(h0:0<=k)(h:∀c,Po (K (fe c 0 k,())) R):Po (Option.bind (Option.bind (Option.bind (Option.bind (some [.scr S.p,.int k]) fun d=>some (d,())) fun q3=>Option.bind (zaQ S q3.1) fun r4=>if q3.1.length=2 then some (r4.1,q3.2) else none) newD) K) R:=by
 obtain⟨c,e⟩:=zmg (S:=S) h0;refine sx ?_ (h c);show Option.bind (Option.bind (zaQ S [.scr S.p,.int k]) _) newD=_
 rw[e];rfl
end
theorem ziG {xs:List D}{P:D->Prop}{i:Int}(h:∀d∈xs,P d)(h0:0<=i)(h1:i<xs.length):∃d,dIx (.lst xs) (.int i)=some d/\P d:=by
 obtain⟨x,hx,e⟩:=zh6 (xs:=xs) h0 h1;exact⟨x,e,h x (waA hx)⟩
def zjZ (lo hi:Int)(d:D):Prop:=∃n,d=.int n/\lo<=n/\n<=hi
def zoh (d:D):Prop:=∃x,d=.str x
theorem adI (a b:Int):dAdd (.int a) (.int b)=some (.int (a+b)):=rfl
theorem sbI (a b:Int):dSub (.int a) (.int b)=some (.int (a - b)):=rfl
theorem mk4 (a b c d:D):mkT [a,b,c,d]=some (.tup [a,b,c,d]):=if_pos (by show 4<=lim;decide)
def mx:Nat->List Itm->Nat
 | m,[]=>m
 | _,x::S=>mx (x.dp+1) S
theorem ziH:∀{m:Nat}{L:List Itm}{x:Itm},Vd m L->x.dp<=mx m L->x.dp<=4->Vd m (L++[x])
 | _,[],x,.nil,h,h4=>.cons h h4 .nil
 | _,y::S,x,.cons hm hy t,h,h4=>.cons hm hy (ziH t h h4)
theorem ziI:∀{m:Nat}{L:List Itm}{x:Itm},mx m (L++[x])=x.dp+1
 | _,[],_=>rfl
 | _,y::S,x=>ziI (L:=S)
structure Rws2 (s:Sty)(L:List Itm):Prop where
 o:s.Ok
 t:Vd 0 L
 hl:L.length<=40
 hn:L.map Itm.nm=(List.range L.length).map fun k=>tx (nmL s k)
theorem zmh {S:Scr}:Po (zbV S (.scr S.p)) fun d=>∃s L,d=GB.rowsD L/\Rws2 s L:=by
 unfold zbV;refine zog (k:=0) (by decide) fun c=>?_
 dsimp only[];repeat (first | refine sx rfl ?_ | with_reducible refine asc ?_)
 refine zcZ (by decide) (by decide) fun r5 c1 n1 a0 a1=>?_
 dsimp only[RV.d];repeat (first | refine sx rfl ?_ | with_reducible refine asc ?_)
 refine zcZ (by decide) (by decide) fun r13 c2 n2 a2 a3=>?_
 dsimp only[RV.d];repeat (first | refine sx rfl ?_ | with_reducible refine asc ?_)
 refine zcZ (by decide) (by decide) fun r8 c3 n3 a4 a5=>?_
 dsimp only[RV.d];repeat (first | refine sx rfl ?_ | with_reducible refine asc ?_)
 obtain⟨_,e1,j,rfl,j0,j1⟩:=ziG (P:=zjZ 0 2) (i:=r8) (xs:=[.int 0,.int 1,.int 1,.int 1,.int 1,.int 1,.int 1,.int 2]) (by simp[zjZ]) a4 a5;refine sx e1 ?_;repeat (first | refine sx rfl ?_ | with_reducible refine asc ?_)
 obtain⟨_,e2,m,rfl,m0,m1⟩:=ziG (P:=zjZ 0 40) (i:=j) (xs:=[.int r5,.int r13,.int 40]) (by simp[zjZ];omega) j0 (by show j<3;omega);refine sx e2 ?_;repeat (first | refine sx rfl ?_ | with_reducible refine asc ?_)
 refine zcZ (by decide) (by decide) fun s0 c4 n4 b0 b1=>?_
 dsimp only[RV.d];repeat (first | refine sx rfl ?_ | with_reducible refine asc ?_)
 refine zcZ (by decide) (by decide) fun s1 c5 n5 b2 b3=>?_
 dsimp only[RV.d];repeat (first | refine sx rfl ?_ | with_reducible refine asc ?_)
 refine zcZ (by decide) (by decide) fun s2 c6 n6 b4 b5=>?_
 dsimp only[RV.d];repeat (first | refine sx rfl ?_ | with_reducible refine asc ?_)
 refine zcZ (by decide) (by decide) fun s3 c7 n7 b6 b7=>?_
 dsimp only[RV.d];repeat (first | refine sx rfl ?_ | with_reducible refine asc ?_)
 refine zcZ (by decide) (by decide) fun s4 c8 n8 b8 b9=>?_
 dsimp only[RV.d];repeat (first | refine sx rfl ?_ | with_reducible refine asc ?_)
 obtain⟨m,rfl⟩:∃k:Nat,m=k:=⟨m.toNat,by omega⟩
 obtain⟨s0,rfl⟩:∃k:Nat,s0=k:=⟨s0.toNat,by omega⟩
 obtain⟨s1,rfl⟩:∃k:Nat,s1=k:=⟨s1.toNat,by omega⟩
 obtain⟨s2,rfl⟩:∃k:Nat,s2=k:=⟨s2.toNat,by omega⟩
 obtain⟨s3,rfl⟩:∃k:Nat,s3=k:=⟨s3.toNat,by omega⟩
 obtain⟨s4,rfl⟩:∃k:Nat,s4=k:=⟨s4.toNat,by omega⟩
 have so:(Sty.mk s0 s1 s2 s3 s4).Ok:=⟨by show s0<3;omega,by show s1<26;omega,by show s2<7;omega,by show s3<7;omega,by show s4<26;omega⟩
 refine sx (show rngA [.int (m:Int)]=some (zaE 0 m) from if_pos ⟨by omega,by omega⟩) ?_;dsimp only[];refine zl3 (fun i s=>∃L f,s=(f,L.map Itm.d,.int ((mx 0 L:Int) - 1))/\Vd 0 L/\L.length=i/\L.map Itm.nm=(List.range i).map fun k=>tx (nmL ⟨s0,s1,s2,s3,s4⟩ k)) ⟨[],_,rfl,.nil,rfl,rfl⟩ (fun i s d hd hI=>?_) fun s hI=>?_
 ·obtain⟨L,f,rfl,t,hL,hN⟩:=hI;obtain⟨hi,rfl⟩:=zc6 hd;dsimp only[];refine zog (k:=1+(i:Int)) (by omega) fun c=>?_
  dsimp only[RV.d];repeat (first | with_reducible refine sx rfl ?_ | with_reducible refine asc ?_ | with_reducible refine sx (adI _ _) ?_ | with_reducible refine sx (sbI _ _) ?_ | with_reducible refine sx (mk4 _ _ _ _) ?_ | (dsimp only[RV.d]))
  refine zo1 (m:=if(mx 0 L:Int) - 1+2<5 then(mx 0 L:Int) - 1+2 else 5) rfl (by split <;> omega) (by split <;> omega) fun r c' n' r0 r1=>?_
  have r2:r<=mx 0 L/\r<=4:=by split at r1 <;> omega
  obtain⟨r,rfl⟩:∃k:Nat,r=k:=⟨r.toNat,by omega⟩
  have r3:r<=mx 0 L:=by omega
  have r4:r<=4:=by omega
  repeat (first | with_reducible refine sx rfl ?_ | with_reducible refine asc ?_ | with_reducible refine sx (adI _ _) ?_ | with_reducible refine sx (sbI _ _) ?_ | with_reducible refine sx (mk4 _ _ _ _) ?_ | (dsimp only[RV.d]))
  refine zcZ (by decide) (by decide) fun w8 c7 n7 w0 w1=>?_
  repeat (first | with_reducible refine sx rfl ?_ | with_reducible refine asc ?_ | with_reducible refine sx (adI _ _) ?_ | with_reducible refine sx (sbI _ _) ?_ | with_reducible refine sx (mk4 _ _ _ _) ?_ | (dsimp only[RV.d]))
  obtain⟨_,e5,wd,rfl⟩:=ziG (P:=zoh) (i:=w8) (xs:=[.str "free",.str "free",.str "shut",.str "hidden"]) (by simp[zoh]) w0 (by show w8<4;omega);refine sx e5 ?_;repeat (first | with_reducible refine sx rfl ?_ | with_reducible refine asc ?_ | with_reducible refine sx (adI _ _) ?_ | with_reducible refine sx (sbI _ _) ?_ | with_reducible refine sx (mk4 _ _ _ _) ?_ | (dsimp only[RV.d]))
  refine zcZ (by decide) (by decide) fun x1 d0 e0 p0 q0=>?_
  repeat (first | with_reducible refine sx rfl ?_ | with_reducible refine asc ?_ | with_reducible refine sx (adI _ _) ?_ | with_reducible refine sx (sbI _ _) ?_ | with_reducible refine sx (mk4 _ _ _ _) ?_ | (dsimp only[RV.d]))
  refine zcZ (by decide) (by decide) fun x2 d1 e1 p1 q1=>?_
  repeat (first | with_reducible refine sx rfl ?_ | with_reducible refine asc ?_ | with_reducible refine sx (adI _ _) ?_ | with_reducible refine sx (sbI _ _) ?_ | with_reducible refine sx (mk4 _ _ _ _) ?_ | (dsimp only[RV.d]))
  refine zcZ (by decide) (by decide) fun x3 d2 e2 p2 q2=>?_
  repeat (first | with_reducible refine sx rfl ?_ | with_reducible refine asc ?_ | with_reducible refine sx (adI _ _) ?_ | with_reducible refine sx (sbI _ _) ?_ | with_reducible refine sx (mk4 _ _ _ _) ?_ | (dsimp only[RV.d]))
  refine zcZ (by decide) (by decide) fun x4 d3 e3 p3 q3=>?_
  repeat (first | with_reducible refine sx rfl ?_ | with_reducible refine asc ?_ | with_reducible refine sx (adI _ _) ?_ | with_reducible refine sx (sbI _ _) ?_ | with_reducible refine sx (mk4 _ _ _ _) ?_ | (dsimp only[RV.d]))
  refine sx (zmf so (by omega)) ?_;repeat (first | with_reducible refine sx rfl ?_ | with_reducible refine asc ?_ | with_reducible refine sx (adI _ _) ?_ | with_reducible refine sx (sbI _ _) ?_ | with_reducible refine sx (mk4 _ _ _ _) ?_ | (dsimp only[RV.d]))
  refine zcZ (by decide) (by decide) fun x5 d5 e5 p5 q5=>?_
  repeat (first | with_reducible refine sx rfl ?_ | with_reducible refine asc ?_ | with_reducible refine sx (adI _ _) ?_ | with_reducible refine sx (sbI _ _) ?_ | with_reducible refine sx (mk4 _ _ _ _) ?_ | (dsimp only[RV.d]))
  refine sx (zdH (waV (by rw[wao];omega:_<=40) (by decide))) ?_;repeat (first | with_reducible refine sx rfl ?_ | with_reducible refine asc ?_ | with_reducible refine sx (adI _ _) ?_ | with_reducible refine sx (sbI _ _) ?_ | with_reducible refine sx (mk4 _ _ _ _) ?_ | (dsimp only[RV.d]))
  refine⟨_,rfl,L++[⟨r,tx (nmL ⟨s0,s1,s2,s3,s4⟩ i),x1,x2,1+x3,1+x4,wd,x5⟩],fe d5 e5 (1+(i:Int)),?_,ziH t r3 r4,by simp[hL],?_⟩
  ·rw[ziI,waD,show((r+1:Nat):Int) - 1=(r:Int) by omega];rfl
  ·rw[waD,hN,<-zg1,List.map_singleton]
 ·obtain⟨L,f,rfl,t,hL,hN⟩:=hI;rw[zg2] at hL hN;exact⟨_,rfl,⟨s0,s1,s2,s3,s4⟩,L,rfl,so,t,by omega,by rw[hL];exact hN⟩
theorem zmi {S:Scr}:∃s L,zbo S [.scr S.p]=some (GB.rowsD L)/\Rws2 s L:=by
 obtain⟨d,e,s,L,rfl,h⟩:=zmh (S:=S);exact⟨s,L,e,h⟩
theorem zj0 {xs:List D}{x:D}:VD.cut (xs++[x]) none (some (-1))=xs:=by
 unfold VD.cut;have e1:HT.sIx (xs++[x]).length 0 none=0:=rfl
 have e2:HT.sIx (xs++[x]).length (xs++[x]).length (some (-1))=xs.length:=by
  show(if(-1:Int)<0 then((-1:Int)+((xs++[x]).length:Int)).toNat else min (-1:Int).toNat (xs++[x]).length)=_
  rw[if_pos (by decide),was,List.length_singleton];omega
 rw[e1,e2];simp
def stL (W:List Str):D:=.lst (W.map D.str)
theorem zgM {c:List D}(hl:c.length<=10000)(h:∀d∈c,IsP d):zbp (fun d3=>(Option.bind (dIx d3 (.int 0)) fun z=>some (some z))) c=some ((c.map nmD).map D.str):=by
 have:=zcP (f:=fun d3=>(Option.bind (dIx d3 (.int 0)) fun z=>some (some z))) (fun d=>d) (fun d=>D.str (nmD d)) hl fun d hd=>by
  obtain⟨x,dp,inn,rfl⟩:=h d hd;rw[(zby x dp inn).1];rfl
 rw[List.map_id'] at this;rw[this,wbv];rfl
theorem zoi {ds:List D}{nm:Str}{q:List D×List D}(o:Ok 7 ds)(hl:(ot (fun _=>true) 8 ds).length<=1000)(nd:((ot (fun _=>true) 8 ds).map fun d=>(nr d).2).Nodup)(hq:q∈pl 8 ds [] [])(hn:nmQ q=nm):zaJ [.tup ds,.str nm]=some (.lst q.2)/\q.2≠[]/\∀d∈q.2,IsP d:=by
 have e1:=zcL o hl nd hq hn
 obtain⟨p',c',e2,h0,hp,hf⟩:=zkJ o _ hq;have e2:q=(p',c'):=e2
 subst e2;obtain⟨z,e3⟩:=hf [] (by decide);refine⟨?_,h0,hp⟩;show zck (.tup ds) (.str nm)=_
 unfold zck;rw[zOB,zOB,e1,zOB];show Option.bind (Option.bind (some p') (zaL gC ([],.tup ds))) _=_
 rw[zOB,e3];rfl
theorem ziJ {ds c:List D}{nm:Str}(hc:zaJ [.tup ds,.str nm]=some (.lst c))(h0:c≠[])(hl:c.length<=10000)(hp:∀d∈c,IsP d):zcl [.tup ds,.str nm]=some (.new 1 (stL (c.dropLast.map nmD)),[.non,.non]):=by
 obtain⟨c0,d0,rfl⟩:∃c0 d0,c=c0++[d0]:=⟨c.dropLast,c.getLast h0,(waM h0).symm⟩
 show zdq _ _=_
 unfold zdq;rw[hc,zOB,show dNeg (.int 1)=some (.int (-1)) from rfl];show Option.bind (Option.bind (Option.bind (some (D.lst (VD.cut (c0++[d0]) none (some (-1))))) dSeq) _) _=_
 rw[zj0,wcg,zOB];show Option.bind (zbp _ c0) _=_
 rw[zgM (by simp at hl;omega) fun d hd=>hp d (wbp _ hd)];rfl
theorem zha {ds:List D}(hl:ds.length<=10000)(hp:∀d∈ds,IsP d):zaz [.tup ds,.non]=some (.new 1 (stL (ds.map nmD)),[.non,.non]):=by
 show zbi (.tup ds) .non=_
 unfold zbi;show Option.bind (zbp _ ds) _=_
 rw[zgM hl hp];rfl
theorem zj1 {ds inn:List D}{nm:Str}{x:Itm}{dp:Nat}(h:zbK [.tup ds,.str nm]=some (part x dp inn))(hl:inn.length<=10000)(hp:∀d∈inn,IsP d):zaz [.tup ds,.str nm]=some (.new 1 (stL (inn.map nmD)),[.non,.non]):=by
 show zbi _ _=_
 unfold zbi;show Option.bind (Option.bind (zbK [.tup ds,.str nm]) _) _=_
 rw[h,zOB,(zby x dp inn).2.2.2];show Option.bind (zbp _ inn) _=_
 rw[zgM hl hp];rfl
theorem ziK {ds c:List D}{nm:Str}(hc:zaJ [.tup ds,.str nm]=some (.lst c))(h0:c≠[])(hp:∀d∈c,IsP d):zbe [.tup ds,.str nm]=some (.tup (levT ds c)):=by
 show zbd _ _=_
 unfold zbd levT;rw[hc,zOB,show bLen [.lst c]=some (.int (c.length:Int)) from rfl,zOB,zdp];obtain⟨c0,d0,rfl⟩:∃c0 d0,c=c0++[d0]:=⟨c.dropLast,c.getLast h0,(waM h0).symm⟩
 rw[wcg];by_cases z:c0 = []
 ·subst z;rw[if_pos rfl];rfl
 ·have hz:(c0++[d0]).length≠1:=by
   rw[was];cases c0 with
   | nil=>exact absurd rfl z
   | cons a b=>simp
  rw[if_neg z,war (by omega)];obtain⟨c1,d1,rfl⟩:∃c1 d1,c0=c1++[d1]:=⟨c0.dropLast,c0.getLast z,(waM z).symm⟩
  obtain⟨x,dp,inn,rfl⟩:=hp d1 (by simp);rw[zaK];have e:dIx (.lst (c1++[part x dp inn]++[d0])) (.int (-2))=some (part x dp inn):=by
   show atI (c1++[part x dp inn]++[d0]) (-2)=_
   unfold atI ixN;rw[if_neg (by decide),if_pos (by simp;omega),zOB];have:((-2:Int)+((c1++[part x dp inn]++[d0]).length:Nat)).toNat=c1.length:=by simp;omega
   rw[this];simp
  show Option.bind (Option.bind (dIx (.lst (c1++[part x dp inn]++[d0])) (.int (-2))) _) _=_
  rw[e,zOB,(zby x dp inn).2.2.2];rfl
theorem zj2 {ds c:List D}{nm:Str}(hc:zaJ [.tup ds,.str nm]=some (.lst c))(h0:c≠[])(hp:∀d∈c,IsP d)(hl:(levT ds c).length<=10000)(hp2:∀d∈levT ds c,IsP d):zbh [.tup ds,.str nm]=some (.new 1 (stL ((levT ds c).map nmD)),[.non,.non]):=by
 show zcm _ _=_
 unfold zcm;rw[ziK hc h0 hp];show Option.bind (zbp _ (levT ds c)) _=_
 rw[zgM hl hp2];rfl
theorem ziL {W:List Str}{a:Str}(h:W.length<=100):dAdd (stL W) (.lst [.str a])=some (stL (W++[a])):=by
 show mkL (W.map D.str++[.str a])=_
 unfold mkL;rw[if_pos (wai (by simp;omega:_<=101) (by decide))];unfold stL;rw[waD];rfl
theorem ziM {L:List Itm}(t:Vd 0 L)(hl:L.length<=40):zbg [GB.rowsD L]=some (.lst ((nR [] L).map fun p=>stL p.1)):=by
 show zbf (.lst (L.map Itm.d))=_
 unfold zbf;rw[zOB,zOB];show Option.bind (Option.bind (some (L.map Itm.d)) _) _=_
 rw[zOB];generalize hf:(fun(s3:List D×D) (d4:D)=>(Option.bind (Option.bind (Option.bind (dIx d4 (.int 0)) _) fun v5=>(dSl s3.2 none v5)) fun(x6:D)=>_))=f;have one:∀(x:Itm) (P:List Str) (acc:List D),x.dp<=P.length->P.length<=100->acc.length<=100->f (acc,stL P) x.d=some (acc++[stL (P.take x.dp)],stL (P.take x.dp++[x.nm])):=by
  intro x P acc hp hP ha;rw[<-hf];have i0:dIx x.d (.int 0)=some (.int (x.dp:Int)):=zav (j:=0) rfl
  have i1:dIx x.d (.int 1)=some (.str x.nm):=zav (j:=1) rfl
  dsimp only[];rw[i0,zOB];have s1:dSl (stL P) none (some (x.dp:Int))=some (stL (P.take x.dp)):=by
   show some (D.lst (VD.cut (P.map D.str) none (some (x.dp:Int))))=_
   rw[zgs (by omega) (by rw[wao];omega),wbG,<-List.map_take];rfl
  show Option.bind (dSl (stL P) none (some (x.dp:Int))) _=_
  rw[s1,zOB,zdH (waV ha (by decide)),zOB,i1];show Option.bind (dAdd (stL (P.take x.dp)) (.lst [.str x.nm])) _=_
  rw[ziL (by rw[waK];omega)];rfl
 have key:∀{m:Nat}{S:List Itm},Vd m S->∀(P:List Str) (acc:List D),P.length=m->m<=5->acc.length+S.length<=100->∃z,zaL f (acc,stL P) (S.map Itm.d)=some (acc++(nR P S).map (fun p=>stL p.1),z):=by
  intro m S t;induction t with
  | nil=>intro P acc _ _ _;exact⟨_,by show some (acc,_)=some (acc++[],_);rw[waC]⟩
  | cons hm h4 t ih=>
    rename_i m x S
    intro P acc hP h5 ha;rw[waX] at ha;obtain⟨z,hz⟩:=ih (P.take x.dp++[x.nm]) (acc++[stL (P.take x.dp)]) (by rw[was,waK,wbl (by omega)];rfl) (by omega) (by simp;omega);refine⟨z,?_⟩;rw[wbe];show(f (acc,stL P) x.d).bind _=_
    rw[one x P acc (by omega) (by omega) (by omega),zOB,hz];show some (acc++[_]++_,z)=some (acc++(_::_),z)
    rw[wbc];rfl
 obtain⟨z,hz⟩:=key t [] [] rfl (by decide) (by simp;omega);rw[show zaL f ([],D.lst []) (L.map Itm.d)=some (([]:List D)++(nR [] L).map (fun p=>stL p.1),z) from hz];rfl
theorem zgN:∀A B:List Str,zez (A.map D.str) (B.map D.str)=true
 | [],_=>by cases ‹List Str› <;> rfl
 | _::_,[]=>rfl
 | a::A,b::B=>by show(true&&zez (A.map D.str) (B.map D.str))=true;rw[zgN A B];rfl
theorem zdS:∀Q:List Str,ndL (Q.map D.str)=true/\depL (Q.map D.str)=0
 | []=>⟨rfl,rfl⟩
 | q::Q=>⟨by show(true&&ndL (Q.map D.str))=true;rw[(zdS Q).1];rfl,by show max 0 (depL (Q.map D.str))=0;rw[(zdS Q).2];rfl⟩
theorem zdT:∀{A B:List Str},A.map D.str=B.map D.str->A=B
 | [],[],_=>rfl
 | a::A,b::B,h=>by
   obtain⟨h1,h2⟩:=List.cons.inj h;cases h1;rw[zdT h2]
 | [],_::_,h=>by cases h
 | _::_,[],h=>by cases h
theorem ziN (A B:List Str):eqC (stL A) (stL B)=true:=by
 unfold eqC;have h1:eqOk (stL A) (stL B)=true:=zgN A B
 have h2:ndD (stL A)=true:=(zdS A).1
 have h3:ndD (stL B)=true:=(zdS B).1
 have h4:depD (stL A)<=40:=by show depL (A.map D.str)+1<=40;rw[(zdS A).2];decide
 rw[h1,h2,h3,wax h4];rfl
theorem ziO (A B:List Str):dEqG false (stL A) (stL B)=some (.bl (decide (A=B))):=by
 unfold dEqG;rw[if_pos (ziN A B),if_neg (by decide),zam (show stL A=stL B↔A=B from⟨fun h=>by unfold stL at h;exact zdT (D.lst.inj h),fun h=>by rw[h]⟩)]
theorem zoj (A:List Str):dEqG true (stL A) (stL A)=some (.bl false):=zh7 (ziN A A) true
theorem ziP {Q:List Str}(h:Q.length<=100):Option.bind (zal [stL Q,stL Q]) zbl=some (.bl true):=by
 show Option.bind (zbY (stL Q) (stL Q)) zbl=_
 unfold zbY;rw[show isD "list" (stL Q)=some (.bl true) from rfl,zoj,show appD (stL Q) (.str "zz")=some (.lst (Q.map D.str++[.str "zz"])) from by
  show(appL (Q.map D.str) (.str "zz")).bind _=_
  rw[zdH (waV (by rw[wao];omega:_<=100) (by decide))];rfl]
 rfl
theorem ziQ:∀{n:Nat}{ds:List D},Ok n ds->∀d∈ds,IsP d
 | 0,ds,o,d,h=>by rw[show ds = [] from o] at h;cases h
 | n+1,ds,o,d,h=>by
   obtain⟨x,dp,inn,e,_⟩:=o d h;exact⟨x,dp,inn,e⟩
theorem zo2:∀{n:Nat}{ds pre ch:List D},Ok n ds->∀q∈pl (n+1) ds pre ch,∃c,q.2=ch++c/\∀d∈c,∀e∈innD d,IsP e:=by
 intro n;induction n with
 | zero=>intro ds pre ch o q h;rw[show ds = [] from o] at h;cases h
 | succ n ih=>
   intro ds pre ch o;have key:∀(es:List D) (b:Nat),(∀d∈es,∃x dp inn,d=part x dp inn/\Ok n inn)->∀q∈plI (pl (n+1)) pre ch b es,∃c,q.2=ch++c/\∀d∈c,∀e∈innD d,IsP e:=by
    intro es;induction es with
    | nil=>intro b _ q h;cases h
    | cons d es ih2=>
      intro b o q h;obtain⟨x,dp,inn,rfl,oi⟩:=o d wal;have hd:∀e∈innD (part x dp inn),IsP e:=fun e he=>ziQ oi e he
      rw[zds] at h;rcases wag.mp h with rfl | h
      ·exact⟨[part x dp inn],rfl,fun d hd'=>by rw[waq.mp hd'];exact hd⟩
      ·rcases way.mp h with h | h
       ·obtain⟨c,e,hc⟩:=ih oi q h;refine⟨part x dp inn::c,by rw[e];simp,fun d hd'=>?_⟩;rcases wag.mp hd' with rfl | hd'
        ·exact hd
        ·exact hc d hd'
       ·exact ih2 (b+1) (fun y hy=>o y (waf _ hy)) q h
   exact key ds 0 o
theorem zdU {V:List Str}{T:List Nd}:(fl V T).length<=T.length:=by unfold fl;rw[wao];exact List.length_filter_le _ _
abbrev T8 (L:List Itm):List Nd:=nL 8 (fo L 0) []
theorem zgO {L:List Itm}(t:Vd 0 L):(T8 L).length=L.length:=by
 have h1:=waN List.length (zjY t)
 have h2:=waN List.length (zmc (P:=[]) (L:=L))
 rw[wao] at h1 h2;rw[wao] at h2;exact h1.trans h2
theorem zok {L:List Itm}(t:Vd 0 L):(T8 L).map Nd.n=L.map Itm.nm:=by
 have:=waN (List.map (fun p:List Str×Str=>p.2)) (zjY t)
 rw[zmc,wbv] at this;exact this
structure Kth (L:List Itm)(k:Nat)(u:Nd):Prop where
 tk:(T8 L)[k]?=some u
 nr:(nR [] L)[k]?=some (u.w,u.n)
 nm:(L.map Itm.nm)[k]?=some u.n
 ar:zcl [.tup (fo L 0),.str u.n]=some (.new 1 (stL u.w),[.non,.non])
 inn:zaz [.tup (fo L 0),.str u.n]=some (.new 1 (stL u.i),[.non,.non])
 lv:zbh [.tup (fo L 0),.str u.n]=some (.new 1 (stL u.l),[.non,.non])
 wl:u.w.length<=40
 fl1:fl u.w (T8 L)=u.l
 fl2:fl (u.w++[u.n]) (T8 L)=u.i
theorem kth {L:List Itm}{k:Nat}(t:Vd 0 L)(hl:L.length<=40)(nd:(L.map Itm.nm).Nodup)(hk:k<L.length):∃u,Kth L k u:=by
 have tl:=zgO t
 have o:Ok 7 (fo L 0):=(zdN t 0).up
 have ho:(ot (fun _=>true) 8 (fo L 0)).length<=1000:=by rw[zgH t];omega
 have hn:((ot (fun _=>true) 8 (fo L 0)).map fun d=>(GB.nr d).2).Nodup:=by rw[zl8 t];exact nd
 obtain⟨u,hu⟩:∃u,(T8 L)[k]?=some u:=⟨_,wat (by omega)⟩
 have et:(pl 8 (fo L 0) [] []).map (ndQ (fo L 0))=T8 L:=zoZ (n:=8) (pre:=[]) (ch:=[]) (if_pos rfl)
 obtain⟨q,hq,eq⟩:∃q,(pl 8 (fo L 0) [] [])[k]?=some q/\ndQ (fo L 0) q=u:=by
  have h:((pl 8 (fo L 0) [] []).map (ndQ (fo L 0)))[k]?=some u:=by rw[et];exact hu
  rw[wam] at h;cases z:(pl 8 (fo L 0) [] [])[k]? with
  | none=>rw[z] at h;cases h
  | some q=>rw[z] at h;exact⟨q,rfl,wau h⟩
 have hm:=waA hq
 have en:nmQ q=u.n:=by rw[<-eq];rfl
 obtain⟨hc,h0,hp⟩:=zoi o ho hn hm en;obtain⟨c,ec,hi⟩:=zo2 o q hm;have ec:q.2=c:=ec
 rw[<-ec] at hi;have lm:zbq q.2∈q.2:=by
  obtain⟨c0,d0,e⟩:∃c0 d0,q.2=c0++[d0]:=⟨q.2.dropLast,q.2.getLast h0,(waM h0).symm⟩
  rw[e,zaK];simp
 obtain⟨x,P,d,a⟩:=zoX hk;have ed:d=zbq q.2:=by
  have h:=a.tr
  rw[<-zc8 t,wam,hq] at h;have:=wau h
  exact(waN Prod.snd this).symm
 have ex:x.nm=u.n:=by rw[<-a.nm,ed,<-eq];rfl
 have hpt:=zoY t hl nd a
 rw[ex,ed] at hpt;obtain⟨y,dp,inn,ey⟩:=hp _ lm;have nT:((nL (7+1) (fo L 0) []).map Nd.n).Nodup:=by show((T8 L).map Nd.n).Nodup;rw[zok t];exact nd
 obtain⟨f1,f2⟩:=zn9 (n:=7) o nT u (waA hu);have li:u.i.length<=40:=by rw[<-f2];exact wai zdU (by show(T8 L).length<=40;omega)
 have ll:u.l.length<=40:=by rw[<-f1];exact wai zdU (by show(T8 L).length<=40;omega)
 have nrk:(nR [] L)[k]?=some (u.w,u.n):=by rw[<-zjY t,wam,show(nL 8 (fo L 0) [])[k]?=some u from hu];rfl
 have eI:u.i=(innD (zbq q.2)).map nmD:=by rw[<-eq];rfl
 have eL:u.l=(levT (fo L 0) q.2).map nmD:=by rw[<-eq];rfl
 have eW:u.w=q.2.dropLast.map nmD:=by rw[<-eq];rfl
 have eIl:(innD (zbq q.2)).length<=10000:=by
  have:=waN List.length eI
  rw[wao] at this;omega
 have eLl:(levT (fo L 0) q.2).length<=10000:=by
  have:=waN List.length eL
  rw[wao] at this;omega
 have cl:q.2.length<=40:=by
  have:∀{n:Nat}{ds pre ch:List D},∀q∈pl n ds pre ch,q.2.length<=ch.length+n:=by
   intro n;induction n with
   | zero=>intro ds pre ch q h;cases h
   | succ n ih=>
     intro ds pre ch;have key:∀(es:List D) (b:Nat),∀q∈plI (pl n) pre ch b es,q.2.length<=ch.length+(n+1):=by
      intro es;induction es with
      | nil=>intro b q h;cases h
      | cons d es ih2=>
        intro b q h;rcases wag.mp h with rfl | h
        ·simp
        ·rcases way.mp h with h | h
         ·have:=ih q h
          simp at this;omega
         ·exact ih2 (b+1) q h
     exact key ds 0
  have:=this q hm
  simp at this;omega
 refine⟨u,hu,nrk,?_,?_,?_,?_,?_,f1,f2⟩
 ·rw[<-ex,wam,a.row];rfl
 ·rw[eW];exact ziJ hc h0 (by omega) hp
 ·rw[eI,ey];rw[ey] at hpt eIl lm;exact zj1 hpt eIl fun e he=>hi _ lm e he
 ·rw[eL];refine zj2 hc h0 hp eLl ?_;unfold levT;by_cases z:q.2.dropLast = []
  ·rw[if_pos z];exact ziQ o
  ·rw[if_neg z];obtain⟨c1,d1,e1⟩:∃c1 d1,q.2.dropLast=c1++[d1]:=⟨_,_,(waM z).symm⟩
   rw[e1,zaK];exact hi d1 ((List.dropLast_sublist q.2).subset (by rw[e1];simp))
 ·rw[eW,wao,List.length_dropLast];omega
theorem zj3 {x:Str}{th:List Str}:dInG true (.str x) (.lst (th.map D.str))=some (.bl (!decide (x∈th))):=by
 have hc:inC (.str x) (th.map D.str)=true:=by
  unfold inC;rw[waB];refine⟨rfl,waQ.mpr fun y hy=>?_⟩;obtain⟨z,_,rfl⟩:=waL.mp hy;rfl
 show(if inC (.str x) (th.map D.str)=true then some (D.bl (if true=true then !decide (D.str x∈th.map D.str) else decide (D.str x∈th.map D.str))) else none)=_
 rw[if_pos hc,if_pos rfl,zam (show D.str x∈th.map D.str↔x∈th from⟨fun h=>by
  obtain⟨z,hz,e⟩:=waL.mp h;cases e;exact hz,fun h=>waL.mpr ⟨x,h,rfl⟩⟩)]
theorem ziR {x:Str}{lo hi:Option Int}{c:Nat}(h:c∈(Txt.slice x lo hi).cps.toList):c∈x.cps.toList:=by
 unfold Txt.slice at h;split at h
 ·exact h
 ·obtain⟨i,_,hi⟩:=wbO.mp (by simpa using h);exact waA (by simpa using hi)
theorem ziS {x:Str}(hl:x.length<=1000)(h:∀c∈x.cps.toList,c<16 ^ 8):okTx x=true:=by
 unfold okTx;rw[waB];exact⟨wax hl,waQ.mpr fun c hc=>wax (h c hc)⟩
theorem zf6 {n:Nat}(h:n<=1000):rngA [.int (n:Int)]=some (zaE 0 n):=if_pos ⟨by omega,by omega⟩
theorem zol {s:Sty}{L:List Itm}(R:Rws2 s L):(L.map Itm.nm).Nodup:=by
 rw[R.hn];refine List.pairwise_map.mpr (List.nodup_range.imp_of_mem fun {a b} ha hb hne e=>hne ?_);have:=R.hl
 have:=wbo.mp ha
 have:=wbo.mp hb
 exact zoc (by omega) (by omega) (zoa e)
theorem zo3 {s:Sty}{L:List Itm}(R:Rws2 s L){z:Str}(h:z∈L.map Itm.nm):∃k,k<40/\z=tx (nmL s k):=by
 rw[R.hn] at h;obtain⟨k,hk,e⟩:=waL.mp h;have:=R.hl
 have:=wbo.mp hk
 exact⟨k,by omega,e.symm⟩
theorem zhb {L:List Itm}{odd:Str}(t:Vd 0 L)(hl:L.length<=40)(hn:odd∉L.map Itm.nm)(ho:okTx odd=true){w:Int}(w0:0<=w)(w1:w<5):zaM [.tup (fo L 0),.str odd,.int w]=some (.bl true):=by
 have h1:=zmb t hl hn ho
 have h2:=zjX t hl hn ho
 have h3:zaS [.tup (fo L 0),.str odd]=some (zdk odd):=by
  show Option.bind _ _=_
  show Option.bind (za0 [.tup (fo L 0),.str odd]) _=_
  rw[h2];rfl
 have h4:zdr [.tup (fo L 0),.str odd]=some (zdk odd):=by
  show Option.bind (zaS [.tup (fo L 0),.str odd]) _=_
  rw[h3];rfl
 have h5:zaX [.tup (fo L 0),.str odd]=some (zdk odd):=by
  show Option.bind (zaS [.tup (fo L 0),.str odd]) _=_
  rw[h3];rfl
 have h6:zcn [.tup (fo L 0),.str odd]=some (zdk odd):=by
  show Option.bind (zaX [.tup (fo L 0),.str odd]) _=_
  rw[h5];rfl
 have h7:zco [.tup (fo L 0),.str odd]=some (zdk odd):=by
  show Option.bind (Option.bind (Option.bind ((dIs false) (D.str odd) D.non) dB) fun k=>if k then none else za8 [.tup (fo L 0),.str odd]) _=_
  rw[show dIs false (D.str odd) D.non=some (.bl false) from rfl];show Option.bind (za8 [.tup (fo L 0),.str odd]) _=_
  rw[h1];rfl
 show za3 _ _ _=_
 unfold za3;have e:zl5 (.tup (fo L 0)) (.str odd) (.int w)=some (zdk odd):=by
  unfold zl5;obtain rfl | rfl | rfl | rfl | rfl:w=0\/w=1\/w=2\/w=3\/w=4:=by omega
  ·exact h4
  ·exact h7
  ·exact h6
  ·exact h1
  ·exact h2
 rw[e];show zjT (.str odd) (zdk odd)=_
 unfold zjT;have i1:∀b,isX [("NoPart",b)] (zdk odd)=some (.bl b):=fun b=>rfl
 have i2:zjO "name" ["NoPart"] (zdk odd)=some (.str odd):=rfl
 rw[i1,i1,i2];show Option.bind (Option.bind (Option.bind (dEqG true (.str odd) (.str odd)) dB) _) _=_
 rw[zjx,wax rfl];rfl
theorem zkP {f:D->Option (Option D)}{V:List Str}:∀{T:List Nd}{b:Nat},(∀(j:Nat) (u:Nd),T[j]?=some u->f (.int ((0:Int)+((b+j:Nat):Int)))=some (if u.w=V then some (.str u.n) else none))->zcx f ((List.range' b T.length).map fun(i:Nat)=>D.int (0+(i:Int)))=some ((fl V T).map D.str)
 | [],b,h=>rfl
 | u::T,b,h=>by
   have h0:=h 0 u rfl
   have ih:=zkP (f:=f) (V:=V) (T:=T) (b:=b+1) fun j v hj=>by
    have:=h (j+1) v (by simpa using hj)
    rwa [show b+(j+1)=b+1+j by omega] at this
   show zcx f (D.int (0+(b:Int))::(List.range' (b+1) T.length).map fun(i:Nat)=>D.int (0+(i:Int)))=_
   show(f (.int (0+(b:Int)))).bind _=_
   rw[Nat.add_zero] at h0;rw[h0,zOB];show(zcx f ((List.range' (b+1) T.length).map fun(i:Nat)=>D.int (0+(i:Int)))).bind _=_
   rw[ih,zOB,zf5];by_cases z:u.w=V
   ·rw[if_pos z,if_pos z];rfl
   ·rw[if_neg z,if_neg z]
theorem zf7 {f:D->Option (Option D)}{V:List Str}{T:List Nd}(hl:T.length<=1000)(h:∀(j:Nat) (u:Nd),T[j]?=some u->f (.int (j:Int))=some (if u.w=V then some (.str u.n) else none)):zbp f (zaE 0 T.length)=some ((fl V T).map D.str):=by
 unfold zbp zaE;rw[List.range_eq_range',zkP (b:=0) (V:=V) (T:=T) fun j u hj=>by rw[wcd,Int.zero_add];exact h j u hj,zOB,if_pos];rw[wao];exact wai zdU (wai hl (by decide))
def zj4 (x1 x2 x4 x5 d17:D):Option (Fl Unit (Fl Unit D)):=(Option.bind (Option.bind (Option.bind (Option.bind (aC (bLen [x1]) aN) rngA) (zbp (fun d18=>(Option.bind (Option.bind (Option.bind (dIx x5 d18) fun v22=>(Option.bind (Option.bind (dIx x5 d17) fun v20=>(Option.bind (Option.bind (Option.bind (aC (dIx x4 d17) aN) mkLs) fun ds=>some (.lst ds)) fun v21=>(dAdd v20 v21))) fun v23=>((dEqG false) v22 v23))) dB) fun k19=>if k19 then(Option.bind (dIx x4 d18) fun z=>some (some z)) else some none)))) fun ds=>some (.lst ds)) fun(x24:D)=>(Option.bind (Option.bind (Option.bind (Option.bind (aC (bLen [x1]) aN) rngA) (zbp (fun d25=>(Option.bind (Option.bind (Option.bind (dIx x5 d25) fun v27=>(Option.bind (dIx x5 d17) fun v28=>((dEqG false) v27 v28))) dB) fun k26=>if k26 then(Option.bind (dIx x4 d25) fun z=>some (some z)) else some none)))) fun ds=>some (.lst ds)) fun(x29:D)=>(Option.bind (Option.bind (Option.bind (Option.bind (Option.bind (Option.bind (aC (some x2) (aC (dIx x4 d17) aN)) fun l=>if l.length=2 then Option.bind (zcl l) zcC else none) fun l=>(Option.bind (dIx x5 d17) fun v35=>(Option.bind (zal [.lst l,v35]) zbl))) dTru) fun k34=>some (!k34)) fun k33=>if k33 then some true else(Option.bind (Option.bind (Option.bind (Option.bind (aC (some x2) (aC (dIx x4 d17) aN)) fun l=>if l.length=2 then Option.bind (zaz l) zcC else none) fun l=>(Option.bind (some x24) fun v32=>(Option.bind (zal [.lst l,v32]) zbl))) dTru) fun k31=>some (!k31))) fun k30=>if k30 then(Option.bind (some (.bl false)) fun(r36:D)=>(some (Fl.ret (Fl.ret r36:Fl (Unit) (D)):Fl (Unit) (Fl (Unit) (D))))) else(Option.bind (Option.bind (Option.bind (Option.bind (Option.bind (aC (some x2) (aC (dIx x4 d17) aN)) fun l=>if l.length=2 then Option.bind (zbh l) zcC else none) fun l=>(Option.bind (some x29) fun v39=>(Option.bind (zal [.lst l,v39]) zbl))) dTru) fun k38=>some (!k38)) fun k37=>if k37 then(Option.bind (some (.bl false)) fun(r40:D)=>(some (Fl.ret (Fl.ret r40:Fl (Unit) (D)):Fl (Unit) (Fl (Unit) (D))))) else(some (Fl.nx ():Fl (Unit) (Fl (Unit) (D))))))))
def zj5 (x2 x4 d45 d48:D):Option (Fl Unit (Fl Unit D)):=(Option.bind (Option.bind (Option.bind ((dInG true) d48 x4) dB) fun k51=>if k51 then(Option.bind (Option.bind (zaM [x2,d48,d45]) dTru) fun k50=>some (!k50)) else some false) fun k49=>if k49 then(Option.bind (some (.bl false)) fun(r52:D)=>(some (Fl.ret (Fl.ret r52:Fl (Unit) (D)):Fl (Unit) (Fl (Unit) (D))))) else(some (Fl.nx ():Fl (Unit) (Fl (Unit) (D)))))
theorem zj6 {M:List D->Option (RV×List D)}{a b:D}{W:List Str}{due:Option D}(h:M [a,b]=some (.new 1 (stL W),[.non,.non]))(hd:due=some (stL W))(hw:W.length<=100):Option.bind (Option.bind (aC (some a) (aC (some b) aN)) fun l=>if l.length=2 then Option.bind (M l) zcC else none) (fun l=>Option.bind due fun v=>Option.bind (zal [.lst l,v]) zbl)=some (.bl true):=by
 subst hd;show Option.bind (Option.bind (M [a,b]) zcC) _=_
 rw[h];show Option.bind (zal [stL W,stL W]) zbl=_
 exact ziP hw
def ahD (L:List Itm):D:=.lst ((nR [] L).map fun p=>stL p.1)
def nmsD (L:List Itm):D:=.lst ((L.map Itm.nm).map D.str)
theorem zj7 {L:List Itm}(t:Vd 0 L){j:Nat}{v:Nd}(h:(T8 L)[j]?=some v):dIx (ahD L) (.int (j:Int))=some (stL v.w)/\dIx (nmsD L) (.int (j:Int))=some (.str v.n):=by
 constructor
 ·refine zav ?_;rw[wam,<-zjY t,wam,show(nL 8 (fo L 0) [])[j]?=some v from h];rfl
 ·refine zav ?_;rw[<-zok t,wam,wam,h];rfl
theorem zmj {L:List Itm}(t:Vd 0 L)(hl:L.length<=40):Option.bind (aC (bLen [GB.rowsD L]) aN) rngA=some (zaE 0 (T8 L).length):=by
 have br:bLen [GB.rowsD L]=some (.int (L.length:Int)):=by
  show some (D.int ((L.map Itm.d).length:Int))=_
  rw[wao]
 rw[br,zgO t];show rngA [.int ((L.length:Nat):Int)]=_
 exact zf6 (by omega)
theorem zj8 {L:List Itm}{k:Nat}(t:Vd 0 L)(hl:L.length<=40)(nd:(L.map Itm.nm).Nodup)(hk:k<L.length):zj4 (GB.rowsD L) (.tup (fo L 0)) (nmsD L) (ahD L) (.int (k:Int))=some (.nx ()):=by
 obtain⟨u,K⟩:=kth t hl nd hk;have tl:=zgO t
 obtain⟨i5,i4⟩:=zj7 t K.tk;have wl:=K.wl
 have il:u.i.length<=100:=by rw[<-K.fl2];exact wai zdU (by omega)
 have ll:u.l.length<=100:=by rw[<-K.fl1];exact wai zdU (by omega)
 unfold zj4;rw[zmj t hl,zOB,zf7 (V:=u.w++[u.n]) (T:=T8 L) (by omega) fun j v hj=>by
  obtain⟨j5,j4⟩:=zj7 t hj;rw[j5,zOB,i5,zOB,i4];show Option.bind (Option.bind (Option.bind (dAdd (stL u.w) (.lst [.str u.n])) _) dB) _=_
  rw[ziL (by omega),zOB,ziO,j4];by_cases z:v.w=u.w++[u.n]
  ·rw[wax z,if_pos z];rfl
  ·rw[war z,if_neg z];rfl]
 rw[zOB,zOB,zOB,zf7 (V:=u.w) (T:=T8 L) (by omega) fun j v hj=>by
  obtain⟨j5,j4⟩:=zj7 t hj;rw[j5,zOB,i5,zOB,ziO,j4];by_cases z:v.w=u.w
  ·rw[wax z,if_pos z];rfl
  ·rw[war z,if_neg z];rfl]
 rw[zOB,zOB,K.fl2,K.fl1,i4];rw[zj6 K.ar i5 (by omega),zj6 (due:=some (.lst (u.i.map D.str))) K.inn rfl il,zj6 (due:=some (.lst (u.l.map D.str))) K.lv rfl ll];rfl
theorem zcp {L:List Itm}{odd:Str}(t:Vd 0 L)(hl:L.length<=40)(ho:okTx odd=true){w:Int}(w0:0<=w)(w1:w<5):zj5 (.tup (fo L 0)) (nmsD L) (.int w) (.str odd)=some (.nx ()):=by
 unfold zj5 nmsD;rw[zj3];by_cases hm:odd∈L.map Itm.nm
 ·rw[wax hm];rfl
 ·rw[war hm,zhb t hl hm ho w0 w1];rfl
theorem zom (S:Scr):zjU S (.scr S.p)=some (.bl true):=by
 obtain⟨s,L,e1,R⟩:=zmi (S:=S);have nd:=zol R
 have hl:=R.hl
 have t:=R.t
 have h4:=zkL t
 have tl:=zgO t
 have em:L.map (fun x=>D.str x.nm)=(L.map Itm.nm).map D.str:=by rw[wbv];rfl
 have i1:∀x:Itm,dIx x.d (.int 1)=some (.str x.nm):=fun x=>zav (j:=1) rfl
 have lq:("q" : Str).length=1:=by decide +kernel
 obtain⟨w,hw,hw2,hwc⟩:∃w:Str,dIx (.lst ((L.map Itm.nm).map D.str++[.str "a"])) (.int 0)=some (.str w)/\w.length<=8/\∀c∈w.cps.toList,c<16 ^ 8:=by
  cases hL:L with
  | nil=>exact⟨"a",zav (j:=0) rfl,by decide +kernel,by decide +kernel⟩
  | cons x S0=>
    have hm:x.nm∈L.map Itm.nm:=by rw[hL];exact wal
    obtain⟨k,hk4,e⟩:=zo3 R hm;have:=zod R.o hk4
    refine⟨x.nm,zav (j:=0) rfl,?_,?_⟩
    ·rw[e,ziD];omega
    ·intro c hc;rw[e,zfx] at hc;have:=zoe R.o c hc
     omega
 have aq:dAdd (.str w) (.str "q")=some (.str (w++"q")):=by
  show(if w.length+("q" : Str).length<=lim then _ else none)=_
  rw[if_pos (wai (by omega:_<=100) (by decide))]
 have sq:dSl (.str w) none (some (-1))=some (.str (Txt.slice w none (some (-1)))):=if_pos (wai (by omega:_<=100) (by decide))
 have o1:okTx (w++"q")=true:=ziS (by rw[strLen_append,lq];omega) fun c hc=>by
  have hc:c∈(w.cps++("q" : Str).cps).toList:=hc
  rw[wco] at hc;rcases way.mp hc with hc | hc
  ·exact hwc c hc
  ·have:∀c∈("q" : Str).cps.toList,c<16 ^ 8:=by decide +kernel
   exact this c hc
 have o2:okTx (Txt.slice w none (some (-1)))=true:=ziS (wai (wcs _ _ _) (by omega)) fun c hc=>hwc c (ziR hc)
 have ad:dAdd (.lst ((L.map Itm.nm).map D.str)) (.lst [.str "a"])=some (.lst ((L.map Itm.nm).map D.str++[.str "a"])):=by
  show mkL ((L.map Itm.nm).map D.str++[.str "a"])=_
  unfold mkL;rw[if_pos (wai (by simp;omega:_<=101) (by decide))]
 have ft:fl [] (T8 L)=(fo L 0).map nmD:=zgK
 have fl0:(fo L 0).length<=40:=by
  have h1:=waN List.length ft
  rw[wao] at h1;have:(fl [] (T8 L)).length<=(T8 L).length:=zdU
  omega
 have tin:zaz [.tup (fo L 0),.non]=some (.new 1 (stL (fl [] (T8 L))),[.non,.non]):=by
  rw[ft];exact zha (by omega) (ziQ (n:=7) (zdN t 0).up)
 unfold zjU;rw[show zbo S [.scr S.p]=some (GB.rowsD L) from e1,zOB,zma h4 (by omega),zOB];show Option.bind (Option.bind (Option.bind (some (L.map Itm.d)) _) _) _=_
 rw[zOB,zcP Itm.d (fun x=>D.str x.nm) (by omega) fun x h=>by rw[i1];rfl];rw[zOB,zOB,ziM t hl,zOB,em];refine Eq.trans (waN (fun z=>Option.bind (Option.bind (Option.bind z _) _) _) (zmj t hl)) ?_;rw[zOB,zf7 (V:=[]) (T:=T8 L) (by omega) fun j v hj=>by
  obtain⟨j5,j4⟩:=zj7 t hj;have j5:dIx (.lst ((nR [] L).map fun p=>stL p.1)) (.int (j:Int))=some (stL v.w):=j5
  have j4:dIx (.lst ((L.map Itm.nm).map D.str)) (.int (j:Int))=some (.str v.n):=j4
  rw[j5,zOB,show dEqG false (stL v.w) (.lst [])=some (.bl (decide (v.w = []))) from ziO v.w [],j4];by_cases z:v.w = []
  ·rw[wax z,if_pos z];rfl
  ·rw[war z,if_neg z];rfl]
 rw[zOB,zOB];show Option.bind (rngA [.int ((2:Nat):Int)]) _=_
 rw[zf6 (n:=2) (by decide),zOB,zbO fun d hd=>?_]
 ·show Option.bind (Option.bind (dAdd (.lst ((L.map Itm.nm).map D.str)) (.lst [.str "a"])) _) _=_
  rw[ad,zOB,hw,zOB];show Option.bind (rngA [.int ((5:Nat):Int)]) _=_
  rw[zf6 (n:=5) (by decide),zOB,zbO fun d hd=>?_]
  ·show Option.bind (Option.bind (Option.bind (zbJ [.tup (fo L 0)]) zcC) _) _=_
   rw[zjW t hl];show Option.bind (Option.bind (zal [stL (L.map Itm.nm),stL (L.map Itm.nm)]) zbl) _=_
   rw[ziP (by rw[wao];omega)];rfl
  ·obtain⟨k0,hk0⟩:=List.getElem?_of_mem hd;obtain⟨hk,rfl⟩:=zc6 hk0;have a1:zbN (fun(_:Unit) d=>zj5 (.tup (fo L 0)) (nmsD L) (.int (k0:Int)) d) () [D.str (w++"q"),.str (Txt.slice w none (some (-1))),.str "",.str "A",.str "a b",.str "-"]=some (.nx ()):=zbO fun d hd=>by
    simp only[wag,wcf,or_false] at hd;rcases hd with rfl | rfl | rfl | rfl | rfl | rfl
    ·exact zcp t hl o1 (by omega) (by omega)
    ·exact zcp t hl o2 (by omega) (by omega)
    ·exact zcp t hl (by decide +kernel) (by omega) (by omega)
    ·exact zcp t hl (by decide +kernel) (by omega) (by omega)
    ·exact zcp t hl (by decide +kernel) (by omega) (by omega)
    ·exact zcp t hl (by decide +kernel) (by omega) (by omega)
   rw[aq,show dNeg (.int 1)=some (.int (-1)) from rfl];show Option.bind (Option.bind (Option.bind (Option.bind (aC (some (.str (w++"q"))) (aC (dSl (.str w) none (some (-1))) (aC (some (.str "")) (aC (some (.str "A")) (aC (some (.str "a b")) (aC (some (.str "-")) aN)))))) mkLs) _) dSeq) _=_
   rw[sq];show Option.bind (zbN (fun(_:Unit) d=>zj5 (.tup (fo L 0)) (nmsD L) (.int (k0:Int)) d) () [D.str (w++"q"),.str (Txt.slice w none (some (-1))),.str "",.str "A",.str "a b",.str "-"]) _=_
   rw[a1];rfl
 ·have a2:zbN (fun(_:Unit) d=>zj4 (GB.rowsD L) (.tup (fo L 0)) (nmsD L) (ahD L) d) () (zaE 0 (T8 L).length)=some (.nx ()):=zbO fun d hd=>by
   obtain⟨k0,hk0⟩:=List.getElem?_of_mem hd;obtain⟨hk,rfl⟩:=zc6 hk0;exact zj8 t hl nd (by omega)
  have c1:=zj6 (M:=zaz) (due:=some (.lst ((fl [] (T8 L)).map D.str))) tin rfl (wai zdU (by omega))
  show Option.bind (Option.bind (Option.bind (Option.bind (Option.bind (aC (some (.tup (fo L 0))) (aC (some D.non) aN)) fun l=>if l.length=2 then Option.bind (zaz l) zcC else none) fun l=>Option.bind (some (D.lst ((fl [] (T8 L)).map D.str))) fun v14=>Option.bind (zal [.lst l,v14]) zbl) dTru) _) _=_
  rw[c1];show Option.bind (Option.bind (aC (bLen [GB.rowsD L]) aN) rngA) _=_
  refine Eq.trans (waN (fun z=>Option.bind z _) (zmj t hl)) ?_;show Option.bind (zbN (fun(_:Unit) d=>zj4 (GB.rowsD L) (.tup (fo L 0)) (nmsD L) (ahD L) d) () (zaE 0 (T8 L).length)) _=_
  rw[a2];rfl
end Pg
namespace PySem.W.Fast
def tw18313466953244177658:=0
def tw4660309224486866411:=0
def tw5872291607949584205:=0
def tw1728692648037093255:=0
def tw3514013883651570925:=0
def tw2584025581804875880:=0
def tw14519255845413804479:=0
def tw7205074443767217339:=0
def tw8588188947282947294:=0
def tw17075033822649511049:=0
def tw248539181700525240:=0
def tw14413814971274736074:=0
def tw4744970782598595131:=0
def tw15616207772043329290:=0
def tw16735324218204405176:=0
def tw3837439088304601491:=0
def tw4410059620211326115:=0
def tw11228038904745436463:=0
def tw4453849003933403783:=0
def tw1503277825448137249:=0
def tw15280252570296566845:=0
def tw7997261221164858317:=0
def tw10883405421824602349:=0
def tw2017757633597631592:=0
def tw9402939106477408426:=0
def tw5454740049259050705:=0
end PySem.W.Fast
namespace Pg
open PySem PySem.Spec PyProof PyProof.Rows L2 VD EX
theorem zar {p:Str->Prop}{x:Str}{xs:List Str}(h:p x)(t:∀y∈xs,p y):∀y∈x::xs,p y:=fun y hy=>(wag.mp hy).elim (fun e=>e▸h) (t y)
def FH (K:W.Frag)(x:Str)(st:Stmt)(f:Addr):Prop:=W.nsIn K mainGlobals x=some (some (.ref f))/\(∃fd,Fun K x x st f fd)/\W.keepIn K (.ref f)=true
theorem fh_mk {K:W.Frag}{x:Str}{st:Stmt}{f:Addr}{oc:Value}{od an:Option Addr}{osl:Array (Option Value)}{kV doc pm cdv ct:Value}(a:W.nsIn K mainGlobals x=some (some (.ref f)))(l:K.lookup f=some ⟨oc,od,.func (W.fnOf x x (zcu st) (zaT st) (zac st) .none kV doc pm an cdv ct),osl⟩)(c:W.codeIn K cdv x=true)(k:W.keepIn K (.ref f)=true):FH K x st f:=⟨a,⟨_,zkg l c k⟩,k⟩
theorem zc0:∀(n:Nat) (ds:List D) (d:D),zau n ds=some d->ds.length=2
 | 0,ds,d,e=>by cases e
 | n+1,ds,d,e=>c2_len ds d e
theorem all_mk {l:PySem.W.OpenLaw}{w:World}{K:W.Frag}{h:Heap}{mg:Str->Option Value}{fa f1 f2 f3 f4 f5 f6 f7 f8 f9 f10 f11 f12 f13 f14 f15 f16 f17 f18 f19 f20:Addr}(X:K.In h)(N:h.Ns mainGlobals mg)(hfa:mg "law"=some (.ref fa))
 {od20 an20:Option Addr}{sl20:Array (Option Value)}{oc20 kV20 dc20 pm20 cd20 ct20:Value}
 (h1:FH K "placed_within" zbm f1)
 (h2:FH K "placed_parts" zbw f2)
 (h3:FH K "parts_of" zcf f3)
 (h4:FH K "names_of" zcc f4)
 (h5:FH K "part_of" zcU f5)
 (h6:FH K "place_of" zcd f6)
 (h7:FH K "chain_of" zce f7)
 (h8:FH K "level_parts" zbc f8)
 (h9:FH K "around" zcV f9)
 (h10:FH K "level_of" zbH f10)
 (h11:FH K "inner_of" zbI f11)
 (h12:FH K "_law_feed" zcE f12)
 (h13:FH K "_law_next" zcF f13)
 (h14:FH K "_law_name" zcG f14)
 (h15:FH K "_law_rows" zcH f15)
 (h16:FH K "_law_hung" zbP f16)
 (h17:FH K "_law_aheads" zbQ f17)
 (h18:FH K "_law_list" zcI f18)
 (h19:FH K "_law_refused" zbx f19)
 (a20:W.nsIn K mainGlobals "law"=some (some (.ref f20))) (l20:K.lookup f20=some ⟨oc20,od20,.func (W.fnOf "law" "law" (zcu zc7) (zaT zc7) (zac zc7) .none kV20 dc20 pm20 an20 cd20 ct20),sl20⟩) (c20:W.codeIn K cd20 "law"=true) (k20:W.keepIn K (.ref f20)=true)
 (z0:W.nsIn K mainGlobals "len"=some none)
 (z1:W.nsIn K mainGlobals "range"=some none)
 (z2:W.nsIn K mainGlobals "min"=some none)
 (z3:W.nsIn K mainGlobals "max"=some none)
 (z4:W.nsIn K mainGlobals "int"=some none)
 (z5:W.nsIn K mainGlobals "str"=some none)
 (z6:W.nsIn K mainGlobals "bool"=some none)
 (z7:W.nsIn K mainGlobals "list"=some none)
 (z8:W.nsIn K mainGlobals "tuple"=some none)
 (z9:W.nsIn K mainGlobals "isinstance"=some none)
 (z10:W.nsIn K mainGlobals "any"=some none)
 (z11:W.nsIn K mainGlobals "all"=some none)
 (z12:W.nsIn K mainGlobals "enumerate"=some none)
 (z13:W.nsIn K mainGlobals "abs"=some none)
 (z14:W.nsIn K mainGlobals "sorted"=some none)
 (z15:W.nsIn K mainGlobals "dict"=some none)
 (z16:W.nsIn K mainGlobals "ord"=some none)
 (z17:W.nsIn K mainGlobals "chr"=some none)
 (z18:W.nsIn K mainGlobals "reversed"=some none)
 {tk_PARTS:Tok}
 {tk_NAME:Tok}
 (t_list_NoneType:PySem.W.kitOne K (.type "NoneType") (.type "list")=some false)
 (t_list_bool:PySem.W.kitOne K (.type "bool") (.type "list")=some false)
 (t_list_int:PySem.W.kitOne K (.type "int") (.type "list")=some false)
 (t_list_str:PySem.W.kitOne K (.type "str") (.type "list")=some false)
 (t_list_tuple:PySem.W.kitOne K (.type "tuple") (.type "list")=some false)
 (t_list_list:PySem.W.kitOne K (.type "list") (.type "list")=some true)
 (t_list_dict:PySem.W.kitOne K (.type "dict") (.type "list")=some false)
 (g_PARTS:W.nsIn K mainGlobals "PARTS"=some (some (.int 5 tk_PARTS)))
 (g_NAME:W.nsIn K mainGlobals "NAME"=some (some (.int 0 tk_NAME)))
 {C_NoPart:Addr}(n_NoPart:W.nsIn K mainGlobals "NoPart"=some (some (.ref C_NoPart)))
 {C_FocusError:Addr}(n_FocusError:W.nsIn K mainGlobals "FocusError"=some (some (.ref C_FocusError)))
 {C_NoSheet:Addr}(n_NoSheet:W.nsIn K mainGlobals "NoSheet"=some (some (.ref C_NoSheet)))
 {C_NotOpen:Addr}(n_NotOpen:W.nsIn K mainGlobals "NotOpen"=some (some (.ref C_NotOpen)))
 {C_NoWay:Addr}(n_NoWay:W.nsIn K mainGlobals "NoWay"=some (some (.ref C_NoWay)))
 {C_Twice:Addr}(n_Twice:W.nsIn K mainGlobals "Twice"=some (some (.ref C_Twice)))
 {N_NoPart fI_NoPart:Addr}{bm_NoPart:List Value}{p_NoPart x_NoPart slf_NoPart:Str}{k_NoPart:Nat}{cp_NoPart np_NoPart fp_NoPart jp_NoPart:Pos}{fd_NoPart:FuncData}(xi_NoPart:EX.XI l.prog w K C_NoPart N_NoPart fI_NoPart bm_NoPart slf_NoPart x_NoPart "name" (.JoinedStr [.Constant (.str p_NoPart) k_NoPart cp_NoPart,.FormattedValue (.Name x_NoPart np_NoPart) 114 none fp_NoPart] jp_NoPart) fd_NoPart) (kp_NoPart:W.keepIn K (.ref C_NoPart)=true) (bb_NoPart:bm_NoPart.contains (.type "BaseException")=true) (pl_NoPart:p_NoPart.length<=1000)
 (z_super:W.nsIn K mainGlobals "super"=some none)
 (z_ve:W.nsIn K mainGlobals "ValueError"=some none)
 (fe_b:PySem.W.mroIn K C_FocusError (.type "BaseException")=some true)
 (fe_t:PySem.W.typeIn K (.ref C_FocusError)=some (.type "type"))
 (fe_c:PySem.W.mroIn K C_NoPart (.ref C_FocusError)=some true)
 (x_ga:PySem.W.findIn K (.ref C_NoPart) "__getattribute__"=some (some (.builtin "BaseException.__getattribute__")))
 (x_gt:PySem.W.findIn K (.ref C_NoPart) "__getattr__"=some none)
 (x_bm:PySem.W.mroIn K C_NoPart (.type "BaseException")=some true)
 (x_om:PySem.W.mroIn K C_NoPart (.type "object")=some true)
 (x_hd:PySem.W.hasDictIn K C_NoPart=true)
 (x_cl:PySem.W.findIn K (.ref C_NoPart) "__class__"=some (some (.builtin "object.__class__")))
 (x_sg:PySem.W.specialIn K (.builtin "object.__class__") "__get__"=some (some (.builtin "getset_descriptor.__get__")))
 (x_tk:PySem.W.takesIn K (.builtin "object.__class__")=some true)
 (x_no:PySem.W.findIn K (.ref C_NoPart) "name"=some none)
 (i_1:PySem.W.kitOne K (.ref C_NoPart) (.ref C_NoPart)=some true)
 (i_2:PySem.W.kitAny K (.ref C_NoPart) [.ref C_NoSheet,.ref C_NotOpen,.ref C_NoWay,.ref C_Twice]=some false)
 (i_3:PySem.W.kitOne K (.ref C_NoPart) (.type "ValueError")=some true)
 : ∃fd:FuncData,(∀(s:Shared) (v:Value),BindsTo s fd ⟨[v],[]⟩ [("_law_script",v)])/\∀(base:Heap),K.In base->base.Ns mainGlobals mg->FnOk l.prog w K mg base CX0 18 fa fd ["_law_script"] (spN K):=by
 have e:=hfa.symm.trans (waY X N a20)
 cases e;have K_list:Kit K "list":=⟨t_list_NoneType,t_list_bool,t_list_int,t_list_str,t_list_tuple,t_list_list,t_list_dict⟩
 have G_PARTS:GlobD K mg "PARTS" (.int 5):=zgm (waY X N g_PARTS)
 have G_NAME:GlobD K mg "NAME" (.int 0):=zgm (waY X N g_NAME)
 obtain⟨a1,⟨_,F1⟩,k1⟩:=h1;have b1:=F1.binds (ps:=["parts","outer_place"]) fun _ _ _ _ _ _ us hl=>match us,hl with | [_,_],_=>rfl
 have m1:=waY X N a1
 obtain⟨a2,⟨_,F2⟩,k2⟩:=h2;have b2:=F2.binds (ps:=["sheet"]) fun _ _ _ _ _ _ us hl=>match us,hl with | [_],_=>rfl
 have m2:=waY X N a2
 obtain⟨a3,⟨_,F3⟩,k3⟩:=h3;have b3:=F3.binds (ps:=["sheet"]) fun _ _ _ _ _ _ us hl=>match us,hl with | [_],_=>rfl
 have m3:=waY X N a3
 obtain⟨a4,⟨_,F4⟩,k4⟩:=h4;have b4:=F4.binds (ps:=["sheet"]) fun _ _ _ _ _ _ us hl=>match us,hl with | [_],_=>rfl
 have m4:=waY X N a4
 obtain⟨a5,⟨_,F5⟩,k5⟩:=h5;have b5:=F5.binds (ps:=["sheet","name"]) fun _ _ _ _ _ _ us hl=>match us,hl with | [_,_],_=>rfl
 have m5:=waY X N a5
 obtain⟨a6,⟨_,F6⟩,k6⟩:=h6;have b6:=F6.binds (ps:=["sheet","name"]) fun _ _ _ _ _ _ us hl=>match us,hl with | [_,_],_=>rfl
 have m6:=waY X N a6
 obtain⟨a7,⟨_,F7⟩,k7⟩:=h7;have b7:=F7.binds (ps:=["sheet","name"]) fun _ _ _ _ _ _ us hl=>match us,hl with | [_,_],_=>rfl
 have m7:=waY X N a7
 obtain⟨a8,⟨_,F8⟩,k8⟩:=h8;have b8:=F8.binds (ps:=["sheet","name"]) fun _ _ _ _ _ _ us hl=>match us,hl with | [_,_],_=>rfl
 have m8:=waY X N a8
 obtain⟨a9,⟨_,F9⟩,k9⟩:=h9;have b9:=F9.binds (ps:=["sheet","name"]) fun _ _ _ _ _ _ us hl=>match us,hl with | [_,_],_=>rfl
 have m9:=waY X N a9
 obtain⟨a10,⟨_,F10⟩,k10⟩:=h10;have b10:=F10.binds (ps:=["sheet","name"]) fun _ _ _ _ _ _ us hl=>match us,hl with | [_,_],_=>rfl
 have m10:=waY X N a10
 obtain⟨a11,⟨_,F11⟩,k11⟩:=h11;have b11:=F11.binds (ps:=["sheet","name"]) fun _ _ _ _ _ _ us hl=>match us,hl with | [_,_],_=>rfl
 have m11:=waY X N a11
 obtain⟨a12,⟨_,F12⟩,k12⟩:=h12;have b12:=F12.binds (ps:=["_law_script","_law_k"]) fun _ _ _ _ _ _ us hl=>match us,hl with | [_,_],_=>rfl
 have m12:=waY X N a12
 obtain⟨a13,⟨_,F13⟩,k13⟩:=h13;have b13:=F13.binds (ps:=["_law_feed_here","_law_many"]) fun _ _ _ _ _ _ us hl=>match us,hl with | [_,_],_=>rfl
 have m13:=waY X N a13
 obtain⟨a14,⟨_,F14⟩,k14⟩:=h14;have b14:=F14.binds (ps:=["_law_style","_law_k"]) fun _ _ _ _ _ _ us hl=>match us,hl with | [_,_],_=>rfl
 have m14:=waY X N a14
 obtain⟨a15,⟨_,F15⟩,k15⟩:=h15;have b15:=F15.binds (ps:=["_law_script"]) fun _ _ _ _ _ _ us hl=>match us,hl with | [_],_=>rfl
 have m15:=waY X N a15
 obtain⟨a16,⟨_,F16⟩,k16⟩:=h16;have b16:=F16.binds (ps:=["_law_rows_here"]) fun _ _ _ _ _ _ us hl=>match us,hl with | [_],_=>rfl
 have m16:=waY X N a16
 obtain⟨a17,⟨_,F17⟩,k17⟩:=h17;have b17:=F17.binds (ps:=["_law_rows_here"]) fun _ _ _ _ _ _ us hl=>match us,hl with | [_],_=>rfl
 have m17:=waY X N a17
 obtain⟨a18,⟨_,F18⟩,k18⟩:=h18;have b18:=F18.binds (ps:=["_law_found","_law_due"]) fun _ _ _ _ _ _ us hl=>match us,hl with | [_,_],_=>rfl
 have m18:=waY X N a18
 obtain⟨a19,⟨_,F19⟩,k19⟩:=h19;have b19:=F19.binds (ps:=["_law_sheet","_law_name_here","_law_way"]) fun _ _ _ _ _ _ us hl=>match us,hl with | [_,_,_],_=>rfl
 have m19:=waY X N a19
 have F20:=zkg (st:=zc7) l20 c20 k20
 have b20:=F20.binds (ps:=["_law_script"]) fun _ _ _ _ _ _ us hl=>match us,hl with | [_],_=>rfl
 have m20:=waY X N a20
 have B:Blt mg:=zar (waE X N z0) (zar (waE X N z1) (zar (waE X N z2) (zar (waE X N z3) (zar (waE X N z4) (zar (waE X N z5) (zar (waE X N z6) (zar (waE X N z7) (zar (waE X N z8) (zar (waE X N z9) (zar (waE X N z10) (zar (waE X N z11) (zar (waE X N z12) (zar (waE X N z13) (zar (waE X N z14) (zar (waE X N z15) (zar (waE X N z16) (zar (waE X N z17) (zar (waE X N z18) (fun _ hy=>by cases hy)))))))))))))))))))
 have m_NoPart:=waY X N n_NoPart
 have m_FocusError:=waY X N n_FocusError
 have m_NoSheet:=waY X N n_NoSheet
 have m_NotOpen:=waY X N n_NotOpen
 have m_NoWay:=waY X N n_NoWay
 have m_Twice:=waY X N n_Twice
 have X_NoPart:XCl l.prog w K mg "NoPart" "name" zfQ:=zjQ xi_NoPart (waE X N z_super) m_NoPart n_NoPart kp_NoPart bb_NoPart pl_NoPart
 have xk1:EX.XK1 K C_NoPart:=⟨x_ga,x_gt,x_bm,x_om,x_hd,x_cl,x_sg,x_tk⟩
 have gf:EX.XG K C_NoPart "name":=⟨x_ga,x_gt,x_bm,x_no,x_hd⟩
 refine⟨W.fnOf "law" "law" (zcu zc7) (zaT zc7) (zac zc7) .none kV20 dc20 pm20 an20 cd20 ct20,fun s v=>.of_eq rfl,fun base hk hn=>lawN (m:=znY) (fun S=>?_) fun S=>zom S⟩;have g_placed_within:=zkr (P:=l.prog) (w:=w) (K:=K) (mg:=mg) (base:=base) (x:="placed_within") (ps:=["parts","outer_place"]) (b:=zbn) (m:=zau) (k:=0) (fun _=>rfl) (fun _=>rfl) b1 k1 m1 (zc0) (fun {n} {self} C=>by rw[wcd] at *;exact zdi F1 B C G_PARTS) 8
 have C_placed_within:=zaU (x:="placed_within") g_placed_within b1 k1 m1
 have g_placed_parts:=zdP (P:=l.prog) (w:=w) (mg:=mg) (base:=base) F2 B C_placed_within
 have C_placed_parts:=zaU (x:="placed_parts") g_placed_parts b2 k2 m2
 have g_parts_of:=zfU (P:=l.prog) (w:=w) (mg:=mg) (base:=base) F3 B C_placed_parts
 have C_parts_of:=zaU (x:="parts_of") g_parts_of b3 k3 m3
 have g_names_of:=zfW (P:=l.prog) (w:=w) (mg:=mg) (base:=base) F4 B C_parts_of G_NAME
 have C_names_of:=zaU (x:="names_of") g_names_of b4 k4 m4
 have g_part_of:=zg9 (P:=l.prog) (w:=w) (mg:=mg) (base:=base) F5 B C_parts_of G_NAME
 have C_part_of:=zaU (x:="part_of") g_part_of b5 k5 m5
 have g_place_of:=zfX (P:=l.prog) (w:=w) (mg:=mg) (base:=base) F6 B C_placed_parts G_NAME
 have C_place_of:=zaU (x:="place_of") g_place_of b6 k6 m6
 have g_chain_of:=zfY (P:=l.prog) (w:=w) (mg:=mg) (base:=base) F7 B C_place_of G_PARTS
 have C_chain_of:=zaU (x:="chain_of") g_chain_of b7 k7 m7
 have g_level_parts:=zd0 (P:=l.prog) (w:=w) (mg:=mg) (base:=base) F8 B C_chain_of G_PARTS
 have C_level_parts:=zaU (x:="level_parts") g_level_parts b8 k8 m8
 have g_around:=zix (P:=l.prog) (w:=w) (mg:=mg) (base:=base) F9 B C_chain_of G_NAME
 have C_around:=zaU (x:="around") g_around b9 k9 m9
 have g_level_of:=zf0 (P:=l.prog) (w:=w) (mg:=mg) (base:=base) F10 B C_level_parts G_NAME
 have C_level_of:=zaU (x:="level_of") g_level_of b10 k10 m10
 have g_inner_of:=zf1 (P:=l.prog) (w:=w) (mg:=mg) (base:=base) F11 B C_part_of G_PARTS G_NAME
 have C_inner_of:=zaU (x:="inner_of") g_inner_of b11 k11 m11
 have gLfeed:=zfk (P:=l.prog) (w:=w) (mg:=mg) (base:=base) F12 B (Pc:=SqF K S) pers_F (S:=S) (fun H h=>h)
 have CLfeed:=zaU (x:="_law_feed") gLfeed b12 k12 m12
 have gLnext:=zfl (P:=l.prog) (w:=w) (mg:=mg) (base:=base) F13 B
 have CLnext:=zaU (x:="_law_next") gLnext b13 k13 m13
 have gLname:=zfm (P:=l.prog) (w:=w) (mg:=mg) (base:=base) F14 B
 have CLname:=zaU (x:="_law_name") gLname b14 k14 m14
 have gLrows:=zfn (P:=l.prog) (w:=w) (mg:=mg) (base:=base) F15 B (Pc:=SqF K S) pers_F (S:=S) CLfeed CLnext CLname
 have CLrows:=zaU (x:="_law_rows") gLrows b15 k15 m15
 have gLhung:=zfo (P:=l.prog) (w:=w) (mg:=mg) (base:=base) F16 B
 have CLhung:=zaU (x:="_law_hung") gLhung b16 k16 m16
 have gLaheads:=zd1 (P:=l.prog) (w:=w) (mg:=mg) (base:=base) F17 B
 have CLaheads:=zaU (x:="_law_aheads") gLaheads b17 k17 m17
 have gLlist:=zfq (P:=l.prog) (w:=w) (mg:=mg) (base:=base) F18 B K_list
 have CLlist:=zaU (x:="_law_list") gLlist b18 k18 m18
 have gx_part_of:=zfh (P:=l.prog) (w:=w) (mg:=mg) (base:=base) F5 B C_parts_of G_NAME X_NoPart
 have X_part_of:=zcD (x:="part_of") gx_part_of b5 k5 m5
 have gx_place_of:=zeD (P:=l.prog) (w:=w) (mg:=mg) (base:=base) F6 B C_placed_parts G_NAME X_NoPart
 have X_place_of:=zcD (x:="place_of") gx_place_of b6 k6 m6
 have gx_chain_of:=zeE (P:=l.prog) (w:=w) (mg:=mg) (base:=base) F7 B X_place_of
 have X_chain_of:=zcD (x:="chain_of") gx_chain_of b7 k7 m7
 have gx_level_parts:=zdj (P:=l.prog) (w:=w) (mg:=mg) (base:=base) F8 B X_chain_of
 have X_level_parts:=zcD (x:="level_parts") gx_level_parts b8 k8 m8
 have gx_around:=zfZ (P:=l.prog) (w:=w) (mg:=mg) (base:=base) F9 B X_chain_of
 have X_around:=zcD (x:="around") gx_around b9 k9 m9
 have gx_level_of:=zeF (P:=l.prog) (w:=w) (mg:=mg) (base:=base) F10 B X_level_parts
 have X_level_of:=zcD (x:="level_of") gx_level_of b10 k10 m10
 have gx_inner_of:=zeG (P:=l.prog) (w:=w) (mg:=mg) (base:=base) F11 B X_part_of
 have X_inner_of:=zcD (x:="inner_of") gx_inner_of b11 k11 m11
 have gLrefused:=zdR (P:=l.prog) (w:=w) (mg:=mg) (base:=base) F19 B X_around X_inner_of X_level_of X_part_of X_place_of (zjS m_FocusError n_NoPart fe_c (zl0 m_FocusError fe_b fe_t)) m_NoPart m_NoSheet m_NotOpen m_NoWay m_Twice (waE X N z_ve) (zd9 n_NoPart xk1 i_1 zfg) (zfR n_NoPart xk1 i_2 (zg8 (by show 4<=sizeLine;decide))) (zd9 n_NoPart xk1 i_3 zfg) (ziv n_NoPart gf zjR)
 have CLrefused:=zaU (x:="_law_refused") gLrefused b19 k19 m19
 exact znZ (P:=l.prog) (w:=w) (mg:=mg) (base:=base) F20 B (Pc:=SqF K S) pers_F (S:=S) CLrows CLhung CLaheads CLlist C_inner_of C_around C_level_of CLrefused C_names_of
end Pg
open PySem PySem.W PyProof.Rows
set_option maxRecDepth 100000 in
set_option maxHeartbeats 0 in
theorem PySem.Challenge.cw_focuswalk_k03_around_and_levels_holds : PySem.Challenge.rw_focuswalk_k03_around_and_levels.Holds := by
 w_on;o_law;k_head;(case hw=>w_witness2)
 k_fill
 refine L2.walk_ofK (l:=PySem.Challenge.rw_focuswalk_k03_around_and_levels) (n:=63) (k:=18) (x:="_law_script") (CX:=L2.CX0) (sp:=VD.spN) rfl (by decide) rfl ⟨rfl,by decide,by decide,rfl⟩ (fun w h Y=>PySem.W.kIn_of Y) ?F (fun K H a ns hl hO hS=>VD.spN_of hO hS) (fun _ _ _ _ z=>z);case F=>
  intro w mg fa h KX N hmg;refine' Pg.all_mk KX N hmg (Pg.fh_mk ?a1 ?l1 ?c1 ?k1) (Pg.fh_mk ?a2 ?l2 ?c2 ?k2) (Pg.fh_mk ?a3 ?l3 ?c3 ?k3) (Pg.fh_mk ?a4 ?l4 ?c4 ?k4) (Pg.fh_mk ?a5 ?l5 ?c5 ?k5) (Pg.fh_mk ?a6 ?l6 ?c6 ?k6) (Pg.fh_mk ?a7 ?l7 ?c7 ?k7) (Pg.fh_mk ?a8 ?l8 ?c8 ?k8) (Pg.fh_mk ?a9 ?l9 ?c9 ?k9) (Pg.fh_mk ?a10 ?l10 ?c10 ?k10) (Pg.fh_mk ?a11 ?l11 ?c11 ?k11) (Pg.fh_mk ?a12 ?l12 ?c12 ?k12) (Pg.fh_mk ?a13 ?l13 ?c13 ?k13) (Pg.fh_mk ?a14 ?l14 ?c14 ?k14) (Pg.fh_mk ?a15 ?l15 ?c15 ?k15) (Pg.fh_mk ?a16 ?l16 ?c16 ?k16) (Pg.fh_mk ?a17 ?l17 ?c17 ?k17) (Pg.fh_mk ?a18 ?l18 ?c18 ?k18) (Pg.fh_mk ?a19 ?l19 ?c19 ?k19) ?a20 ?l20 ?c20 ?k20 ?z0 ?z1 ?z2 ?z3 ?z4 ?z5 ?z6 ?z7 ?z8 ?z9 ?z10 ?z11 ?z12 ?z13 ?z14 ?z15 ?z16 ?z17 ?z18 ?t_list_NoneType ?t_list_bool ?t_list_int ?t_list_str ?t_list_tuple ?t_list_list ?t_list_dict ?g_PARTS ?g_NAME ?n_NoPart ?n_FocusError ?n_NoSheet ?n_NotOpen ?n_NoWay ?n_Twice (EX.xi_mk ?lk_NoPart ?i_NoPart ?lf_NoPart ?opq_NoPart ?self_NoPart ?st_NoPart ?tak_NoPart ?cdi_NoPart ?hc_NoPart ?lc_NoPart ?lcc_NoPart ?occd_NoPart ?inC_NoPart ?t1_NoPart ?sN_NoPart ?und_NoPart ?hasD_NoPart ?body_NoPart ?ne_NoPart ?dbg_NoPart ?par_NoPart ?bind_NoPart ?cell_NoPart ?loc1_NoPart ?loc2_NoPart ?flags_NoPart ?kinds_NoPart ?file_NoPart ?top_NoPart ?glob_NoPart ?blt_NoPart ?ccl_NoPart) ?kp_NoPart ?bb_NoPart ?pl_NoPart ?z_super ?z_ve ?fe_b ?fe_t ?fe_c ?x_ga ?x_gt ?x_bm ?x_om ?x_hd ?x_cl ?x_sg ?x_tk ?x_no ?i_1 ?i_2 ?i_3
  (case n_NoPart=>k_is)
  (case n_FocusError=>k_is)
  (case n_NoSheet=>k_is)
  (case n_NotOpen=>k_is)
  (case n_NoWay=>k_is)
  (case n_Twice=>k_is)
  (case lk_NoPart=>k_is)
  (case i_NoPart=>k_is)
  (case lf_NoPart=>k_is)
  (case opq_NoPart=>k_is)
  (case self_NoPart=>k_is)
  (case st_NoPart=>k_is)
  (case tak_NoPart=>k_is)
  (case cdi_NoPart=>first | k_is | exact rfl)
  (case hc_NoPart=>exact rfl)
  (case lc_NoPart=>k_is)
  (case ccl_NoPart=>exact fun _=>rfl)
  (case lcc_NoPart=>k_is)
  (case occd_NoPart=>exact rfl)
  (case inC_NoPart=>exact rfl)
  (case t1_NoPart=>exact rfl)
  (case sN_NoPart=>exact rfl)
  (case und_NoPart=>exact rfl)
  (case hasD_NoPart=>exact rfl)
  (case body_NoPart=>exact⟨_,_,_,_,_,_,_,_,_,rfl,fun _=>rfl,fun _=>rfl,fun _=>rfl,fun _=>rfl,fun _=>_,fun _=>rfl⟩)
  (case ne_NoPart=>decide)
  (case dbg_NoPart=>decide)
  (case par_NoPart=>exact⟨_,rfl,rfl⟩)
  (case bind_NoPart=>exact fun _ _=>rfl)
  (case cell_NoPart=>decide)
  (case loc1_NoPart=>exact rfl)
  (case loc2_NoPart=>exact rfl)
  (case flags_NoPart=>exact⟨rfl,rfl,rfl⟩)
  (case kinds_NoPart=>exact fun _=>⟨rfl,rfl,rfl,rfl⟩)
  (case file_NoPart=>exact⟨_,_,_,rfl,rfl,rfl⟩)
  (case top_NoPart=>exact rfl)
  (case glob_NoPart=>exact fun _=>rfl)
  (case blt_NoPart=>exact fun _=>rfl)
  (case pl_NoPart=>decide +kernel)
  all_goals try first | k_is | exact rfl | kit_is
